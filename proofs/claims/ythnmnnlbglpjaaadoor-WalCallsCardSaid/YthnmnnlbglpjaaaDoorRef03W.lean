/- Two rows of writes alike, by the reference. -/
import Derived.Test.YthnmnnlbglpjaaaDoorWrt
import Derived.Deep.QuietTactic
import Derived.Test.YthnmnnlbglpjaaaDoorResRow
namespace Go.Proofs.YthnmnnlbglpjaaaDoor
open Go.RowKit
set_option linter.unusedVariables false

set_option maxRecDepth 100000 in
set_option maxHeartbeats 1000000 in
theorem refLikeWrites_any (va vb : Value) (la lb : List Wrt) (w : World) (ha : IsWrts w va la) (hb : IsWrts w vb lb) :
    Calls Tryd.prog 23 #[va, vb] w fun e w' => e = .returned (.bool (decide (la = lb))) ∧ Below w.heap.size w w' := by
  obtain ⟨a, len, cap, rfl, hlen, hc1, hc2, hba, hat⟩ := ha
  obtain ⟨a', len', cap', rfl, hlen', hc1', hc2', hbb, hat'⟩ := hb
  have hlI : (len : Int) ≤ 9223372036854775807 := by omega
  have hlI' : (len' : Int) ≤ 9223372036854775807 := by omega
  have HA := Lib.hid hat; have HA' := Lib.hid hat'
  clear hat hat' hba hbb
  by_cases hll : len = len'
  · subst hll
    go_enter Tryd.func23, Tryd.ntmps23
    go_wp2_with fail
    go_loopw [13] (fun z wr => ∃ k : Nat, k ≤ len ∧ z = .int .i64 k ∧ la.take k = lb.take k ∧ Below w.heap.size w wr) (fun z _ => len - (intOf z).toNat)
    case atStart => exact ⟨0, by omega, rfl, rfl, Below.refl _ _⟩
    case round =>
      obtain ⟨k, hk, rfl, hpre, hbel⟩ := hrel
      by_cases hlt : k < len
      · have hkI : (k : Int) < len := by omega
        obtain ⟨b, off, rfl, hb, hat⟩ := HA.out.resolve_left (by omega)
        obtain ⟨b', off', rfl, hb', hat'⟩ := HA'.out.resolve_left (by omega)
        obtain ⟨x0, x1⟩ := (hat k hlt).below hbel hb
        obtain ⟨y0, y1⟩ := (hat' k hlt).below hbel hb'
        have hka : k < la.length := by omega
        have hkb : k < lb.length := by omega
        have ea : la.getD k wrtZ = la[k] := by simp [List.getD, hka]
        have eb : lb.getD k wrtZ = lb[k] := by simp [List.getD, hkb]
        rw [ea] at x0 x1
        rw [eb] at y0 y1
        have hsn : la[k] = lb[k] → la.take (k + 1) = lb.take (k + 1) := fun h => by
          rw [← List.take_append_getElem hka, ← List.take_append_getElem hkb, hpre, h]
        have hno : la[k] ≠ lb[k] → decide (la = lb) = false := fun h => decide_eq_false (fun e => h (by subst e; rfl))
        have HSN := Lib.hid hsn; have HNO := Lib.hid hno
        clear hat hat' ea eb hsn hno hpre
        generalize la[k] = X at *
        generalize lb[k] = Y at *
        obtain ⟨s, t⟩ := X
        obtain ⟨s', t'⟩ := Y
        simp only at x0 x1 y0 y1
        have hbd := hbel.drew
        by_cases h1 : s = s'
        · subst h1
          by_cases h2 : t = t'
          · subst h2
            have HS2 := Lib.hid (HSN.out rfl)
            clear HSN HNO
            go_wp2_with fail
            go_quiet (fail)
            go_wp2_with fail
            go_roundw
            case rel => exact ⟨k + 1, by omega, by go_num, HS2.out, by first | exact hbel | exact belowN hbel _⟩
            case measure => simp [intOf]; omega
          · have hd := HNO.out (fun e => h2 (Wrt.mk.inj e).2)
            have hne := ba_tne h2
            have HD := Lib.hid hd
            clear hd HSN HNO h2
            go_wp2_with fail
            go_quiet (fail)
            go_wp2_with fail
            go_ret
            exact ⟨by rw [HD.out]; rfl, by first | exact hbel | exact belowN hbel _⟩
        · have hd := HNO.out (fun e => h1 (Wrt.mk.inj e).1)
          have HD := Lib.hid hd
          clear hd HSN HNO
          go_wp2_with fail
          go_quiet (fail)
          go_wp2_with fail
          go_ret
          exact ⟨by rw [HD.out]; rfl, by first | exact hbel | exact belowN hbel _⟩
      · obtain rfl : k = len := by omega
        have hd : decide (la = lb) = true := decide_eq_true (by rwa [List.take_of_length_le (by omega), List.take_of_length_le (by omega)] at hpre)
        have HD := Lib.hid hd
        clear hd hpre hlt
        go_wp2_with fail
        go_ret
        exact ⟨by rw [HD.out]; rfl, hbel⟩
  · have hF : decide (la = lb) = false := decide_eq_false (fun e => hll (by rw [← hlen, ← hlen', e]))
    rw [hF]
    have hne : (len : Int) ≠ len' := by omega
    clear hF hll
    go_enter Tryd.func23, Tryd.ntmps23
    go_wp2_with fail
    go_ret
    exact ⟨rfl, Below.refl _ _⟩

end Go.Proofs.YthnmnnlbglpjaaaDoor
