/- Two rows of numbers alike. -/
import Derived.Test.YtbndhegmfnfahaaRoomT
namespace Go.Proofs.Ytbndhegmfnfahaa
open Go.RowKit
set_option linter.unusedVariables false

set_option maxRecDepth 100000 in
set_option maxHeartbeats 1000000 in
theorem refSameInts_any (va vb : Value) (la lb : List Nat) (w : World) (ha : IsNats w va la) (hb : IsNats w vb lb) :
    Calls Try.prog 37 #[va, vb] w fun e w' => e = .returned (.bool (decide (la = lb))) ∧ Below w.heap.size w w' := by
  obtain ⟨a, len, cap, rfl, hlen, hc1, hc2, hat⟩ := ha
  obtain ⟨a', len', cap', rfl, hlen', hc1', hc2', hat'⟩ := hb
  have hlI : (len : Int) ≤ 9223372036854775807 := by omega
  have hlI' : (len' : Int) ≤ 9223372036854775807 := by omega
  by_cases hl : len = len'
  · subst hl
    have HX := Lib.hid (fun (h : la.take len = lb.take len) => show la = lb by rwa [List.take_of_length_le (by omega), List.take_of_length_le (by omega)] at h)
    have HA := Lib.hid hat; have HA' := Lib.hid hat'; have HL := Lib.hid hlen; have HL' := Lib.hid hlen'
    clear hat hat' hlen hlen'
    go_enter Try.func37, Try.ntmps37
    go_wp2_with fail
    go_loopw [13] (fun c wr => ∃ k : Nat, k ≤ len ∧ c = .int .i64 k ∧ la.take k = lb.take k ∧ Below w.heap.size w wr) (fun c _ => len - (intOf c).toNat)
    case atStart => exact ⟨0, by omega, rfl, rfl, Below.refl _ _⟩
    case round =>
      obtain ⟨k, hk, rfl, heq, hwr⟩ := hrel
      have HQ := Lib.hid heq
      clear heq
      by_cases hlt : k < len
      · obtain ⟨b, off, rfl, hbl, hat⟩ := HA.out.resolve_left (by omega)
        obtain ⟨b', off', rfl, hbl', hat'⟩ := HA'.out.resolve_left (by omega)
        have hkl : k < la.length := by have := HL.out; omega
        have hkl' : k < lb.length := by have := HL'.out; omega
        have hi := (hwr.cell (p := ⟨b, off + k, none⟩) hbl).trans (hat k hkl)
        have hi' := (hwr.cell (p := ⟨b', off' + k, none⟩) hbl').trans (hat' k hkl')
        clear hat hat'
        have hk0 : (0 : Int) ≤ k := by omega
        have hk1 : (k : Int) < len := by omega
        have hsn : la[k] = lb[k] → la.take (k + 1) = lb.take (k + 1) := fun h => by
          rw [← List.take_append_getElem hkl, ← List.take_append_getElem hkl', HQ.out, h]
        have hno : la[k] ≠ lb[k] → decide (la = lb) = false := fun h => decide_eq_false (fun e => h (by subst e; rfl))
        have HS := Lib.hid hsn; have HNO := Lib.hid hno
        clear hsn hno
        generalize la[k] = x at *
        generalize lb[k] = y at *
        simp only [natV] at hi hi'
        by_cases hxy : x = y
        · subst hxy
          have hs := HS.out rfl
          have HSS := Lib.hid hs
          clear hs HNO
          go_wp2_with fail
          go_quiet (fail)
          go_wp2_with fail
          go_roundw
          case rel => exact ⟨k + 1, by omega, by go_num, HSS.out, by first | exact hwr | exact belowN hwr _⟩
          case measure => simp [intOf]; omega
        · have hd := HNO.out hxy
          have HD := Lib.hid hd
          have hne : ((x : Int) != (y : Int)) = true := by rw [bne_iff_ne]; omega
          clear hd hxy HS HNO
          go_wp2_with fail
          go_quiet (fail)
          go_wp2_with fail
          go_ret
          exact ⟨by rw [HD.out]; rfl, by first | exact hwr | exact belowN hwr _⟩
      · obtain rfl : k = len := by omega
        have hd : decide (la = lb) = true := decide_eq_true (HX.out HQ.out)
        have HD := Lib.hid hd
        clear hd
        go_wp2_with fail
        go_ret
        exact ⟨by rw [HD.out]; rfl, hwr⟩
  · have hd : decide (la = lb) = false := decide_eq_false (fun h => hl (by rw [h] at hlen; omega))
    have hlb : ((len : Int) != len') = true := by rw [bne_iff_ne]; omega
    have HD := Lib.hid hd
    clear hd hat hat' hlen hlen' hl
    go_enter Try.func37, Try.ntmps37
    go_wp2_with fail
    go_ret
    exact ⟨by rw [HD.out]; rfl, Below.refl _ _⟩

end Go.Proofs.Ytbndhegmfnfahaa
