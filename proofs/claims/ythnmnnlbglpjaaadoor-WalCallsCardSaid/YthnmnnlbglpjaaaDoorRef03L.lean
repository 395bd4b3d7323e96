/- Two disks alike, by the reference. -/
import Derived.Test.YthnmnnlbglpjaaaDoorDisk
import Derived.Test.YthnmnnlbglpjaaaDoorRef03W
import Derived.Deep.QuietTactic
import Derived.Test.YthnmnnlbglpjaaaDoorResRow
namespace Go.Proofs.YthnmnnlbglpjaaaDoor
open Go.RowKit
set_option linter.unusedVariables false

set_option maxRecDepth 100000 in
set_option maxHeartbeats 1000000 in
theorem refLike_any (va vb : Value) (x y : Dsk) (w : World) (ha : IsDisk w va x) (hb : IsDisk w vb y) :
    Calls Tryd.prog 44 #[va, vb] w fun e w' => e = .returned (.bool (decide (x = y))) ∧ Below w.heap.size w w' := by
  obtain ⟨sv, pv, rfl, hs, hp⟩ := ha
  obtain ⟨sv', pv', rfl, hs', hp'⟩ := hb
  have HLW := Lib.hid (fun u h1 h2 => refLikeWrites_any pv pv' x.pend y.pend u h1 h2)
  have HP := Lib.hid hp; have HP' := Lib.hid hp'
  obtain ⟨a, len, cap, rfl, hlen, hc1, hc2, hbs, hat⟩ := hs
  obtain ⟨a', len', cap', rfl, hlen', hc1', hc2', hbs', hat'⟩ := hs'
  obtain ⟨c, n, ccap, rfl, hn, hd1, hd2, _, _⟩ := hp
  obtain ⟨c', n', ccap', rfl, hn', hd1', hd2', _, _⟩ := hp'
  have hlI : (len : Int) ≤ 9223372036854775807 := by omega
  have hlI' : (len' : Int) ≤ 9223372036854775807 := by omega
  have hnI : (n : Int) ≤ 9223372036854775807 := by omega
  have hnI' : (n' : Int) ≤ 9223372036854775807 := by omega
  have HA := Lib.hid hat; have HA' := Lib.hid hat'
  have hb2 : Below w.heap.size w ((w.alloc (.cells #[.slice a len cap, .slice c n ccap] 25)).alloc (.cells #[.slice a' len' cap', .slice c' n' ccap'] 25)) := ((Below.refl _ w).alloc (Nat.le_refl _) _).alloc (by simp) _
  have hB0 := heap_alloc2_old w (.cells #[.slice a len cap, .slice c n ccap] 25) (.cells #[.slice a' len' cap', .slice c' n' ccap'] 25)
  have hB1 := heap_alloc2_new w (.cells #[.slice a len cap, .slice c n ccap] 25) (.cells #[.slice a' len' cap', .slice c' n' ccap'] 25)
  clear hat hat' hbs hbs'
  by_cases hll : len = len'
  · by_cases hnn : n = n'
    · subst hll hnn
      go_enter Tryd.func44, Tryd.ntmps44
      go_wp2_with fail
      generalize (w.alloc (.cells #[.slice a len cap, .slice c n ccap] 25)).alloc (.cells #[.slice a' len cap', .slice c' n ccap'] 25) = W1 at *
      have hl0 := (Array.getElem?_eq_some_iff.1 hB0).1
      have hl1 := (Array.getElem?_eq_some_iff.1 hB1).1
      have z0 : W1.cell? ⟨w.heap.size, 0, none⟩ = some (.slice a len cap) := by rw [cell_of_row _ _ 0 _ _ _ hB0]; rfl
      have z1 : W1.cell? ⟨w.heap.size, 1, none⟩ = some (.slice c n ccap) := by rw [cell_of_row _ _ 1 _ _ _ hB0]; rfl
      have z2 : W1.cell? ⟨w.heap.size + 1, 0, none⟩ = some (.slice a' len cap') := by rw [cell_of_row _ _ 0 _ _ _ hB1]; rfl
      have z3 : W1.cell? ⟨w.heap.size + 1, 1, none⟩ = some (.slice c' n ccap') := by rw [cell_of_row _ _ 1 _ _ _ hB1]; rfl
      clear hB0 hB1
      go_loopw [25] (fun z wr => ∃ k : Nat, k ≤ len ∧ z = .int .i64 k ∧ x.secs.take k = y.secs.take k ∧ Below W1.heap.size W1 wr) (fun z _ => len - (intOf z).toNat)
      case atStart => exact ⟨0, by omega, rfl, rfl, Below.refl _ _⟩
      case round =>
        obtain ⟨k, hk, rfl, hpre, hbel⟩ := hrel
        have y0 := (hbel.cell (p := ⟨w.heap.size, 0, none⟩) hl0).trans z0
        have y1 := (hbel.cell (p := ⟨w.heap.size, 1, none⟩) hl0).trans z1
        have y2 := (hbel.cell (p := ⟨w.heap.size + 1, 0, none⟩) hl1).trans z2
        have y3 := (hbel.cell (p := ⟨w.heap.size + 1, 1, none⟩) hl1).trans z3
        have hbw := hb2.trans (hbel.mono hb2.size)
        by_cases hlt : k < len
        · have hkI : (k : Int) < len := by omega
          obtain ⟨b, off, rfl, hb, hat⟩ := HA.out.resolve_left (by omega)
          obtain ⟨b', off', rfl, hb', hat'⟩ := HA'.out.resolve_left (by omega)
          have x0 := (hbw.cell (p := ⟨b, off + k, none⟩) hb).trans (hat k hlt)
          have x1 := (hbw.cell (p := ⟨b', off' + k, none⟩) hb').trans (hat' k hlt)
          have hka : k < x.secs.length := by omega
          have hkb : k < y.secs.length := by omega
          have ea : x.secs.getD k ByteArray.empty = x.secs[k] := by simp [List.getD, hka]
          have eb : y.secs.getD k ByteArray.empty = y.secs[k] := by simp [List.getD, hkb]
          rw [ea] at x0
          rw [eb] at x1
          have hsn : x.secs[k] = y.secs[k] → x.secs.take (k + 1) = y.secs.take (k + 1) := fun h => by
            rw [← List.take_append_getElem hka, ← List.take_append_getElem hkb, hpre, h]
          have hno : x.secs[k] ≠ y.secs[k] → decide (x = y) = false := fun h => decide_eq_false (fun e => h (by subst e; rfl))
          have HSN := Lib.hid hsn; have HNO := Lib.hid hno
          clear hat hat' ea eb hsn hno hpre
          generalize x.secs[k] = X at *
          generalize y.secs[k] = Y at *
          by_cases h1 : X = Y
          · subst h1
            have HS2 := Lib.hid (HSN.out rfl)
            clear HSN HNO
            go_wp2_with fail
            go_quiet (fail)
            go_wp2_with fail
            go_roundw
            case rel => exact ⟨k + 1, by omega, by go_num, HS2.out, by first | exact hbel | exact belowN hbel _⟩
            case measure => simp [intOf]; omega
          · have hd := HNO.out h1
            have hne := ba_tne h1
            have HD := Lib.hid hd
            clear hd HSN HNO h1
            go_wp2_with fail
            go_quiet (fail)
            go_wp2_with fail
            go_ret
            exact ⟨by rw [HD.out]; rfl, by first | exact hbw | exact belowN hbw _⟩
        · obtain rfl : k = len := by omega
          have hss : x.secs = y.secs := by rwa [List.take_of_length_le (by omega), List.take_of_length_le (by omega)] at hpre
          have hd : decide (x = y) = decide (x.pend = y.pend) := by
            rw [decide_eq_decide]
            refine ⟨fun e => by rw [e], fun e => ?_⟩
            cases x; cases y; simp_all
          have HD := Lib.hid hd
          clear hd hss hpre hlt
          go_wp2_with fail
          refine (HLW.out wr (HP.out.below hbw) (HP'.out.below hbw)).mono ?_
          rintro e w5 ⟨rfl, hb5⟩
          go_wp2_with fail
          go_ret
          exact ⟨by rw [HD.out]; rfl, hbw.trans (hb5.mono hbw.size)⟩
    · subst hll
      have hF : decide (x = y) = false := decide_eq_false (fun e => hnn (by rw [← hn, ← hn', e]))
      rw [hF]
      have hne : (n : Int) ≠ n' := by omega
      clear hF hnn
      go_enter Tryd.func44, Tryd.ntmps44
      go_wp2_with fail
      go_ret
      exact ⟨rfl, hb2⟩
  · have hF : decide (x = y) = false := decide_eq_false (fun e => hll (by rw [← hlen, ← hlen', e]))
    rw [hF]
    have hne : (len : Int) ≠ len' := by omega
    clear hF hll
    go_enter Tryd.func44, Tryd.ntmps44
    go_wp2_with fail
    go_ret
    exact ⟨rfl, hb2⟩
end Go.Proofs.YthnmnnlbglpjaaaDoor
