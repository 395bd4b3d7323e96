/- Which disks may be, by the reference. -/
import Derived.Test.YtimiooiaohfelaaDoorDisk
namespace Go.Proofs.YtimiooiaohfelaaDoor
open Go.RowKit
set_option linter.unusedVariables false

set_option maxHeartbeats 1000000 in
set_option maxRecDepth 100000 in
theorem refDiskRight_any (v : Value) (d : Dsk) (w : World) (h : IsDisk w v d) :
    Calls Tryd.prog 27 #[v] w fun e w' => e = .returned (.bool (rightD d)) ∧ Below w.heap.size w w' := by
  have hd := h
  obtain ⟨sv, pv, rfl, hs, hp⟩ := h
  have hb := (Below.refl w.heap.size w).alloc (Nat.le_refl _) (.cells #[sv, pv] 25)
  have hS := hs.below hb
  have hP := hp.below hb
  have hcz := heap_alloc_new w (.cells #[sv, pv] 25)
  have hD := hd.below hb
  clear hs hp hd
  obtain ⟨a, len, cap, rfl, hlen, hc1, hc2, hbs, hat⟩ := hS
  obtain ⟨a', len', cap', rfl, hlen', hc1', hc2', hbp, hat'⟩ := hP
  have hlI : (len : Int) ≤ 9223372036854775807 := by omega
  have hlI' : (len' : Int) ≤ 9223372036854775807 := by omega
  by_cases hn : 1 ≤ len ∧ len ≤ 256
  · have hn1 : (1 : Int) ≤ len := by omega
    have hn2 : (len : Int) ≤ 256 := by omega
    have HA := Lib.hid hat; have HA' := Lib.hid hat'; have HBS := Lib.hid hbs; have HBP := Lib.hid hbp; have HB := Lib.hid hb; have HD := Lib.hid hD
    clear hat hat' hbs hbp hb hD
    go_enter Tryd.func27, Tryd.ntmps27
    go_wp2_with fail
    generalize w.alloc (.cells #[.slice a len cap, .slice a' len' cap'] 25) = W1 at *
    have hz0 : W1.cell? ⟨w.heap.size, 0, none⟩ = some (.slice a len cap) := by rw [cell_of_row _ _ 0 _ _ _ hcz]; rfl
    have hz1 : W1.cell? ⟨w.heap.size, 1, none⟩ = some (.slice a' len' cap') := by rw [cell_of_row _ _ 1 _ _ _ hcz]; rfl
    have hzlt := (Array.getElem?_eq_some_iff.1 hcz).1
    clear hcz
    go_loop [20] (fun z => ∃ k : Nat, k ≤ len ∧ z = .int .i64 k ∧ (d.secs.take k).all fitsB = true) (fun z => len - (intOf z).toNat)
    case atStart => exact ⟨0, by omega, rfl, rfl⟩
    case round =>
      obtain ⟨k, hk, rfl, hall⟩ := hrel
      by_cases hlt : k < len
      · have hkI : (k : Int) < len := by omega
        have hkl : k < d.secs.length := by omega
        obtain ⟨b, off, rfl, hb, hat⟩ := HA.out.resolve_left (by omega)
        have hc := hat k hlt
        rw [show d.secs.getD k ByteArray.empty = d.secs[k] from by simp [List.getD, hkl]] at hc
        have HF := Lib.hid (fun u => refStands_any d.secs[k] u (HBS.out _ (List.getElem_mem hkl)))
        have hsn : (d.secs.take (k + 1)).all fitsB = fitsB d.secs[k] := by
          rw [← List.take_append_getElem hkl, List.all_append, hall]; simp
        have HSN := Lib.hid hsn
        have hno : fitsB d.secs[k] = false → rightD d = false := fun h => by
          have : d.secs.all fitsB = false := by
            rw [Bool.eq_false_iff]
            intro h2
            rw [List.all_eq_true.1 h2 _ (List.getElem_mem hkl)] at h
            cases h
          unfold rightD; rw [this]; simp
        have HNO := Lib.hid hno
        clear hat hsn hno hall
        generalize d.secs[k] = S at *
        cases hB : fitsB S
        · rw [hB] at HF HNO
          have HNX := Lib.hid (HNO.out rfl)
          clear HNO HSN hB
          go_wp2_with (first | (go_at_call 30; refine (HF.out _).mono ?_; rintro e w' ⟨rfl, rfl⟩))
          go_ret
          exact ⟨by rw [HNX.out]; rfl, HB.out⟩
        · rw [hB] at HF HSN
          clear HNO hB
          go_wp2_with (first | (go_at_call 30; refine (HF.out _).mono ?_; rintro e w' ⟨rfl, rfl⟩))
          go_round
          case rel => exact ⟨k + 1, by omega, by go_num, HSN.out⟩
          case measure => simp [intOf]; omega
      · obtain rfl : k = len := by omega
        have hallS : d.secs.all fitsB = true := by rw [List.take_of_length_le (by omega)] at hall; exact hall
        have HAS := Lib.hid hallS
        clear hall hallS hlt
        go_wp2_with fail
        go_loopw [31] (fun z wr => ∃ k : Nat, k ≤ len' ∧ z = .int .i64 k ∧ (d.pend.take k).all (Wrt.fits d.secs.length) = true ∧ Below W1.heap.size W1 wr) (fun z _ => len' - (intOf z).toNat)
        case atStart => exact ⟨0, by omega, rfl, rfl, Below.refl _ _⟩
        case round =>
          obtain ⟨j, hj, rfl, hall, hbel⟩ := hrel
          have hy0 := (hbel.cell (p := ⟨w.heap.size, 0, none⟩) hzlt).trans hz0
          have hy1 := (hbel.cell (p := ⟨w.heap.size, 1, none⟩) hzlt).trans hz1
          have hwr : w.heap.size < wr.heap.size := Nat.lt_of_lt_of_le hzlt hbel.size
          have hq0 := fun o : Obj => (World.cell?_of_block (a := ⟨w.heap.size, 0, none⟩) (Below.heap_alloc wr o w.heap.size hwr)).trans hy0
          have hq1 := fun o : Obj => (World.cell?_of_block (a := ⟨w.heap.size, 1, none⟩) (Below.heap_alloc wr o w.heap.size hwr)).trans hy1
          by_cases hlt : j < len'
          · have hjI : (j : Int) < len' := by omega
            have hjl : j < d.pend.length := by omega
            obtain ⟨b', off', rfl, hb', hat'⟩ := HA'.out.resolve_left (by omega)
            have hw := (hat' j hlt).below hbel hb'
            rw [show d.pend.getD j wrtZ = d.pend[j] from by simp [List.getD, hjl]] at hw
            obtain ⟨hw0, hw1⟩ := hw
            obtain ⟨⟨bs1, bs2⟩, bs3⟩ := HBP.out _ (List.getElem_mem hjl)
            have HF := Lib.hid (fun u => refStands_any d.pend[j].bytes u bs3)
            have hsn : (d.pend.take (j + 1)).all (Wrt.fits d.secs.length) = Wrt.fits d.secs.length d.pend[j] := by
              rw [← List.take_append_getElem hjl, List.all_append, hall]; simp
            have HSN := Lib.hid hsn
            have hno : Wrt.fits d.secs.length d.pend[j] = false → rightD d = false := fun h => by
              have : d.pend.all (Wrt.fits d.secs.length) = false := by
                rw [Bool.eq_false_iff]
                intro h2
                rw [List.all_eq_true.1 h2 _ (List.getElem_mem hjl)] at h
                cases h
              unfold rightD; rw [this]; simp
            have HNO := Lib.hid hno
            clear hat' hsn hno hall
            generalize d.pend[j] = X at *
            obtain ⟨xs, xb⟩ := X
            simp only at hw0 hw1 bs1 bs2 bs3 HF HSN HNO
            have hb4 : Below W1.heap.size W1 (wr.alloc (.cells #[.int .i64 xs, .string xb] 49)) := hbel.alloc hbel.size _
            by_cases h0 : 0 ≤ xs
            · by_cases h1 : xs < k
              · have hdec : decide (0 ≤ xs ∧ xs < (d.secs.length : Int)) = true := decide_eq_true ⟨h0, by rw [hlen]; exact h1⟩
                have hfit : Wrt.fits d.secs.length ⟨xs, xb⟩ = fitsB xb := by unfold Wrt.fits; rw [hdec]; rfl
                rw [hfit] at HSN HNO
                clear hfit hdec
                cases hB : fitsB xb
                · rw [hB] at HF HNO
                  have HNX := Lib.hid (HNO.out rfl)
                  clear HNO HSN hB
                  go_wp2_with (first | (go_at_call 30; refine (HF.out _).mono ?_; rintro e w' ⟨rfl, rfl⟩))
                  go_ret
                  exact ⟨by rw [HNX.out]; rfl, HB.out.trans (hb4.mono HB.out.size)⟩
                · rw [hB] at HF HSN
                  clear HNO hB
                  go_wp2_with (first | (go_at_call 30; refine (HF.out _).mono ?_; rintro e w' ⟨rfl, rfl⟩))
                  go_roundw
                  case rel => exact ⟨j + 1, by omega, by go_num, HSN.out, hb4⟩
                  case measure => simp [intOf]; omega
              · have hfit : Wrt.fits d.secs.length ⟨xs, xb⟩ = false := by unfold Wrt.fits; rw [decide_eq_false (fun h => h1 (by have := h.2; rw [hlen] at this; exact this))]; rfl
                rw [hfit] at HNO
                have h1I : (k : Int) ≤ xs := by omega
                have HNX := Lib.hid (HNO.out rfl)
                clear hfit HNO HSN h1
                go_wp2_with fail
                go_ret
                exact ⟨by rw [HNX.out]; rfl, HB.out.trans (hb4.mono HB.out.size)⟩
            · have hfit : Wrt.fits d.secs.length ⟨xs, xb⟩ = false := by unfold Wrt.fits; rw [decide_eq_false (fun h => h0 h.1)]; rfl
              rw [hfit] at HNO
              have h0I : xs < 0 := by omega
              have HNX := Lib.hid (HNO.out rfl)
              clear hfit HNO HSN h0
              go_wp2_with fail
              go_ret
              exact ⟨by rw [HNX.out]; rfl, HB.out.trans (hb4.mono HB.out.size)⟩
          · obtain rfl : j = len' := by omega
            have hR : rightD d = true := by
              rw [List.take_of_length_le (by omega)] at hall
              unfold rightD
              rw [HAS.out, hall, hlen, decide_eq_true hn]; rfl
            have HR := Lib.hid hR
            clear hall hR hlt
            go_wp2_with fail
            go_ret
            exact ⟨by rw [HR.out]; rfl, HB.out.trans (hbel.mono HB.out.size)⟩
  · have hF : rightD d = false := by unfold rightD; rw [hlen, decide_eq_false hn]; rfl
    rw [hF]
    by_cases h0 : len < 1
    · have h0I : (len : Int) < 1 := by omega
      clear hn hF hat hat' h0
      go_enter Tryd.func27, Tryd.ntmps27
      go_wp2_with fail
      go_ret
      exact ⟨rfl, hb⟩
    · have h0I : (1 : Int) ≤ len := by omega
      have h1I : (256 : Int) < len := by omega
      clear hn hF hat hat' h0
      go_enter Tryd.func27, Tryd.ntmps27
      go_wp2_with fail
      go_ret
      exact ⟨rfl, hb⟩
end Go.Proofs.YtimiooiaohfelaaDoor
