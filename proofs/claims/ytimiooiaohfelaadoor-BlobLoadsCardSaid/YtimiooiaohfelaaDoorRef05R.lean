/- The reference: which logs may be. -/
import Derived.Test.YtimiooiaohfelaaDoorRef05
import Derived.Test.YtimiooiaohfelaaDoorRef03R
namespace Go.Proofs.YtimiooiaohfelaaDoor
open Go.RowKit
set_option linter.unusedVariables false
set_option linter.unusedSimpArgs false

theorem ref5Epoch_any (n : Int) (w : World) : Calls Tryd.prog 28 #[.int .i64 n] w fun e w' => e = .returned (.bool (decide (1 ≤ n ∧ n ≤ 1099511627776))) ∧ w = w' := by
  by_cases h1 : 1 ≤ n <;> by_cases h2 : n ≤ 1099511627776
  all_goals
    go_enter Tryd.func28, Tryd.ntmps28
    go_wp2_with fail
    go_ret
    simp [h1, h2]
set_option maxRecDepth 100000 in
set_option maxHeartbeats 4000000 in
theorem refRight5_any (v : Value) (l : Lg) (w : World) (h : IsLog w v l) :
    Calls Tryd.prog 12 #[v] w fun e w' => e = .returned (.bool (rightL l)) ∧ Below w.heap.size w w' := by
  obtain ⟨a, c, a', c', a2, c2, rfl, ⟨h1, h2⟩, ⟨h3, h4⟩, ⟨h5, h6⟩, hS, hP, hD⟩ := id h.form
  have hdk := IsLog.disk h
  have hbd := h.1
  have hEQ := rightL_eq l
  have hDB : ∀ x ∈ l.dirty, x.bounded := by obtain ⟨_, _, _, _, _, _, _, hb, _⟩ := hD; exact hb
  have HLG := Lib.hid h
  clear h
  obtain ⟨secs, pend, left, epoch, seq, used, dirty⟩ := l
  simp only [Lg.dsk] at *
  obtain ⟨N, hN⟩ : ∃ N, secs.length = N := ⟨_, rfl⟩
  obtain ⟨P, hP2⟩ : ∃ P, pend.length = P := ⟨_, rfl⟩
  obtain ⟨D, hD2⟩ : ∃ D, dirty.length = D := ⟨_, rfl⟩
  rw [hN] at hEQ h1 hS hdk
  rw [hP2] at h3 hP hdk
  rw [hD2] at h5 hD
  rw [hN, hP2, hD2] at HLG
  rw [hN, hP2, hD2]
  obtain ⟨R, hR⟩ : ∃ R, rightD ⟨secs, pend⟩ = R := ⟨_, rfl⟩
  obtain ⟨B, hB⟩ : ∃ B, dirtyB N (-1) dirty = B := ⟨_, rfl⟩
  rw [hR, hB] at hEQ
  unfold numsB at hEQ
  simp only at hEQ
  obtain ⟨_, _, _, hdv, hdl, _, _, _, hdat⟩ := hD
  injection hdv with t1 t2 t3
  subst t1 t2 t3
  obtain ⟨⟨bl1, bl2⟩, ⟨be1, be2⟩, ⟨bs1, bs2⟩, ⟨bu1, bu2⟩⟩ := hbd
  simp only at bl1 bl2 be1 be2 bs1 bs2 bu1 bu2
  have b0 := heap_alloc_new w (.cells #[.slice a N c, .slice a' P c', .int .i64 left, .int .i64 epoch, .int .i64 seq, .int .i64 used, .slice a2 D c2] 29)
  have hb0 := (Below.refl w.heap.size w).alloc (Nat.le_refl _) (.cells #[.slice a N c, .slice a' P c', .int .i64 left, .int .i64 epoch, .int .i64 seq, .int .i64 used, .slice a2 D c2] 29)
  obtain ⟨u, hU⟩ : ∃ u, w.alloc (.cells #[.slice a N c, .slice a' P c', .int .i64 left, .int .i64 epoch, .int .i64 seq, .int .i64 used, .slice a2 D c2] 29) = u := ⟨_, rfl⟩
  rw [hU] at b0 hb0
  have hdk2 := hdk.below hb0
  have HDR := Lib.hid (refDiskRight_any _ _ u hdk2)
  rw [hR] at HDR
  have HU := Lib.hid hU; have HB0 := Lib.hid b0; have HBB := Lib.hid hb0; have HEQ := Lib.hid hEQ; have HBQ := Lib.hid hB; have HDAT := Lib.hid hdat; have HDB := Lib.hid hDB; have HDL := Lib.hid hdl
  have HL2 := Lib.hid (fun x (hx : Below w.heap.size w x) => HLG.out.below hx)
  have c0 := below_cell (Below.refl _ u) b0 0 rfl
  have c1 := below_cell (Below.refl _ u) b0 1 rfl
  have c3 := below_cell (Below.refl _ u) b0 3 rfl
  have c4 := below_cell (Below.refl _ u) b0 4 rfl
  have c5 := below_cell (Below.refl _ u) b0 5 rfl
  have hNI : (N : Int) ≤ 9223372036854775807 := by omega
  clear hU b0 hb0 hdk hdk2 hEQ hB hdat hDB hS hP hdl HLG hR
  have hW0 : Hid (w.heap.size = w.heap.size) := Lib.hid rfl
  have HEP := Lib.hid (fun x => ref5Epoch_any epoch x)
  go_enter Tryd.func12, Tryd.ntmps12
  go_upto_region 1 with fail
  rw [HU.out]
  cases R with
  | false =>
    have HF : Hid (rightL ⟨secs, pend, left, epoch, seq, used, dirty⟩ = false) := Lib.hid (by rw [HEQ.out]; rfl)
    go_wp2_with (first | (go_at_call 27; refine HDR.out.mono ?_; rintro e w2 ⟨rfl, hb2⟩; have d3 := below_cell hb2 HB0.out 3 rfl; have d4 := below_cell hb2 HB0.out 4 rfl; have d5 := below_cell hb2 HB0.out 5 rfl; have d6 := below_cell hb2 HB0.out 6 rfl) | (go_at_call 28; refine (HEP.out _).mono ?_; rintro e w4 ⟨rfl, rfl⟩))
    go_ret
    exact ⟨by rw [HF.out]; rfl, HBB.out.trans (hb2.mono HBB.out.size)⟩
  | true =>
  by_cases g1 : 64 ≤ N
  case neg =>
    have HF : Hid (rightL ⟨secs, pend, left, epoch, seq, used, dirty⟩ = false) := Lib.hid (by rw [HEQ.out, decide_eq_false g1]; rfl)
    have g1I : (N : Int) < 64 := by omega
    go_wp2_with (first | (go_at_call 27; refine HDR.out.mono ?_; rintro e w2 ⟨rfl, hb2⟩; have d3 := below_cell hb2 HB0.out 3 rfl; have d4 := below_cell hb2 HB0.out 4 rfl; have d5 := below_cell hb2 HB0.out 5 rfl; have d6 := below_cell hb2 HB0.out 6 rfl) | (go_at_call 28; refine (HEP.out _).mono ?_; rintro e w4 ⟨rfl, rfl⟩))
    go_ret
    exact ⟨by rw [HF.out]; rfl, HBB.out.trans (hb2.mono HBB.out.size)⟩
  have g1I : ¬ (N : Int) < 64 := by omega
  have hgz : ¬ ((1 ≤ epoch ∧ epoch ≤ 1099511627776) ∧ (0 ≤ seq ∧ seq ≤ 6) ∧ (0 ≤ used ∧ used ≤ 40)) → rightL ⟨secs, pend, left, epoch, seq, used, dirty⟩ = false := fun h => by
    rw [HEQ.out, decide_eq_false h]; simp
  have HGZ := Lib.hid hgz
  clear hgz
  by_cases k1 : 1 ≤ epoch ∧ epoch ≤ 1099511627776
  case neg =>
    have HF := Lib.hid (HGZ.out (fun h => k1 h.1))
    rw [decide_eq_false k1] at HEP
    clear HGZ k1
    go_wp2_with (first | (go_at_call 27; refine HDR.out.mono ?_; rintro e w2 ⟨rfl, hb2⟩; have d3 := below_cell hb2 HB0.out 3 rfl; have d4 := below_cell hb2 HB0.out 4 rfl; have d5 := below_cell hb2 HB0.out 5 rfl; have d6 := below_cell hb2 HB0.out 6 rfl) | (go_at_call 28; refine (HEP.out _).mono ?_; rintro e w4 ⟨rfl, rfl⟩))
    go_ret
    exact ⟨by rw [HF.out]; rfl, HBB.out.trans (hb2.mono HBB.out.size)⟩
  rw [decide_eq_true k1] at HEP
  by_cases k3 : 0 ≤ seq
  case neg =>
    have HF := Lib.hid (HGZ.out (fun h => k3 h.2.1.1))
    have k3I : seq < 0 := by omega
    clear HGZ k1
    go_wp2_with (first | (go_at_call 27; refine HDR.out.mono ?_; rintro e w2 ⟨rfl, hb2⟩; have d3 := below_cell hb2 HB0.out 3 rfl; have d4 := below_cell hb2 HB0.out 4 rfl; have d5 := below_cell hb2 HB0.out 5 rfl; have d6 := below_cell hb2 HB0.out 6 rfl) | (go_at_call 28; refine (HEP.out _).mono ?_; rintro e w4 ⟨rfl, rfl⟩))
    go_ret
    exact ⟨by rw [HF.out]; rfl, HBB.out.trans (hb2.mono HBB.out.size)⟩
  have k3I : ¬ seq < 0 := by omega
  by_cases k4 : seq ≤ 6
  case neg =>
    have HF := Lib.hid (HGZ.out (fun h => k4 h.2.1.2))
    have k4I : 6 < seq := by omega
    clear HGZ k1
    go_wp2_with (first | (go_at_call 27; refine HDR.out.mono ?_; rintro e w2 ⟨rfl, hb2⟩; have d3 := below_cell hb2 HB0.out 3 rfl; have d4 := below_cell hb2 HB0.out 4 rfl; have d5 := below_cell hb2 HB0.out 5 rfl; have d6 := below_cell hb2 HB0.out 6 rfl) | (go_at_call 28; refine (HEP.out _).mono ?_; rintro e w4 ⟨rfl, rfl⟩))
    go_ret
    exact ⟨by rw [HF.out]; rfl, HBB.out.trans (hb2.mono HBB.out.size)⟩
  have k4I : ¬ 6 < seq := by omega
  by_cases k5 : 0 ≤ used
  case neg =>
    have HF := Lib.hid (HGZ.out (fun h => k5 h.2.2.1))
    have k5I : used < 0 := by omega
    clear HGZ k1
    go_wp2_with (first | (go_at_call 27; refine HDR.out.mono ?_; rintro e w2 ⟨rfl, hb2⟩; have d3 := below_cell hb2 HB0.out 3 rfl; have d4 := below_cell hb2 HB0.out 4 rfl; have d5 := below_cell hb2 HB0.out 5 rfl; have d6 := below_cell hb2 HB0.out 6 rfl) | (go_at_call 28; refine (HEP.out _).mono ?_; rintro e w4 ⟨rfl, rfl⟩))
    go_ret
    exact ⟨by rw [HF.out]; rfl, HBB.out.trans (hb2.mono HBB.out.size)⟩
  have k5I : ¬ used < 0 := by omega
  by_cases k6 : used ≤ 40
  case neg =>
    have HF := Lib.hid (HGZ.out (fun h => k6 h.2.2.2))
    have k6I : 40 < used := by omega
    clear HGZ k1
    go_wp2_with (first | (go_at_call 27; refine HDR.out.mono ?_; rintro e w2 ⟨rfl, hb2⟩; have d3 := below_cell hb2 HB0.out 3 rfl; have d4 := below_cell hb2 HB0.out 4 rfl; have d5 := below_cell hb2 HB0.out 5 rfl; have d6 := below_cell hb2 HB0.out 6 rfl) | (go_at_call 28; refine (HEP.out _).mono ?_; rintro e w4 ⟨rfl, rfl⟩))
    go_ret
    exact ⟨by rw [HF.out]; rfl, HBB.out.trans (hb2.mono HBB.out.size)⟩
  have k6I : ¬ 40 < used := by omega
  have HEB : Hid (rightL ⟨secs, pend, left, epoch, seq, used, dirty⟩ = B) := Lib.hid (by rw [HEQ.out, decide_eq_true g1, decide_eq_true ⟨k1, ⟨k3, k4⟩, ⟨k5, k6⟩⟩]; simp)
  clear HGZ HEQ k1
  go_upto_region 4 with (first | (go_at_call 27; refine HDR.out.mono ?_; rintro e w2 ⟨rfl, hb2⟩; have d3 := below_cell hb2 HB0.out 3 rfl; have d4 := below_cell hb2 HB0.out 4 rfl; have d5 := below_cell hb2 HB0.out 5 rfl; have d6 := below_cell hb2 HB0.out 6 rfl) | (go_at_call 28; refine (HEP.out _).mono ?_; rintro e w4 ⟨rfl, rfl⟩))
  have HB2 := Lib.hid (HBB.out.trans (hb2.mono HBB.out.size))
  clear c0 c1 c3 c4 c5 hb2 HDR HB0 HBB d3 d4 d5 k3 k4 k5 k6 k3I k4I k5I k6I g1 g1I be1 be2 bs1 bs2 bu1 bu2
  go_wp2_with fail
  have hDI : (D : Int) ≤ 9223372036854775807 := by omega
  go_loopw [4, 50] (fun av z wr => ∃ j : Nat, j ≤ D ∧ z = .int .i64 j ∧ av = .int .i64 (lastS (-1) (dirty.take j)) ∧ dirtyB N (-1) (dirty.take j) = true ∧ Hid (Below w.heap.size w wr)) (fun _ z _ => D - (intOf z).toNat)
  case atStart => exact ⟨0, Nat.zero_le _, rfl, rfl, rfl, HB2⟩
  case round =>
    obtain ⟨j, hj, rfl, rfl, hpre, HW⟩ := hrel
    by_cases hlt : j < D
    · have hjI : (j : Int) < D := by omega
      have hjl : j < dirty.length := by rw [hD2]; exact hlt
      obtain ⟨b, off, rfl, hbl, hat⟩ := HDAT.out.resolve_left (by omega)
      obtain ⟨e0, e1⟩ := (hat j hlt).below HW.out hbl
      have hbx := HDB.out _ (List.getElem_mem hjl)
      have hsn : dirtyB N (-1) (dirty.take (j + 1)) = nextB N (lastS (-1) (dirty.take j)) (dirty.getD j wrtZ) := by
        rw [← List.take_append_getElem hjl, dirtyB_snoc, hpre, show dirty.getD j wrtZ = dirty[j] from by simp [List.getD, hjl]]; rfl
      have hno : nextB N (lastS (-1) (dirty.take j)) (dirty.getD j wrtZ) = false → B = false := fun h => by
        rw [← hsn] at h
        have := dirtyB_pre N (-1) _ (dirty.drop (j + 1)) h
        rw [List.take_append_drop, HBQ.out] at this
        exact this
      have hls := lastS_take dirty j (-1) hjl
      have hpb := lastS_bnd (dirty.take j) (-1) ⟨by decide, by decide⟩ (fun x hx => HDB.out x (List.mem_of_mem_take hx))
      rw [show dirty[j] = dirty.getD j wrtZ from by simp [List.getD, hjl]] at hbx
      have HSN := Lib.hid hsn; have HNO := Lib.hid hno; have HLS := Lib.hid hls
      generalize lastS (-1) (dirty.take j) = la at *
      generalize dirty.getD j wrtZ = X at *
      obtain ⟨xs, xb⟩ := X
      obtain ⟨⟨bx1, bx2⟩, bx3⟩ := hbx
      obtain ⟨bp1, bp2⟩ := hpb
      simp only at e0 e1 bx1 bx2 bx3 HLS
      clear hsn hno hls hat hpre
      have HWW := Lib.hid (HW.out.alloc HW.out.size (.cells #[.int .i64 xs, .string xb] 49))
      have HH := Lib.hid (fun x => refHome_any N xs x)
      have HFT := Lib.hid (fun u => refStands_any xb u bx3)
      unfold nextB homeB at HSN HNO
      simp only at HSN HNO
      by_cases hh : 53 ≤ xs ∧ xs < N
      case neg =>
        rw [decide_eq_false hh] at HH
        have HF := Lib.hid (HEB.out.trans (HNO.out (by rw [decide_eq_false hh]; rfl)))
        clear HNO HSN hh
        go_wp2_with (first | (go_at_call 29; refine (HH.out _).mono ?_; rintro e q1 ⟨rfl, rfl⟩) | (go_at_call 30; refine (HFT.out _).mono ?_; rintro e q2 ⟨rfl, rfl⟩))
        go_ret
        exact ⟨by rw [HF.out]; rfl, HWW.out⟩
      rw [decide_eq_true hh] at HH
      cases hf : fitsB xb with
      | false =>
        rw [hf] at HFT
        have HF := Lib.hid (HEB.out.trans (HNO.out (by rw [hf]; simp)))
        clear HNO HSN hh hf
        go_wp2_with (first | (go_at_call 29; refine (HH.out _).mono ?_; rintro e q1 ⟨rfl, rfl⟩) | (go_at_call 30; refine (HFT.out _).mono ?_; rintro e q2 ⟨rfl, rfl⟩))
        go_ret
        exact ⟨by rw [HF.out]; rfl, HWW.out⟩
      | true =>
      rw [hf] at HFT
      by_cases hp : la < xs
      case neg =>
        have hpI : xs ≤ la := by omega
        have hpd : decide (xs ≤ la) = true := decide_eq_true hpI
        have HF := Lib.hid (HEB.out.trans (HNO.out (by rw [decide_eq_false hp]; simp)))
        clear HNO HSN hh hf
        go_wp2_with (first | (go_at_call 29; refine (HH.out _).mono ?_; rintro e q1 ⟨rfl, rfl⟩) | (go_at_call 30; refine (HFT.out _).mono ?_; rintro e q2 ⟨rfl, rfl⟩))
        go_ret
        exact ⟨by rw [HF.out]; rfl, HWW.out⟩
      have hpI : ¬ xs ≤ la := by omega
      have hpd : decide (xs ≤ la) = false := decide_eq_false hpI
      have HS2 := Lib.hid (HSN.out.trans (by rw [decide_eq_true hh, hf, decide_eq_true hp]; try rfl))
      clear HNO HSN hh hf
      go_wp2_with (first | (go_at_call 29; refine (HH.out _).mono ?_; rintro e q1 ⟨rfl, rfl⟩) | (go_at_call 30; refine (HFT.out _).mono ?_; rintro e q2 ⟨rfl, rfl⟩))
      go_roundw
      case rel => exact ⟨j + 1, by omega, by go_num, by rw [HLS.out], HS2.out, HWW⟩
      case measure => simp [intOf]; omega
    · obtain rfl : j = D := by omega
      have hnl : ¬ (j : Int) < j := by omega
      have hB : B = true := by rw [← HBQ.out, ← hpre, List.take_of_length_le (by omega)]
      have HF := Lib.hid (HEB.out.trans hB)
      clear hpre hB
      go_wp2_with fail
      go_ret
      exact ⟨by rw [HF.out]; rfl, HW.out⟩
end Go.Proofs.YtimiooiaohfelaaDoor
