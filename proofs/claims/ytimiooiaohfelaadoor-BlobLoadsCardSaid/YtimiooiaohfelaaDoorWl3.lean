/- wal.Right. -/
import Derived.Test.YtimiooiaohfelaaDoorWl2
import Derived.Test.YtimiooiaohfelaaDoorDiskW
namespace Go.Proofs.YtimiooiaohfelaaDoor
open Go.RowKit
set_option linter.unusedVariables false
set_option linter.unusedSimpArgs false

def numsB (l : Lg) : Bool := decide ((1 ≤ l.epoch ∧ l.epoch ≤ 1099511627776) ∧ (0 ≤ l.seq ∧ l.seq ≤ 6) ∧ (0 ≤ l.used ∧ l.used ≤ 40))
theorem rightL_eq (l : Lg) : rightL l = (rightD l.dsk && decide (64 ≤ l.secs.length) && numsB l && dirtyB l.secs.length (-1) l.dirty) := rfl
theorem fitsB_or (b : ByteArray) : fitsB b = (fitW b && decide (trimS b = b)) := by
  unfold fitsB fitW
  by_cases h : trimS b = b
  · rw [h]; simp
  · simp [h]
theorem lastS_take (l : List Wrt) (j : Nat) (p : Int) (h : j < l.length) : lastS p (l.take (j + 1)) = (l.getD j wrtZ).sector := by
  rw [← List.take_append_getElem h, lastS_snoc, show l.getD j wrtZ = l[j] from by simp [List.getD, h]]
theorem lastS_bnd (l : List Wrt) (p : Int) (hp : i64ok p) (h : ∀ x ∈ l, x.bounded) : i64ok (lastS p l) := by
  induction l generalizing p with
  | nil => exact hp
  | cons x l ih => exact ih x.sector (h x (List.mem_cons_self)).1 (fun y hy => h y (List.mem_cons_of_mem _ hy))
/-- a log's box -/
def logC (sv pv : Value) (a b c d : Int) (dv : Value) : Array Value := #[sv, pv, .int .i64 a, .int .i64 b, .int .i64 c, .int .i64 d, dv]
set_option maxRecDepth 100000 in
set_option maxHeartbeats 4000000 in
theorem wlRight (v : Value) (l : Lg) (w : World) (h : IsLog w v l) :
    Calls Tryd.prog 9 #[v] w fun e w' => e = .returned (.bool (rightL l)) ∧ Below w.heap.size w w' := by
  obtain ⟨a, c, a', c', a2, c2, rfl, ⟨h1, h2⟩, ⟨h3, h4⟩, ⟨h5, h6⟩, hS, hP, hD⟩ := id h.form
  have hdk := IsLog.disk h
  have hbd := h.1
  have hEQ := rightL_eq l
  have hDB : ∀ x ∈ l.dirty, x.bounded := by obtain ⟨_, _, _, _, _, _, _, hb, _⟩ := hD; exact hb
  have HLG := Lib.hid h
  clear h
  obtain ⟨secs, pend, left, epoch, seq, used, dirty⟩ := l
  simp only [Lg.dsk] at *
  obtain ⟨N, hN⟩ : ∃ N, secs.length = N := ⟨_, rfl⟩
  obtain ⟨P, hP2⟩ : ∃ P, pend.length = P := ⟨_, rfl⟩
  obtain ⟨D, hD2⟩ : ∃ D, dirty.length = D := ⟨_, rfl⟩
  rw [hN] at hEQ h1 hS hdk
  rw [hP2] at h3 hP hdk
  rw [hD2] at h5 hD
  rw [hN, hP2, hD2] at HLG
  rw [hN, hP2, hD2]
  obtain ⟨R, hR⟩ : ∃ R, rightD ⟨secs, pend⟩ = R := ⟨_, rfl⟩
  obtain ⟨B, hB⟩ : ∃ B, dirtyB N (-1) dirty = B := ⟨_, rfl⟩
  rw [hR, hB] at hEQ
  unfold numsB at hEQ
  simp only at hEQ
  obtain ⟨_, _, _, hdv, hdl, _, _, _, hdat⟩ := hD
  injection hdv with t1 t2 t3
  subst t1 t2 t3
  obtain ⟨⟨bl1, bl2⟩, ⟨be1, be2⟩, ⟨bs1, bs2⟩, ⟨bu1, bu2⟩⟩ := hbd
  simp only at bl1 bl2 be1 be2 bs1 bs2 bu1 bu2
  have b0 := heap_alloc_new w (.cells #[.slice a N c, .slice a' P c', .int .i64 left, .int .i64 epoch, .int .i64 seq, .int .i64 used, .slice a2 D c2] 29)
  have hb0 := (Below.refl w.heap.size w).alloc (Nat.le_refl _) (.cells #[.slice a N c, .slice a' P c', .int .i64 left, .int .i64 epoch, .int .i64 seq, .int .i64 used, .slice a2 D c2] 29)
  obtain ⟨u, hU⟩ : ∃ u, w.alloc (.cells #[.slice a N c, .slice a' P c', .int .i64 left, .int .i64 epoch, .int .i64 seq, .int .i64 used, .slice a2 D c2] 29) = u := ⟨_, rfl⟩
  rw [hU] at b0 hb0
  have hdk2 := hdk.below hb0
  have HDR := Lib.hid (diskRight_any _ _ u hdk2)
  rw [hR] at HDR
  have HU := Lib.hid hU; have HB0 := Lib.hid b0; have HBB := Lib.hid hb0; have HEQ := Lib.hid hEQ; have HBQ := Lib.hid hB; have HDAT := Lib.hid hdat; have HDB := Lib.hid hDB; have HDL := Lib.hid hdl
  have HL2 := Lib.hid (fun x (hx : Below w.heap.size w x) => HLG.out.below hx)
  have c0 := below_cell (Below.refl _ u) b0 0 rfl
  have c1 := below_cell (Below.refl _ u) b0 1 rfl
  have c3 := below_cell (Below.refl _ u) b0 3 rfl
  have c4 := below_cell (Below.refl _ u) b0 4 rfl
  have c5 := below_cell (Below.refl _ u) b0 5 rfl
  have hNI : (N : Int) ≤ 9223372036854775807 := by omega
  clear hU b0 hb0 hdk hdk2 hEQ hB hdat hDB hS hP hdl HLG hR
  go_enter Tryd.func9, Tryd.ntmps9
  go_upto_region 1 with fail
  rw [HU.out]
  cases R with
  | false =>
    have HF : Hid (rightL ⟨secs, pend, left, epoch, seq, used, dirty⟩ = false) := Lib.hid (by rw [HEQ.out]; rfl)
    go_wp2_with (first | (go_at_call 17; refine HDR.out.mono ?_; rintro e w2 ⟨rfl, hb2⟩))
    go_ret
    exact ⟨by rw [HF.out]; rfl, HBB.out.trans (hb2.mono HBB.out.size)⟩
  | true =>
  by_cases g1 : 64 ≤ N
  case neg =>
    have HF : Hid (rightL ⟨secs, pend, left, epoch, seq, used, dirty⟩ = false) := Lib.hid (by rw [HEQ.out, decide_eq_false g1]; rfl)
    have g1I : (N : Int) < 64 := by omega
    go_wp2_with (first | (go_at_call 17; refine HDR.out.mono ?_; rintro e w2 ⟨rfl, hb2⟩; have e0 := below_cell hb2 HB0.out 0 rfl))
    go_ret
    exact ⟨by rw [HF.out]; rfl, HBB.out.trans (hb2.mono HBB.out.size)⟩
  have g1I : ¬ (N : Int) < 64 := by omega
  have hgz : ¬ ((1 ≤ epoch ∧ epoch ≤ 1099511627776) ∧ (0 ≤ seq ∧ seq ≤ 6) ∧ (0 ≤ used ∧ used ≤ 40)) → rightL ⟨secs, pend, left, epoch, seq, used, dirty⟩ = false := fun h => by
    rw [HEQ.out, decide_eq_false h]; simp
  have HGZ := Lib.hid hgz
  clear hgz
  go_upto_region 3 with (first | (go_at_call 17; refine HDR.out.mono ?_; rintro e w2 ⟨rfl, hb2⟩; have e0 := below_cell hb2 HB0.out 0 rfl))
  have d3 := below_cell hb2 HB0.out 3 rfl
  have d4 := below_cell hb2 HB0.out 4 rfl
  have d5 := below_cell hb2 HB0.out 5 rfl
  have d6 := below_cell hb2 HB0.out 6 rfl
  have d1 := below_cell hb2 HB0.out 1 rfl
  have d2 := below_cell hb2 HB0.out 2 rfl
  have HB2 := Lib.hid (HBB.out.trans (hb2.mono HBB.out.size))
  have HK2 := Lib.hid ((hb2.block _ (lt_of_block HB0.out)).trans HB0.out)
  clear c0 c1 c3 c4 c5 hb2 HDR HB0 HBB e0
  by_cases k1 : 1 ≤ epoch
  case neg =>
    have HF := Lib.hid (HGZ.out (fun h => k1 h.1.1))
    have k1I : epoch < 1 := by omega
    clear HGZ
    go_wp2_with fail
    go_ret
    exact ⟨by rw [HF.out]; rfl, HB2.out⟩
  have k1I : ¬ epoch < 1 := by omega
  by_cases k2 : epoch ≤ 1099511627776
  case neg =>
    have HF := Lib.hid (HGZ.out (fun h => k2 h.1.2))
    have k2I : 1099511627776 < epoch := by omega
    clear HGZ
    go_wp2_with fail
    go_ret
    exact ⟨by rw [HF.out]; rfl, HB2.out⟩
  have k2I : ¬ 1099511627776 < epoch := by omega
  by_cases k3 : 0 ≤ seq
  case neg =>
    have HF := Lib.hid (HGZ.out (fun h => k3 h.2.1.1))
    have k3I : seq < 0 := by omega
    clear HGZ
    go_wp2_with fail
    go_ret
    exact ⟨by rw [HF.out]; rfl, HB2.out⟩
  have k3I : ¬ seq < 0 := by omega
  by_cases k4 : seq ≤ 6
  case neg =>
    have HF := Lib.hid (HGZ.out (fun h => k4 h.2.1.2))
    have k4I : 6 < seq := by omega
    clear HGZ
    go_wp2_with fail
    go_ret
    exact ⟨by rw [HF.out]; rfl, HB2.out⟩
  have k4I : ¬ 6 < seq := by omega
  by_cases k5 : 0 ≤ used
  case neg =>
    have HF := Lib.hid (HGZ.out (fun h => k5 h.2.2.1))
    have k5I : used < 0 := by omega
    clear HGZ
    go_wp2_with fail
    go_ret
    exact ⟨by rw [HF.out]; rfl, HB2.out⟩
  have k5I : ¬ used < 0 := by omega
  by_cases k6 : used ≤ 40
  case neg =>
    have HF := Lib.hid (HGZ.out (fun h => k6 h.2.2.2))
    have k6I : 40 < used := by omega
    clear HGZ
    go_wp2_with fail
    go_ret
    exact ⟨by rw [HF.out]; rfl, HB2.out⟩
  have k6I : ¬ 40 < used := by omega
  have HEB : Hid (rightL ⟨secs, pend, left, epoch, seq, used, dirty⟩ = B) := Lib.hid (by rw [HEQ.out, decide_eq_true g1, decide_eq_true ⟨⟨k1, k2⟩, ⟨k3, k4⟩, ⟨k5, k6⟩⟩]; simp)
  clear HGZ HEQ
  go_wp2_with fail
  clear k1 k2 k3 k4 k5 k6 k1I k2I k3I k4I k5I k6I d1 d2 d3 d4 d5 d6 g1 g1I be1 be2 bs1 bs2 bu1 bu2
  have hDI : (D : Int) ≤ 9223372036854775807 := by omega
  go_loopw [3, 50] (fun av z wr => ∃ j : Nat, j ≤ D ∧ z = .int .i64 j ∧ av = .int .i64 (lastS (-1) (dirty.take j)) ∧ dirtyB N (-1) (dirty.take j) = true ∧ Hid (Below w.heap.size w wr ∧ Below w2.heap.size w2 wr)) (fun _ z _ => D - (intOf z).toNat)
  case atStart => exact ⟨0, Nat.zero_le _, rfl, rfl, rfl, Lib.hid ⟨HB2.out, Below.refl _ _⟩⟩
  case round =>
    obtain ⟨j, hj, rfl, rfl, hpre, HW⟩ := hrel
    by_cases hlt : j < D
    · have hjI : (j : Int) < D := by omega
      have hjl : j < dirty.length := by rw [hD2]; exact hlt
      obtain ⟨b, off, rfl, hbl, hat⟩ := HDAT.out.resolve_left (by omega)
      obtain ⟨e0, e1⟩ := (hat j hlt).below HW.out.1 hbl
      have hbx := HDB.out _ (List.getElem_mem hjl)
      have hsn : dirtyB N (-1) (dirty.take (j + 1)) = nextB N (lastS (-1) (dirty.take j)) (dirty.getD j wrtZ) := by
        rw [← List.take_append_getElem hjl, dirtyB_snoc, hpre, show dirty.getD j wrtZ = dirty[j] from by simp [List.getD, hjl]]; rfl
      have hno : nextB N (lastS (-1) (dirty.take j)) (dirty.getD j wrtZ) = false → B = false := fun h => by
        rw [← hsn] at h
        have := dirtyB_pre N (-1) _ (dirty.drop (j + 1)) h
        rw [List.take_append_drop, HBQ.out] at this
        exact this
      have hls := lastS_take dirty j (-1) hjl
      have hpb := lastS_bnd (dirty.take j) (-1) ⟨by decide, by decide⟩ (fun x hx => HDB.out x (List.mem_of_mem_take hx))
      rw [show dirty[j] = dirty.getD j wrtZ from by simp [List.getD, hjl]] at hbx
      have HSN := Lib.hid hsn; have HNO := Lib.hid hno; have HLS := Lib.hid hls
      generalize lastS (-1) (dirty.take j) = la at *
      generalize dirty.getD j wrtZ = X at *
      obtain ⟨xs, xb⟩ := X
      obtain ⟨⟨bx1, bx2⟩, bx3⟩ := hbx
      obtain ⟨bp1, bp2⟩ := hpb
      simp only at e0 e1 bx1 bx2 bx3 HLS
      clear hsn hno hls hat hpre
      have hn := heap_alloc_new wr (.cells #[.int .i64 xs, .string xb] 49)
      have hal := (Below.refl wr.heap.size wr).alloc (Nat.le_refl _) (.cells #[.int .i64 xs, .string xb] 49)
      have HN := Lib.hid hn; have HAL := Lib.hid hal
      clear hn hal
      go_upto_region 9 with fail
      obtain ⟨wz, hW⟩ : ∃ wz, wr.alloc (.cells #[.int .i64 xs, .string xb] 49) = wz := ⟨_, rfl⟩
      obtain ⟨V, hV⟩ : ∃ V, wr.heap.size = V := ⟨_, rfl⟩
      have HWW := Lib.hid (HW.out.1.trans (HAL.out.mono HW.out.1.size))
      have HWX := Lib.hid (HW.out.2.trans (HAL.out.mono HW.out.2.size))
      rw [hW] at HN HWW HWX ⊢
      rw [hV] at HN
      (try rw [hV])
      clear hW hV e0 e1 HAL HW
      have hlk := (HWX.out.block _ (lt_of_block HK2.out)).trans HK2.out
      have q0 := keep_at HN.out 0 rfl
      have q1 := keep_at HN.out 1 rfl
      have r0 := keep_at hlk 0 rfl
      have r1 := keep_at hlk 1 rfl
      have r2 := keep_at hlk 2 rfl
      have r3 := keep_at hlk 3 rfl
      have r4 := keep_at hlk 4 rfl
      have r5 := keep_at hlk 5 rfl
      have r6 := keep_at hlk 6 rfl
      have HH := Lib.hid (fun x : KeepT wz => wlHome _ _ xs x.val (HL2.out x.val (HWW.out.trans (x.below.mono HWW.out.size))))
      rw [show (Lg.mk secs pend left epoch seq used dirty).secs.length = N from hN] at HH
      have HFT := Lib.hid (fun u => wlFits xb u bx3)
      have HTR := Lib.hid (fun u => leTrim_any xb u bx3)
      unfold nextB at HSN HNO
      simp only at HSN HNO
      rw [fitsB_or] at HSN HNO
      clear hlk
      cases hh : homeB N xs with
      | false =>
        rw [hh] at HH
        have HF := Lib.hid (HEB.out.trans (HNO.out (by rw [hh]; rfl)))
        clear HNO HSN hh
        refine wp_region_keep (w0 := wz) (by kernel_rfl) (by kernel_rfl) (Below.refl _ _) ?_
        repeat (go_big_quiet_step ((first
          | (go_at_call 18; exact keepCall (HH.out _))
          | (go_at_call 19; exact keepSame (HFT.out _))
          | (go_at_call 20; exact keepSame (HTR.out _)))))
        refine wpQuiet_nil ?_
        intro _ hw'
        obtain ⟨x, rfl⟩ := hw'
        have HX := Lib.hid (HWW.out.trans (x.below.mono HWW.out.size))
        have HY := Lib.hid (HWX.out.trans (x.below.mono HWX.out.size))
        go_wp2_with fail
        go_ret
        exact ⟨by rw [HF.out]; rfl, HX.out⟩
      | true =>
      rw [hh] at HH
      by_cases hp : la < xs
      case neg =>
        have hpI : xs ≤ la := by omega
        have hpd : decide (xs ≤ la) = true := decide_eq_true hpI
        have HF := Lib.hid (HEB.out.trans (HNO.out (by rw [hh, decide_eq_false hp]; rfl)))
        clear HNO HSN hh
        refine wp_region_keep (w0 := wz) (by kernel_rfl) (by kernel_rfl) (Below.refl _ _) ?_
        repeat (go_big_quiet_step ((first
          | (go_at_call 18; exact keepCall (HH.out _))
          | (go_at_call 19; exact keepSame (HFT.out _))
          | (go_at_call 20; exact keepSame (HTR.out _)))))
        refine wpQuiet_nil ?_
        intro _ hw'
        obtain ⟨x, rfl⟩ := hw'
        have HX := Lib.hid (HWW.out.trans (x.below.mono HWW.out.size))
        have HY := Lib.hid (HWX.out.trans (x.below.mono HWX.out.size))
        go_wp2_with fail
        go_ret
        exact ⟨by rw [HF.out]; rfl, HX.out⟩
      have hpI : ¬ xs ≤ la := by omega
      have hpd : decide (xs ≤ la) = false := decide_eq_false hpI
      cases hf : fitW xb with
      | false =>
        rw [hf] at HFT
        have HF := Lib.hid (HEB.out.trans (HNO.out (by rw [hf]; simp)))
        clear HNO HSN hh hf
        refine wp_region_keep (w0 := wz) (by kernel_rfl) (by kernel_rfl) (Below.refl _ _) ?_
        repeat (go_big_quiet_step ((first
          | (go_at_call 18; exact keepCall (HH.out _))
          | (go_at_call 19; exact keepSame (HFT.out _))
          | (go_at_call 20; exact keepSame (HTR.out _)))))
        refine wpQuiet_nil ?_
        intro _ hw'
        obtain ⟨x, rfl⟩ := hw'
        have HX := Lib.hid (HWW.out.trans (x.below.mono HWW.out.size))
        have HY := Lib.hid (HWX.out.trans (x.below.mono HWX.out.size))
        go_wp2_with fail
        go_ret
        exact ⟨by rw [HF.out]; rfl, HX.out⟩
      | true =>
      rw [hf] at HFT
      by_cases ht : trimS xb = xb
      case neg =>
        have hne := ba_tne ht
        have HF := Lib.hid (HEB.out.trans (HNO.out (by rw [decide_eq_false ht]; try simp)))
        generalize trimS xb = T at *
        clear HNO HSN hh hf
        refine wp_region_keep (w0 := wz) (by kernel_rfl) (by kernel_rfl) (Below.refl _ _) ?_
        repeat (go_big_quiet_step ((first
          | (go_at_call 18; exact keepCall (HH.out _))
          | (go_at_call 19; exact keepSame (HFT.out _))
          | (go_at_call 20; exact keepSame (HTR.out _)))))
        refine wpQuiet_nil ?_
        intro _ hw'
        obtain ⟨x, rfl⟩ := hw'
        have HX := Lib.hid (HWW.out.trans (x.below.mono HWW.out.size))
        have HY := Lib.hid (HWX.out.trans (x.below.mono HWX.out.size))
        go_wp2_with fail
        go_ret
        exact ⟨by rw [HF.out]; rfl, HX.out⟩
      have HS2 := Lib.hid (HSN.out.trans (by rw [hh, hf, decide_eq_true ht, decide_eq_true hp]; try rfl))
      rw [ht] at HTR
      have hsq : (xb.toList == xb.toList) = true := by simp
      clear HNO HSN hh hf ht
      refine wp_region_keep (w0 := wz) (by kernel_rfl) (by kernel_rfl) (Below.refl _ _) ?_
      repeat (go_big_quiet_step ((first
        | (go_at_call 18; exact keepCall (HH.out _))
        | (go_at_call 19; exact keepSame (HFT.out _))
        | (go_at_call 20; exact keepSame (HTR.out _)))))
      refine wpQuiet_nil ?_
      intro _ hw'
      obtain ⟨x, rfl⟩ := hw'
      have HX := Lib.hid (HWW.out.trans (x.below.mono HWW.out.size))
      have HY := Lib.hid (HWX.out.trans (x.below.mono HWX.out.size))
      have p0 := below_cell x.below HN.out 0 rfl
      generalize x.val = wy at *
      clear q0 q1 r0 r1 r2 r3 r4 r5 r6
      go_wp2_with fail
      go_roundw
      case rel => exact ⟨j + 1, by omega, by go_num, by rw [HLS.out], HS2.out, Lib.hid ⟨HX.out, HY.out⟩⟩
      case measure => simp [intOf]; omega
    · obtain rfl : j = D := by omega
      have hnl : ¬ (j : Int) < j := by omega
      have hB : B = true := by rw [← HBQ.out, ← hpre, List.take_of_length_le (by omega)]
      have HF := Lib.hid (HEB.out.trans hB)
      clear hpre hB
      go_wp2_with fail
      go_ret
      exact ⟨by rw [HF.out]; rfl, HW.out.1⟩
end Go.Proofs.YtimiooiaohfelaaDoor
