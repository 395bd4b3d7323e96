/- Ref03T, Ref05, Ref05R, Ref05L, in one text. -/
import Derived.Test.YthnmnnlbglpjaaaGreatDoorPkB
import Derived.Test.YthnmnnlbglpjaaaGreatDoorPk1
import Derived.Test.YthnmnnlbglpjaaaGreatDoorPkC
import Derived.Test.YthnmnnlbglpjaaaGreatDoorPk4
namespace Go.Proofs.YthnmnnlbglpjaaaGreatDoor
section SRef03T
open Go.RowKit
set_option linter.unusedVariables false

set_option maxRecDepth 100000 in
theorem refTells_any (v : Value) (d : Dsk) (n : Nat) (w : World) (h : IsDisk w v d) (hn : n < d.secs.length) :
    Calls Tryz.prog 82 #[v, .int .i64 n] w fun e w' => e = .returned (.string (tells d n)) ∧ Below w.heap.size w w' := by
  obtain ⟨a, cap, a', cap', rfl, hc1, hc2, hc1', hc2'⟩ := h.form
  have hs := strs_at h.secs; have hp := wrts_at h.pend
  generalize hm : d.secs.length = m at *
  generalize hk : d.pend.length = k at *
  have hkI : (k : Int) ≤ 9223372036854775807 := by omega
  have hnI : (n : Int) < m := by omega
  have hmI : (m : Int) ≤ 9223372036854775807 := by omega
  obtain ⟨g, off, rfl, hg, hat⟩ := hs.resolve_left (by omega)
  have c0 := hat n hn
  obtain ⟨Z, hZ⟩ : ∃ Z, d.secs.getD n ByteArray.empty = Z := ⟨_, rfl⟩
  rw [hZ] at c0
  have HP := Lib.hid hp; have HK := Lib.hid hk
  have c0' := fun o : Obj => (World.cell?_of_block (a := ⟨g, off + n, none⟩) (Below.heap_alloc w o g hg)).trans c0
  clear hat hp h hm hk c0
  go_enter Tryz.func82, Tryz.ntmps82
  go_wp2_with fail
  have hb1 := (Below.refl _ w).alloc (Nat.le_refl _) (.cells #[.slice (some ⟨g, off, none⟩) m cap, .slice a' k cap'] 25)
  obtain ⟨w1, hW1⟩ : ∃ w1, w.alloc (.cells #[.slice (some ⟨g, off, none⟩) m cap, .slice a' k cap'] 25) = w1 := ⟨_, rfl⟩
  rw [hW1] at hb1 ⊢
  clear hW1 c0'
  go_loopw [5, 16] (fun s z wr => ∃ t : Nat, t ≤ k ∧ z = .int .i64 t ∧ s = .string (tellsL d n t) ∧ Below w.heap.size w wr) (fun _ z _ => k - (intOf z).toNat)
  case atStart => exact ⟨0, by omega, rfl, by rw [show tellsL d n 0 = Z from hZ], hb1⟩
  case round =>
    obtain ⟨t, ht, rfl, rfl, hbw⟩ := hrel
    by_cases hlt : t < k
    · have htI : (t : Int) < k := by omega
      obtain ⟨gp, op, rfl, hgp, hcp⟩ := HP.out.resolve_left (by omega)
      obtain ⟨p0, p1⟩ := (hcp t hlt).below hbw hgp
      have hnx : tellsL d n (t + 1) = if (d.pend.getD t wrtZ).sector = n then (d.pend.getD t wrtZ).bytes else tellsL d n t := rfl
      obtain ⟨P, hP⟩ : ∃ P, d.pend.getD t wrtZ = P := ⟨_, rfl⟩
      rw [hP] at p0 p1 hnx
      generalize tellsL d n t = S at *
      have HNX := Lib.hid hnx
      have hb2 := hbw.alloc hbw.size (.cells #[.int .i64 P.sector, .string P.bytes] 46)
      clear hcp hP hnx hbw
      by_cases he : P.sector = (n : Nat)
      · rw [he] at p0
        rw [if_pos he] at HNX
        go_wp2_with fail
        go_roundw
        case rel => exact ⟨t + 1, by omega, by go_num, by rw [HNX.out], by rw [he] at hb2; exact hb2⟩
        case measure => simp [intOf]; omega
      · rw [if_neg he] at HNX
        have hse : (P.sector == (n : Int)) = false := by simpa using he
        go_wp2_with fail
        go_roundw
        case rel => exact ⟨t + 1, by omega, by go_num, by rw [HNX.out], hb2⟩
        case measure => simp [intOf]; omega
    · obtain rfl : t = k := by omega
      have ht : tells d n = tellsL d n t := by unfold tells; rw [HK.out]
      go_wp2_with fail
      go_ret
      exact ⟨by rw [ht]; rfl, hbw⟩
end SRef03T
section SRef05
open Go.RowKit
set_option linter.unusedVariables false
set_option linter.unusedSimpArgs false

theorem refHome_any (m n : Int) (w : World) : Calls Tryz.prog 52 #[.int .i64 m, .int .i64 n] w fun e w' => e = .returned (.bool (decide (53 ≤ n ∧ n < m))) ∧ w = w' := by
  by_cases h1 : 53 ≤ n
  · by_cases h2 : n < m
    · rw [decide_eq_true ⟨h1, h2⟩]
      go_enter Tryz.func52, Tryz.ntmps52
      go_wp2_with fail
      go_ret
      exact ⟨rfl, rfl⟩
    · rw [decide_eq_false (fun h => h2 h.2)]
      go_enter Tryz.func52, Tryz.ntmps52
      go_wp2_with fail
      go_ret
      exact ⟨rfl, rfl⟩
  · rw [decide_eq_false (fun h => h1 h.1)]
    go_enter Tryz.func52, Tryz.ntmps52
    go_wp2_with fail
    go_ret
    exact ⟨rfl, rfl⟩
def tellsM (s : ByteArray) (l : List Wrt) (n : Nat) : Nat → ByteArray
  | 0 => s
  | t + 1 => if (l.getD t wrtZ).sector = n then (l.getD t wrtZ).bytes else tellsM s l n t
theorem tellsM_no (s : ByteArray) (l : List Wrt) (n : Nat) : ∀ t, (∀ j, j < t → (l.getD j wrtZ).sector ≠ n) → tellsM s l n t = s
  | 0, _ => rfl
  | t + 1, h => by
    unfold tellsM
    rw [if_neg (h t (by omega))]
    exact tellsM_no s l n t (fun j hj => h j (by omega))
theorem tellsM_at (s : ByteArray) (l : List Wrt) (n k : Nat) (hk : (l.getD k wrtZ).sector = n) : ∀ t, k < t → (∀ j, k < j → j < t → (l.getD j wrtZ).sector ≠ n) → tellsM s l n t = (l.getD k wrtZ).bytes
  | 0, h, _ => by omega
  | t + 1, h, hj => by
    unfold tellsM
    by_cases e : k = t
    · subst e; rw [if_pos hk]
    · rw [if_neg (hj t (by omega) (by omega))]
      exact tellsM_at s l n k hk t (by omega) (fun j h1 h2 => hj j h1 (by omega))
theorem tellsM_W (l : Lg) (n : Nat) (hm : ∀ i j, i < j → j < l.dirty.length → (l.dirty.getD i wrtZ).sector < (l.dirty.getD j wrtZ).sector) : tellsM (tells l.dsk n) l.dirty n l.dirty.length = tellsW l n := by
  unfold tellsW
  by_cases h : ∃ k, k < l.dirty.length ∧ (l.dirty.getD k wrtZ).sector = n
  · obtain ⟨k, h1, h2⟩ := h
    rw [find_at n l.dirty k (fun j hj => by have := hm j k hj h1; omega) h1 h2]
    exact tellsM_at _ _ _ k h2 _ h1 (fun j h3 h4 => by have := hm k j h3 h4; omega)
  · rw [find_no n l.dirty (fun j hj e => h ⟨j, hj, e⟩)]
    show _ = tells l.dsk ((n : Int)).toNat
    rw [Int.toNat_natCast]
    exact tellsM_no _ _ _ _ (fun j hj e => h ⟨j, hj, e⟩)
set_option maxRecDepth 100000 in
set_option maxHeartbeats 1000000 in
theorem refTells5_any (v : Value) (l : Lg) (n : Nat) (w : World) (h : IsLog w v l) (hn : n < l.secs.length) (hm : ∀ i j, i < j → j < l.dirty.length → (l.dirty.getD i wrtZ).sector < (l.dirty.getD j wrtZ).sector) :
    Calls Tryz.prog 50 #[v, .int .i64 n] w fun e w' => e = .returned (.string (tellsW l n)) ∧ Below w.heap.size w w' := by
  obtain ⟨x1, x2, x3, x4, x5, x6, rfl, ⟨_, _⟩, ⟨_, _⟩, ⟨h5, h6⟩, _, _, hD⟩ := id h.form
  have hbx := heap_alloc_new w (.cells #[.slice x1 l.secs.length x2, .slice x3 l.pend.length x4, .int .i64 l.left, .int .i64 l.epoch, .int .i64 l.seq, .int .i64 l.used, .slice x5 l.dirty.length x6] 29)
  have hal := (Below.refl w.heap.size w).alloc (Nat.le_refl _) (.cells #[.slice x1 l.secs.length x2, .slice x3 l.pend.length x4, .int .i64 l.left, .int .i64 l.epoch, .int .i64 l.seq, .int .i64 l.used, .slice x5 l.dirty.length x6] 29)
  obtain ⟨u, hU⟩ : ∃ u, w.alloc (.cells #[.slice x1 l.secs.length x2, .slice x3 l.pend.length x4, .int .i64 l.left, .int .i64 l.epoch, .int .i64 l.seq, .int .i64 l.used, .slice x5 l.dirty.length x6] 29) = u := ⟨_, rfl⟩
  obtain ⟨B, hB⟩ : ∃ B, w.heap.size = B := ⟨_, rfl⟩
  rw [hU] at hbx hal
  rw [hB] at hbx
  have HT := Lib.hid (refTells_any _ l.dsk n u ((h.disk).below hal) hn)
  have hW := tellsM_W l n hm
  obtain ⟨k, hk⟩ : ∃ k, l.dirty.length = k := ⟨_, rfl⟩
  rw [hk] at hW h5
  have HD := Lib.hid (fun x (hx : Below w.heap.size w x) => hD.below hx)
  rw [hk] at HD
  have HW := Lib.hid hW; have HU := Lib.hid hU; have HB := Lib.hid hB; have HBX := Lib.hid hbx; have HAL := Lib.hid hal
  have hkI : (k : Int) ≤ 9223372036854775807 := by omega
  have c0 := below_cell (Below.refl _ u) hbx 0 rfl
  have c1 := below_cell (Below.refl _ u) hbx 1 rfl
  rw [hk] at hbx
  have HK := Lib.hid hk
  clear hW hU hB hbx hal hD hm h hk
  go_enter Tryz.func50, Tryz.ntmps50
  go_upto_region 1 with fail
  rw [HU.out, HB.out]
  have hbk := HBX.out
  rw [HK.out] at hbk
  have HBK := Lib.hid hbk
  clear hbk
  go_upto_region 2 with (first | (go_at_call 82; refine HT.out.mono ?_; rintro e u1 ⟨rfl, hb1⟩))
  have hbk := (hb1.block _ (lt_of_block HBK.out)).trans HBK.out
  have d6 := below_cell (Below.refl _ u1) hbk 6 rfl
  have HB1 := Lib.hid (HAL.out.trans (hb1.mono HAL.out.size))
  obtain ⟨S, hS⟩ : ∃ S, tells l.dsk n = S := ⟨_, rfl⟩
  rw [hS] at HW ⊢
  clear c0 c1 hb1 hbk HT hS
  go_wp2_with fail
  go_loopw [5, 16] (fun s z wr => ∃ t : Nat, t ≤ k ∧ z = .int .i64 t ∧ s = .string (tellsM S l.dirty n t) ∧ Hid (Below w.heap.size w wr)) (fun _ z _ => k - (intOf z).toNat)
  case atStart => exact ⟨0, by omega, rfl, rfl, HB1⟩
  case round =>
    obtain ⟨t, ht, rfl, rfl, hbw⟩ := hrel
    by_cases hlt : t < k
    · have htI : (t : Int) < k := by omega
      obtain ⟨a9, n9, c9, hv9, _, _, _, _, hat⟩ := HD.out wr hbw.out
      injection hv9 with t1 t2 t3
      subst t1 t2 t3
      obtain ⟨gp, op, rfl, hgp, hcp⟩ := hat.resolve_left (by omega)
      obtain ⟨p0, p1⟩ := hcp t hlt
      have hnx : tellsM S l.dirty n (t + 1) = if (l.dirty.getD t wrtZ).sector = n then (l.dirty.getD t wrtZ).bytes else tellsM S l.dirty n t := rfl
      obtain ⟨P, hP⟩ : ∃ P, l.dirty.getD t wrtZ = P := ⟨_, rfl⟩
      rw [hP] at p0 p1 hnx
      generalize tellsM S l.dirty n t = S1 at *
      have HNX := Lib.hid hnx
      have HB2 := Lib.hid (hbw.out.alloc hbw.out.size (.cells #[.int .i64 P.sector, .string P.bytes] 46))
      clear hcp hP hnx hbw hat
      by_cases he : P.sector = (n : Nat)
      · rw [he] at p0 HB2
        rw [if_pos he] at HNX
        clear he
        go_wp2_with fail
        go_roundw
        case rel => exact ⟨t + 1, by omega, by go_num, by rw [HNX.out], HB2⟩
        case measure => simp [intOf]; omega
      · rw [if_neg he] at HNX
        have hse : (P.sector == (n : Int)) = false := by simpa using he
        go_wp2_with fail
        go_roundw
        case rel => exact ⟨t + 1, by omega, by go_num, by rw [HNX.out], HB2⟩
        case measure => simp [intOf]; omega
    · obtain rfl : t = k := by omega
      have hnl : ¬ (t : Int) < t := by omega
      go_wp2_with fail
      go_ret
      exact ⟨by rw [← HW.out]; rfl, hbw.out⟩
end SRef05
section SRef05R
open Go.RowKit
set_option linter.unusedVariables false
set_option linter.unusedSimpArgs false

theorem ref5Epoch_any (n : Int) (w : World) : Calls Tryz.prog 51 #[.int .i64 n] w fun e w' => e = .returned (.bool (decide (1 ≤ n ∧ n ≤ 1099511627776))) ∧ w = w' := by
  by_cases h1 : 1 ≤ n <;> by_cases h2 : n ≤ 1099511627776
  all_goals
    go_enter Tryz.func51, Tryz.ntmps51
    go_wp2_with fail
    go_ret
    simp [h1, h2]
set_option maxRecDepth 100000 in
set_option maxHeartbeats 4000000 in
theorem refRight5_any (v : Value) (l : Lg) (w : World) (h : IsLog w v l) :
    Calls Tryz.prog 21 #[v] w fun e w' => e = .returned (.bool (rightL l)) ∧ Below w.heap.size w w' := by
  obtain ⟨a, c, a', c', a2, c2, rfl, ⟨h1, h2⟩, ⟨h3, h4⟩, ⟨h5, h6⟩, hS, hP, hD⟩ := id h.form
  have hdk := IsLog.disk h
  have hbd := h.1
  have hEQ := rightL_eq l
  have hDB : ∀ x ∈ l.dirty, x.bounded := by obtain ⟨_, _, _, _, _, _, _, hb, _⟩ := hD; exact hb
  have HLG := Lib.hid h
  clear h
  obtain ⟨secs, pend, left, epoch, seq, used, dirty⟩ := l
  simp only [Lg.dsk] at *
  obtain ⟨N, hN⟩ : ∃ N, secs.length = N := ⟨_, rfl⟩
  obtain ⟨P, hP2⟩ : ∃ P, pend.length = P := ⟨_, rfl⟩
  obtain ⟨D, hD2⟩ : ∃ D, dirty.length = D := ⟨_, rfl⟩
  rw [hN] at hEQ h1 hS hdk
  rw [hP2] at h3 hP hdk
  rw [hD2] at h5 hD
  rw [hN, hP2, hD2] at HLG
  rw [hN, hP2, hD2]
  obtain ⟨R, hR⟩ : ∃ R, rightD ⟨secs, pend⟩ = R := ⟨_, rfl⟩
  obtain ⟨B, hB⟩ : ∃ B, dirtyB N (-1) dirty = B := ⟨_, rfl⟩
  rw [hR, hB] at hEQ
  unfold numsB at hEQ
  simp only at hEQ
  obtain ⟨_, _, _, hdv, hdl, _, _, _, hdat⟩ := hD
  injection hdv with t1 t2 t3
  subst t1 t2 t3
  obtain ⟨⟨bl1, bl2⟩, ⟨be1, be2⟩, ⟨bs1, bs2⟩, ⟨bu1, bu2⟩⟩ := hbd
  simp only at bl1 bl2 be1 be2 bs1 bs2 bu1 bu2
  have b0 := heap_alloc_new w (.cells #[.slice a N c, .slice a' P c', .int .i64 left, .int .i64 epoch, .int .i64 seq, .int .i64 used, .slice a2 D c2] 29)
  have hb0 := (Below.refl w.heap.size w).alloc (Nat.le_refl _) (.cells #[.slice a N c, .slice a' P c', .int .i64 left, .int .i64 epoch, .int .i64 seq, .int .i64 used, .slice a2 D c2] 29)
  obtain ⟨u, hU⟩ : ∃ u, w.alloc (.cells #[.slice a N c, .slice a' P c', .int .i64 left, .int .i64 epoch, .int .i64 seq, .int .i64 used, .slice a2 D c2] 29) = u := ⟨_, rfl⟩
  rw [hU] at b0 hb0
  have hdk2 := hdk.below hb0
  have HDR := Lib.hid (refDiskRight_any _ _ u hdk2)
  rw [hR] at HDR
  have HU := Lib.hid hU; have HB0 := Lib.hid b0; have HBB := Lib.hid hb0; have HEQ := Lib.hid hEQ; have HBQ := Lib.hid hB; have HDAT := Lib.hid hdat; have HDB := Lib.hid hDB; have HDL := Lib.hid hdl
  have HL2 := Lib.hid (fun x (hx : Below w.heap.size w x) => HLG.out.below hx)
  have c0 := below_cell (Below.refl _ u) b0 0 rfl
  have c1 := below_cell (Below.refl _ u) b0 1 rfl
  have c3 := below_cell (Below.refl _ u) b0 3 rfl
  have c4 := below_cell (Below.refl _ u) b0 4 rfl
  have c5 := below_cell (Below.refl _ u) b0 5 rfl
  have hNI : (N : Int) ≤ 9223372036854775807 := by omega
  clear hU b0 hb0 hdk hdk2 hEQ hB hdat hDB hS hP hdl HLG hR
  have hW0 : Hid (w.heap.size = w.heap.size) := Lib.hid rfl
  have HEP := Lib.hid (fun x => ref5Epoch_any epoch x)
  go_enter Tryz.func21, Tryz.ntmps21
  go_upto_region 1 with fail
  rw [HU.out]
  cases R with
  | false =>
    have HF : Hid (rightL ⟨secs, pend, left, epoch, seq, used, dirty⟩ = false) := Lib.hid (by rw [HEQ.out]; rfl)
    go_wp2_with (first | (go_at_call 46; refine HDR.out.mono ?_; rintro e w2 ⟨rfl, hb2⟩; have d3 := below_cell hb2 HB0.out 3 rfl; have d4 := below_cell hb2 HB0.out 4 rfl; have d5 := below_cell hb2 HB0.out 5 rfl; have d6 := below_cell hb2 HB0.out 6 rfl) | (go_at_call 51; refine (HEP.out _).mono ?_; rintro e w4 ⟨rfl, rfl⟩))
    go_ret
    exact ⟨by rw [HF.out]; rfl, HBB.out.trans (hb2.mono HBB.out.size)⟩
  | true =>
  by_cases g1 : 64 ≤ N
  case neg =>
    have HF : Hid (rightL ⟨secs, pend, left, epoch, seq, used, dirty⟩ = false) := Lib.hid (by rw [HEQ.out, decide_eq_false g1]; rfl)
    have g1I : (N : Int) < 64 := by omega
    go_wp2_with (first | (go_at_call 46; refine HDR.out.mono ?_; rintro e w2 ⟨rfl, hb2⟩; have d3 := below_cell hb2 HB0.out 3 rfl; have d4 := below_cell hb2 HB0.out 4 rfl; have d5 := below_cell hb2 HB0.out 5 rfl; have d6 := below_cell hb2 HB0.out 6 rfl) | (go_at_call 51; refine (HEP.out _).mono ?_; rintro e w4 ⟨rfl, rfl⟩))
    go_ret
    exact ⟨by rw [HF.out]; rfl, HBB.out.trans (hb2.mono HBB.out.size)⟩
  have g1I : ¬ (N : Int) < 64 := by omega
  have hgz : ¬ ((1 ≤ epoch ∧ epoch ≤ 1099511627776) ∧ (0 ≤ seq ∧ seq ≤ 6) ∧ (0 ≤ used ∧ used ≤ 40)) → rightL ⟨secs, pend, left, epoch, seq, used, dirty⟩ = false := fun h => by
    rw [HEQ.out, decide_eq_false h]; simp
  have HGZ := Lib.hid hgz
  clear hgz
  by_cases k1 : 1 ≤ epoch ∧ epoch ≤ 1099511627776
  case neg =>
    have HF := Lib.hid (HGZ.out (fun h => k1 h.1))
    rw [decide_eq_false k1] at HEP
    clear HGZ k1
    go_wp2_with (first | (go_at_call 46; refine HDR.out.mono ?_; rintro e w2 ⟨rfl, hb2⟩; have d3 := below_cell hb2 HB0.out 3 rfl; have d4 := below_cell hb2 HB0.out 4 rfl; have d5 := below_cell hb2 HB0.out 5 rfl; have d6 := below_cell hb2 HB0.out 6 rfl) | (go_at_call 51; refine (HEP.out _).mono ?_; rintro e w4 ⟨rfl, rfl⟩))
    go_ret
    exact ⟨by rw [HF.out]; rfl, HBB.out.trans (hb2.mono HBB.out.size)⟩
  rw [decide_eq_true k1] at HEP
  by_cases k3 : 0 ≤ seq
  case neg =>
    have HF := Lib.hid (HGZ.out (fun h => k3 h.2.1.1))
    have k3I : seq < 0 := by omega
    clear HGZ k1
    go_wp2_with (first | (go_at_call 46; refine HDR.out.mono ?_; rintro e w2 ⟨rfl, hb2⟩; have d3 := below_cell hb2 HB0.out 3 rfl; have d4 := below_cell hb2 HB0.out 4 rfl; have d5 := below_cell hb2 HB0.out 5 rfl; have d6 := below_cell hb2 HB0.out 6 rfl) | (go_at_call 51; refine (HEP.out _).mono ?_; rintro e w4 ⟨rfl, rfl⟩))
    go_ret
    exact ⟨by rw [HF.out]; rfl, HBB.out.trans (hb2.mono HBB.out.size)⟩
  have k3I : ¬ seq < 0 := by omega
  by_cases k4 : seq ≤ 6
  case neg =>
    have HF := Lib.hid (HGZ.out (fun h => k4 h.2.1.2))
    have k4I : 6 < seq := by omega
    clear HGZ k1
    go_wp2_with (first | (go_at_call 46; refine HDR.out.mono ?_; rintro e w2 ⟨rfl, hb2⟩; have d3 := below_cell hb2 HB0.out 3 rfl; have d4 := below_cell hb2 HB0.out 4 rfl; have d5 := below_cell hb2 HB0.out 5 rfl; have d6 := below_cell hb2 HB0.out 6 rfl) | (go_at_call 51; refine (HEP.out _).mono ?_; rintro e w4 ⟨rfl, rfl⟩))
    go_ret
    exact ⟨by rw [HF.out]; rfl, HBB.out.trans (hb2.mono HBB.out.size)⟩
  have k4I : ¬ 6 < seq := by omega
  by_cases k5 : 0 ≤ used
  case neg =>
    have HF := Lib.hid (HGZ.out (fun h => k5 h.2.2.1))
    have k5I : used < 0 := by omega
    clear HGZ k1
    go_wp2_with (first | (go_at_call 46; refine HDR.out.mono ?_; rintro e w2 ⟨rfl, hb2⟩; have d3 := below_cell hb2 HB0.out 3 rfl; have d4 := below_cell hb2 HB0.out 4 rfl; have d5 := below_cell hb2 HB0.out 5 rfl; have d6 := below_cell hb2 HB0.out 6 rfl) | (go_at_call 51; refine (HEP.out _).mono ?_; rintro e w4 ⟨rfl, rfl⟩))
    go_ret
    exact ⟨by rw [HF.out]; rfl, HBB.out.trans (hb2.mono HBB.out.size)⟩
  have k5I : ¬ used < 0 := by omega
  by_cases k6 : used ≤ 40
  case neg =>
    have HF := Lib.hid (HGZ.out (fun h => k6 h.2.2.2))
    have k6I : 40 < used := by omega
    clear HGZ k1
    go_wp2_with (first | (go_at_call 46; refine HDR.out.mono ?_; rintro e w2 ⟨rfl, hb2⟩; have d3 := below_cell hb2 HB0.out 3 rfl; have d4 := below_cell hb2 HB0.out 4 rfl; have d5 := below_cell hb2 HB0.out 5 rfl; have d6 := below_cell hb2 HB0.out 6 rfl) | (go_at_call 51; refine (HEP.out _).mono ?_; rintro e w4 ⟨rfl, rfl⟩))
    go_ret
    exact ⟨by rw [HF.out]; rfl, HBB.out.trans (hb2.mono HBB.out.size)⟩
  have k6I : ¬ 40 < used := by omega
  have HEB : Hid (rightL ⟨secs, pend, left, epoch, seq, used, dirty⟩ = B) := Lib.hid (by rw [HEQ.out, decide_eq_true g1, decide_eq_true ⟨k1, ⟨k3, k4⟩, ⟨k5, k6⟩⟩]; simp)
  clear HGZ HEQ k1
  go_upto_region 4 with (first | (go_at_call 46; refine HDR.out.mono ?_; rintro e w2 ⟨rfl, hb2⟩; have d3 := below_cell hb2 HB0.out 3 rfl; have d4 := below_cell hb2 HB0.out 4 rfl; have d5 := below_cell hb2 HB0.out 5 rfl; have d6 := below_cell hb2 HB0.out 6 rfl) | (go_at_call 51; refine (HEP.out _).mono ?_; rintro e w4 ⟨rfl, rfl⟩))
  have HB2 := Lib.hid (HBB.out.trans (hb2.mono HBB.out.size))
  clear c0 c1 c3 c4 c5 hb2 HDR HB0 HBB d3 d4 d5 k3 k4 k5 k6 k3I k4I k5I k6I g1 g1I be1 be2 bs1 bs2 bu1 bu2
  go_wp2_with fail
  have hDI : (D : Int) ≤ 9223372036854775807 := by omega
  go_loopw [4, 50] (fun av z wr => ∃ j : Nat, j ≤ D ∧ z = .int .i64 j ∧ av = .int .i64 (lastS (-1) (dirty.take j)) ∧ dirtyB N (-1) (dirty.take j) = true ∧ Hid (Below w.heap.size w wr)) (fun _ z _ => D - (intOf z).toNat)
  case atStart => exact ⟨0, Nat.zero_le _, rfl, rfl, rfl, HB2⟩
  case round =>
    obtain ⟨j, hj, rfl, rfl, hpre, HW⟩ := hrel
    by_cases hlt : j < D
    · have hjI : (j : Int) < D := by omega
      have hjl : j < dirty.length := by rw [hD2]; exact hlt
      obtain ⟨b, off, rfl, hbl, hat⟩ := HDAT.out.resolve_left (by omega)
      obtain ⟨e0, e1⟩ := (hat j hlt).below HW.out hbl
      have hbx := HDB.out _ (List.getElem_mem hjl)
      have hsn : dirtyB N (-1) (dirty.take (j + 1)) = nextB N (lastS (-1) (dirty.take j)) (dirty.getD j wrtZ) := by
        rw [← List.take_append_getElem hjl, dirtyB_snoc, hpre, show dirty.getD j wrtZ = dirty[j] from by simp [List.getD, hjl]]; rfl
      have hno : nextB N (lastS (-1) (dirty.take j)) (dirty.getD j wrtZ) = false → B = false := fun h => by
        rw [← hsn] at h
        have := dirtyB_pre N (-1) _ (dirty.drop (j + 1)) h
        rw [List.take_append_drop, HBQ.out] at this
        exact this
      have hls := lastS_take dirty j (-1) hjl
      have hpb := lastS_bnd (dirty.take j) (-1) ⟨by decide, by decide⟩ (fun x hx => HDB.out x (List.mem_of_mem_take hx))
      rw [show dirty[j] = dirty.getD j wrtZ from by simp [List.getD, hjl]] at hbx
      have HSN := Lib.hid hsn; have HNO := Lib.hid hno; have HLS := Lib.hid hls
      generalize lastS (-1) (dirty.take j) = la at *
      generalize dirty.getD j wrtZ = X at *
      obtain ⟨xs, xb⟩ := X
      obtain ⟨⟨bx1, bx2⟩, bx3⟩ := hbx
      obtain ⟨bp1, bp2⟩ := hpb
      simp only at e0 e1 bx1 bx2 bx3 HLS
      clear hsn hno hls hat hpre
      have HWW := Lib.hid (HW.out.alloc HW.out.size (.cells #[.int .i64 xs, .string xb] 46))
      have HH := Lib.hid (fun x => refHome_any N xs x)
      have HFT := Lib.hid (fun u => refStands_any xb u bx3)
      unfold nextB homeB at HSN HNO
      simp only at HSN HNO
      by_cases hh : 53 ≤ xs ∧ xs < N
      case neg =>
        rw [decide_eq_false hh] at HH
        have HF := Lib.hid (HEB.out.trans (HNO.out (by rw [decide_eq_false hh]; rfl)))
        clear HNO HSN hh
        go_wp2_with (first | (go_at_call 52; refine (HH.out _).mono ?_; rintro e q1 ⟨rfl, rfl⟩) | (go_at_call 53; refine (HFT.out _).mono ?_; rintro e q2 ⟨rfl, rfl⟩))
        go_ret
        exact ⟨by rw [HF.out]; rfl, HWW.out⟩
      rw [decide_eq_true hh] at HH
      cases hf : fitsB xb with
      | false =>
        rw [hf] at HFT
        have HF := Lib.hid (HEB.out.trans (HNO.out (by rw [hf]; simp)))
        clear HNO HSN hh hf
        go_wp2_with (first | (go_at_call 52; refine (HH.out _).mono ?_; rintro e q1 ⟨rfl, rfl⟩) | (go_at_call 53; refine (HFT.out _).mono ?_; rintro e q2 ⟨rfl, rfl⟩))
        go_ret
        exact ⟨by rw [HF.out]; rfl, HWW.out⟩
      | true =>
      rw [hf] at HFT
      by_cases hp : la < xs
      case neg =>
        have hpI : xs ≤ la := by omega
        have hpd : decide (xs ≤ la) = true := decide_eq_true hpI
        have HF := Lib.hid (HEB.out.trans (HNO.out (by rw [decide_eq_false hp]; simp)))
        clear HNO HSN hh hf
        go_wp2_with (first | (go_at_call 52; refine (HH.out _).mono ?_; rintro e q1 ⟨rfl, rfl⟩) | (go_at_call 53; refine (HFT.out _).mono ?_; rintro e q2 ⟨rfl, rfl⟩))
        go_ret
        exact ⟨by rw [HF.out]; rfl, HWW.out⟩
      have hpI : ¬ xs ≤ la := by omega
      have hpd : decide (xs ≤ la) = false := decide_eq_false hpI
      have HS2 := Lib.hid (HSN.out.trans (by rw [decide_eq_true hh, hf, decide_eq_true hp]; try rfl))
      clear HNO HSN hh hf
      go_wp2_with (first | (go_at_call 52; refine (HH.out _).mono ?_; rintro e q1 ⟨rfl, rfl⟩) | (go_at_call 53; refine (HFT.out _).mono ?_; rintro e q2 ⟨rfl, rfl⟩))
      go_roundw
      case rel => exact ⟨j + 1, by omega, by go_num, by rw [HLS.out], HS2.out, HWW⟩
      case measure => simp [intOf]; omega
    · obtain rfl : j = D := by omega
      have hnl : ¬ (j : Int) < j := by omega
      have hB : B = true := by rw [← HBQ.out, ← hpre, List.take_of_length_le (by omega)]
      have HF := Lib.hid (HEB.out.trans hB)
      clear hpre hB
      go_wp2_with fail
      go_ret
      exact ⟨by rw [HF.out]; rfl, HW.out⟩
end SRef05R
section SRef05L
open Go.RowKit
set_option linter.unusedVariables false
set_option linter.unusedSimpArgs false

set_option maxRecDepth 100000 in
set_option maxHeartbeats 2000000 in
theorem refLike5_any (va vb : Value) (x y : Lg) (w : World) (hx : IsLog w va x) (hy : IsLog w vb y) :
    Calls Tryz.prog 15 #[va, vb] w fun e w' => e = .returned (.bool ((((decide (x.left = y.left ∧ x.dsk = y.dsk) && decide (x.epoch = y.epoch)) && decide (x.seq = y.seq)) && decide (x.used = y.used)) && decide (x.dirty = y.dirty))) ∧ Below w.heap.size w w' := by
  obtain ⟨x1, x2, x3, x4, x5, x6, rfl, _⟩ := id hx.form
  obtain ⟨y1, y2, y3, y4, y5, y6, rfl, _⟩ := id hy.form
  have hX : Hid (∀ u, (w.alloc (.cells #[.slice x1 x.secs.length x2, .slice x3 x.pend.length x4, .int .i64 x.left, .int .i64 x.epoch, .int .i64 x.seq, .int .i64 x.used, .slice x5 x.dirty.length x6] 29)).alloc (.cells #[.slice y1 y.secs.length y2, .slice y3 y.pend.length y4, .int .i64 y.left, .int .i64 y.epoch, .int .i64 y.seq, .int .i64 y.used, .slice y5 y.dirty.length y6] 29) = u →
      u.heap[w.heap.size]? = some (.cells #[.slice x1 x.secs.length x2, .slice x3 x.pend.length x4, .int .i64 x.left, .int .i64 x.epoch, .int .i64 x.seq, .int .i64 x.used, .slice x5 x.dirty.length x6] 29 (0, 0)) ∧ u.heap[w.heap.size + 1]? = some (.cells #[.slice y1 y.secs.length y2, .slice y3 y.pend.length y4, .int .i64 y.left, .int .i64 y.epoch, .int .i64 y.seq, .int .i64 y.used, .slice y5 y.dirty.length y6] 29 (0, 0)) ∧ Below w.heap.size w u) := Lib.hid (by
    rintro u rfl
    have b0 := heap_alloc_new w (.cells #[.slice x1 x.secs.length x2, .slice x3 x.pend.length x4, .int .i64 x.left, .int .i64 x.epoch, .int .i64 x.seq, .int .i64 x.used, .slice x5 x.dirty.length x6] 29)
    have e1 := heap_alloc_new (w.alloc (.cells #[.slice x1 x.secs.length x2, .slice x3 x.pend.length x4, .int .i64 x.left, .int .i64 x.epoch, .int .i64 x.seq, .int .i64 x.used, .slice x5 x.dirty.length x6] 29)) (.cells #[.slice y1 y.secs.length y2, .slice y3 y.pend.length y4, .int .i64 y.left, .int .i64 y.epoch, .int .i64 y.seq, .int .i64 y.used, .slice y5 y.dirty.length y6] 29)
    rw [World.size_alloc] at e1
    exact ⟨(heap_alloc_old _ _ (lt_of_block b0)).trans b0, e1, ((Below.refl w.heap.size w).alloc (Nat.le_refl _) _).alloc (by simp) _⟩)
  have HP := Lib.hid (fun u (hb : Below w.heap.size w u) => refLikePower_any _ _ _ _ _ _ u ((power_log hx).below hb) ((power_log hy).below hb))
  have HLW := Lib.hid (fun u (hb : Below w.heap.size w u) => refLikeWrites_any _ _ _ _ u ((log_dirty hx).below hb) ((log_dirty hy).below hb))
  clear hx hy
  have q1 : (x.epoch == y.epoch) = decide (x.epoch = y.epoch) := Bool.eq_iff_iff.2 (by simp)
  have q2 : (x.seq == y.seq) = decide (x.seq = y.seq) := Bool.eq_iff_iff.2 (by simp)
  have q3 : (x.used == y.used) = decide (x.used = y.used) := Bool.eq_iff_iff.2 (by simp)
  generalize decide (x.left = y.left ∧ x.dsk = y.dsk) = b0 at *
  generalize decide (x.epoch = y.epoch) = b1 at *
  generalize decide (x.seq = y.seq) = b2 at *
  generalize decide (x.used = y.used) = b3 at *
  generalize decide (x.dirty = y.dirty) = b4 at *
  go_enter Tryz.func15, Tryz.ntmps15
  go_upto_region 1 with fail
  obtain ⟨u, hW⟩ : ∃ u, (w.alloc (.cells #[.slice x1 x.secs.length x2, .slice x3 x.pend.length x4, .int .i64 x.left, .int .i64 x.epoch, .int .i64 x.seq, .int .i64 x.used, .slice x5 x.dirty.length x6] 29)).alloc (.cells #[.slice y1 y.secs.length y2, .slice y3 y.pend.length y4, .int .i64 y.left, .int .i64 y.epoch, .int .i64 y.seq, .int .i64 y.used, .slice y5 y.dirty.length y6] 29) = u := ⟨_, rfl⟩
  rw [hW]
  obtain ⟨hx1, hy1, hb1⟩ := hX.out u hW
  have HX1 := Lib.hid hx1; have HY1 := Lib.hid hy1; have HB1 := Lib.hid hb1
  have c0 := below_cell (Below.refl _ u) hx1 0 rfl
  have c1 := below_cell (Below.refl _ u) hx1 1 rfl
  have c2 := below_cell (Below.refl _ u) hx1 2 rfl
  have e0 := below_cell (Below.refl _ u) hy1 0 rfl
  have e1 := below_cell (Below.refl _ u) hy1 1 rfl
  have e2 := below_cell (Below.refl _ u) hy1 2 rfl
  have HPU := Lib.hid (HP.out u hb1)
  clear hX hW hx1 hy1 hb1 HP
  cases b0 <;> cases b1 <;> cases b2 <;> cases b3
  all_goals
    go_wp2_with (first
      | (go_at_call 40; refine HPU.out.mono ?_; rintro e u2 ⟨rfl, hb2⟩; have d3 := below_cell hb2 HX1.out 3 rfl; have f3 := below_cell hb2 HY1.out 3 rfl; have d4 := below_cell hb2 HX1.out 4 rfl; have f4 := below_cell hb2 HY1.out 4 rfl; have d5 := below_cell hb2 HX1.out 5 rfl; have f5 := below_cell hb2 HY1.out 5 rfl; have d6 := below_cell hb2 HX1.out 6 rfl; have f6 := below_cell hb2 HY1.out 6 rfl)
      | (go_at_call 41; refine (HLW.out u2 (HB1.out.trans (hb2.mono HB1.out.size))).mono ?_; rintro e u3 ⟨rfl, hb3⟩))
    go_ret
    first
      | exact ⟨rfl, HB1.out.trans (hb2.mono HB1.out.size)⟩
      | exact ⟨by cases b4 <;> rfl, (HB1.out.trans (hb2.mono HB1.out.size)).trans (hb3.mono (HB1.out.trans (hb2.mono HB1.out.size)).size)⟩
end SRef05L
end Go.Proofs.YthnmnnlbglpjaaaGreatDoor
