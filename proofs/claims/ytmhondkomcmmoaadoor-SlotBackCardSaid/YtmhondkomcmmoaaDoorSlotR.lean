/- slot.ReadSuper, slot.ReadCommit. -/
import Derived.Test.YtmhondkomcmmoaaDoorSlotN
namespace Go.Proofs.YtmhondkomcmmoaaDoor
open Go.RowKit
set_option linter.unusedVariables false

theorem decide_eq' (p : Prop) [Decidable p] : p ∨ ¬ p := Decidable.em p
/-- what a text is read as: an epoch, and whether it is one -/
def superIs (s : ByteArray) : Prop := (1 ≤ (partN s 1 6 : Int) ∧ (partN s 1 6 : Int) ≤ 1099511627776) ∧ layS (superL (partN s 1 6 : Nat)) = s
def commitIs (s : ByteArray) : Prop := ((1 ≤ (partN s 1 6 : Int) ∧ (partN s 1 6 : Int) ≤ 1099511627776) ∧ (0 ≤ (partN s 7 1 : Int) ∧ (partN s 7 1 : Int) < 6)) ∧ layS (commitL (partN s 1 6 : Nat) (partN s 7 1 : Nat)) = s
instance (s : ByteArray) : Decidable (superIs s) := by unfold superIs; exact inferInstance
instance (s : ByteArray) : Decidable (commitIs s) := by unfold commitIs; exact inferInstance
def superV (s : ByteArray) : Int := if superIs s then (partN s 1 6 : Nat) else 0
def superE (s : ByteArray) : Int := if superIs s then 0 else 4
set_option maxRecDepth 100000 in
set_option maxHeartbeats 1000000 in
theorem slotReadSuper_any (s : ByteArray) (w : World) (hs : s.size ≤ 2000) :
    Calls Tryd.prog 18 #[.string s] w fun e w' => e = .returned (.tuple #[.agg #[.int .i64 (superV s)], .int .i64 (superE s)]) ∧ Below w.heap.size w w' := by
  have hA := heap_alloc_new w (.cells #[.int .i64 0] 30)
  have hw := (Below.refl w.heap.size w).alloc (Nat.le_refl _) (.cells #[.int .i64 0] 30)
  have hV : superV s = if superIs s then ((partN s 1 6 : Nat) : Int) else 0 := rfl
  have hE : superE s = if superIs s then 0 else 4 := rfl
  have hS : superIs s ↔ ((1 ≤ (partN s 1 6 : Int) ∧ (partN s 1 6 : Int) ≤ 1099511627776) ∧ layS (superL (partN s 1 6 : Nat)) = s) := Iff.rfl
  have HN := Lib.hid (fun R u hR => slotNumber_any R 1 6 s u hR (by omega) (by omega) (by omega) hs)
  go_enter Tryd.func18, Tryd.ntmps18
  go_wp2_with fail
  refine (slotNumbers_any s _).mono ?_
  rintro e w2 ⟨rfl, rfl⟩
  have hA2 := (heap_alloc_old _ (.cells #[.string s, .int .i64 1] 73) (Array.getElem?_eq_some_iff.1 hA).1).trans hA
  have hR2 := heap_alloc_new (w.alloc (.cells #[.int .i64 0] 30)) (.cells #[.string s, .int .i64 1] 73)
  have hw2 := hw.alloc hw.size (.cells #[.string s, .int .i64 1] 73)
  rw [World.size_alloc] at hR2 ⊢
  obtain ⟨w2, hW2⟩ : ∃ w2, (w.alloc (.cells #[.int .i64 0] 30)).alloc (.cells #[.string s, .int .i64 1] 73) = w2 := ⟨_, rfl⟩
  rw [hW2] at hA2 hR2 hw2 ⊢
  clear hW2 hA hw
  go_wp2_with fail
  refine (HN.out _ w2 hR2).mono ?_
  rintro e w3 ⟨rfl, hb3⟩
  have hA3 := ((hb3.block _ (Array.getElem?_eq_some_iff.1 hA2).1).trans (Below.heap_setCell w2 ⟨w.heap.size + 1, 1, none⟩ (.int .i64 (1 + 6)) w.heap.size (by show w.heap.size ≠ w.heap.size + 1; omega))).trans hA2
  have hw3 := (hw2.setCell (p := ⟨w.heap.size + 1, 1, none⟩) (by simp) (.int .i64 (1 + 6))).trans (hb3.mono (by have := hw2.size; simpa using this))
  clear hA2 hR2 hw2 hb3 HN
  generalize partN s 1 6 = N at *
  go_upto_region 3 with fail
  have hw4 : Below w.heap.size w (w3.alloc (.cells #[.int .i64 (N : Nat)] 30)) := hw3.alloc hw3.size _
  have hT4 := heap_alloc_new w3 (.cells #[.int .i64 (N : Nat)] 30)
  have hA4 := (heap_alloc_old w3 (.cells #[.int .i64 (N : Nat)] 30) (Array.getElem?_eq_some_iff.1 hA3).1).trans hA3
  obtain ⟨w4, hW4⟩ : ∃ w4, w3.alloc (.cells #[.int .i64 (N : Nat)] 30) = w4 := ⟨_, rfl⟩
  rw [hW4] at hw4 hT4 hA4 ⊢
  clear hW4 hA3 hw3
  have HV := Lib.hid hV; have HE := Lib.hid hE; have HS := Lib.hid hS
  clear hV hE hS
  have t0 := below_cell (Below.refl _ w4) hT4 0 rfl
  by_cases hin : 1 ≤ (N : Int) ∧ (N : Int) ≤ 1099511627776
  · go_wp2_with fail
    refine (slotSuper_ok (N : Nat) w4 hin.1 hin.2).mono ?_
    rintro e w5 ⟨rfl, hb5⟩
    have hA5 := (hb5.block _ (Array.getElem?_eq_some_iff.1 hA4).1).trans hA4
    have hT5 := (hb5.block _ (Array.getElem?_eq_some_iff.1 hT4).1).trans hT4
    have hw5 := hw4.trans (hb5.mono hw4.size)
    clear t0 hA4 hT4 hw4 hb5
    have t0 := below_cell (Below.refl _ w5) hT5 0 rfl
    have a0 := below_cell (Below.refl _ w5) hA5 0 rfl
    have f0 := block_frozen hA5 0
    by_cases heq : layS (superL (N : Nat)) = s
    · have his : superIs s := HS.out.2 ⟨hin, heq⟩
      have e1 : superV s = N := by rw [HV.out, if_pos his]
      have e2 : superE s = 0 := by rw [HE.out, if_pos his]
      rw [heq]
      have HE1 := Lib.hid e1; have HE2 := Lib.hid e2
      have hset := block_set hA5 0 (.int .i64 (N : Nat))
      have HSET := Lib.hid hset
      have hw6 := hw5.setCell (p := ⟨w.heap.size, 0, none⟩) (Nat.le_refl _) (.int .i64 (N : Nat))
      clear e1 e2 his heq hset hin
      go_wp2_with fail
      refine bodyPost_ret (results_row_tmp rfl _ _ w.heap.size _ _ _ _ rfl HSET.out Tryd.underlying30 rfl (by kernel_rfl)) rfl ⟨?_, hw6⟩
      rw [HE1.out, HE2.out]
      first | rfl | (simp; done)
    · have his : ¬ superIs s := fun h => heq (HS.out.1 h).2
      have e1 : superV s = 0 := by rw [HV.out, if_neg his]
      have e2 : superE s = 4 := by rw [HE.out, if_neg his]
      have hne := ba_tne heq
      have HE1 := Lib.hid e1; have HE2 := Lib.hid e2
      have hset := block_set hA5 0 (.int .i64 0)
      have HSET := Lib.hid hset
      have hw6 := hw5.setCell (p := ⟨w.heap.size, 0, none⟩) (Nat.le_refl _) (.int .i64 0)
      clear e1 e2 his heq hset hin
      go_wp2_with fail
      refine bodyPost_ret (results_row_tmp rfl _ _ w.heap.size _ _ _ _ rfl HSET.out Tryd.underlying30 rfl (by kernel_rfl)) rfl ⟨?_, hw6⟩
      rw [HE1.out, HE2.out]
      first | rfl | (simp; done)
  · have his : ¬ superIs s := fun h => hin (HS.out.1 h).1
    have e1 : superV s = 0 := by rw [HV.out, if_neg his]
    have e2 : superE s = 4 := by rw [HE.out, if_neg his]
    have HE1 := Lib.hid e1; have HE2 := Lib.hid e2
    clear e1 e2 his
    go_wp2_with fail
    refine (slotSuper_bad (N : Nat) w4 hin).mono ?_
    rintro e w5 ⟨rfl, hb5⟩
    have hA5 := (hb5.block _ (Array.getElem?_eq_some_iff.1 hA4).1).trans hA4
    have hw5 := hw4.trans (hb5.mono hw4.size)
    clear t0 hA4 hT4 hw4 hb5
    have a0 := below_cell (Below.refl _ w5) hA5 0 rfl
    have f0 := block_frozen hA5 0
    have hset := block_set hA5 0 (.int .i64 0)
    have HSET := Lib.hid hset
    have hw6 := hw5.setCell (p := ⟨w.heap.size, 0, none⟩) (Nat.le_refl _) (.int .i64 0)
    clear hset hin
    go_wp2_with fail
    refine bodyPost_ret (results_row_tmp rfl _ _ w.heap.size _ _ _ _ rfl HSET.out Tryd.underlying30 rfl (by kernel_rfl)) rfl ⟨?_, hw6⟩
    rw [HE1.out, HE2.out]
    first | rfl | (simp; done)
def commitV (s : ByteArray) : Int := if commitIs s then ((partN s 1 6 : Nat) : Int) else 0
def commitW (s : ByteArray) : Int := if commitIs s then ((partN s 7 1 : Nat) : Int) else 0
def commitE (s : ByteArray) : Int := if commitIs s then 0 else 4
set_option maxRecDepth 100000 in
set_option maxHeartbeats 1000000 in
theorem slotReadCommit_any (s : ByteArray) (w : World) (hs : s.size ≤ 2000) :
    Calls Tryd.prog 22 #[.string s] w fun e w' => e = .returned (.tuple #[.int .i64 (commitV s), .int .i64 (commitW s), .int .i64 (commitE s)]) ∧ Below w.heap.size w w' := by
  have hV : commitV s = if commitIs s then ((partN s 1 6 : Nat) : Int) else 0 := rfl
  have hW : commitW s = if commitIs s then ((partN s 7 1 : Nat) : Int) else 0 := rfl
  have hE : commitE s = if commitIs s then 0 else 4 := rfl
  have hS : commitIs s ↔ (((1 ≤ (partN s 1 6 : Int) ∧ (partN s 1 6 : Int) ≤ 1099511627776) ∧ (0 ≤ (partN s 7 1 : Int) ∧ (partN s 7 1 : Int) < 6)) ∧ layS (commitL (partN s 1 6 : Nat) (partN s 7 1 : Nat)) = s) := Iff.rfl
  have HN := Lib.hid (fun R u hR => slotNumber_any R 1 6 s u hR (by omega) (by omega) (by omega) hs)
  have HN2 := Lib.hid (fun R u hR => slotNumber_any R 7 1 s u hR (by omega) (by omega) (by omega) hs)
  go_enter Tryd.func22, Tryd.ntmps22
  go_wp2_with fail
  refine (slotNumbers_any s _).mono ?_
  rintro e w2 ⟨rfl, rfl⟩
  have hR2 := heap_alloc_new w (.cells #[.string s, .int .i64 1] 73)
  have hw2 := (Below.refl w.heap.size w).alloc (Nat.le_refl _) (.cells #[.string s, .int .i64 1] 73)
  obtain ⟨w2, hW2⟩ : ∃ w2, w.alloc (.cells #[.string s, .int .i64 1] 73) = w2 := ⟨_, rfl⟩
  rw [hW2] at hR2 hw2 ⊢
  clear hW2
  go_wp2_with fail
  refine (HN.out _ w2 hR2).mono ?_
  rintro e w3 ⟨rfl, hb3⟩
  have hR3 := (hb3.block _ (by have := (Array.getElem?_eq_some_iff.1 hR2).1; exact this)).trans (block_set hR2 1 (.int .i64 (1 + 6)))
  have hw3 := (hw2.setCell (p := ⟨w.heap.size, 1, none⟩) (Nat.le_refl _) (.int .i64 (1 + 6))).trans (hb3.mono (by have := hw2.size; simpa using this))
  clear hR2 hw2 hb3 HN
  go_wp2_with fail
  refine (HN2.out w.heap.size w3 hR3).mono ?_
  rintro e w4 ⟨rfl, hb4⟩
  have hw4 := (hw3.setCell (p := ⟨w.heap.size, 1, none⟩) (Nat.le_refl _) (.int .i64 (7 + 1))).trans (hb4.mono (by have := hw3.size; simpa using this))
  clear hR3 hw3 hb4 HN2
  generalize partN s 1 6 = N at *
  generalize partN s 7 1 = M at *
  have HV := Lib.hid hV; have HE := Lib.hid hE; have HS := Lib.hid hS; have HW := Lib.hid hW
  clear hV hE hS hW
  by_cases hin : (1 ≤ (N : Int) ∧ (N : Int) ≤ 1099511627776) ∧ (0 ≤ (M : Int) ∧ (M : Int) < 6)
  · go_wp2_with fail
    refine (slotCommit_ok (N : Nat) (M : Nat) w4 hin.1 hin.2).mono ?_
    rintro e w5 ⟨rfl, hb5⟩
    have hw5 := hw4.trans (hb5.mono hw4.size)
    by_cases heq : layS (commitL (N : Nat) (M : Nat)) = s
    · have his : commitIs s := HS.out.2 ⟨hin, heq⟩
      have e1 : commitV s = N := by rw [HV.out, if_pos his]
      have e3 : commitW s = M := by rw [HW.out, if_pos his]
      have e2 : commitE s = 0 := by rw [HE.out, if_pos his]
      rw [heq]
      have HE1 := Lib.hid e1; have HE2 := Lib.hid e2; have HE3 := Lib.hid e3
      clear e1 e2 e3 his heq hin
      go_wp2_with fail
      go_ret3
      exact ⟨by rw [HE1.out, HE2.out, HE3.out]; rfl, hw5⟩
    · have his : ¬ commitIs s := fun h => heq (HS.out.1 h).2
      have e1 : commitV s = 0 := by rw [HV.out, if_neg his]
      have e3 : commitW s = 0 := by rw [HW.out, if_neg his]
      have e2 : commitE s = 4 := by rw [HE.out, if_neg his]
      have hne := ba_tne heq
      have HE1 := Lib.hid e1; have HE2 := Lib.hid e2; have HE3 := Lib.hid e3
      clear e1 e2 e3 his heq hin
      go_wp2_with fail
      go_ret3
      exact ⟨by rw [HE1.out, HE2.out, HE3.out]; rfl, hw5⟩
  · have his : ¬ commitIs s := fun h => hin (HS.out.1 h).1
    have e1 : commitV s = 0 := by rw [HV.out, if_neg his]
    have e3 : commitW s = 0 := by rw [HW.out, if_neg his]
    have e2 : commitE s = 4 := by rw [HE.out, if_neg his]
    have HE1 := Lib.hid e1; have HE2 := Lib.hid e2; have HE3 := Lib.hid e3
    clear e1 e2 e3 his
    go_wp2_with fail
    refine (slotCommit_bad (N : Nat) (M : Nat) w4 hin).mono ?_
    rintro e w5 ⟨rfl, hb5⟩
    have hw5 := hw4.trans (hb5.mono hw4.size)
    clear hin
    go_wp2_with fail
    go_ret3
    exact ⟨by rw [HE1.out, HE2.out, HE3.out]; rfl, hw5⟩
end Go.Proofs.YtmhondkomcmmoaaDoor
