/- The readers of layer 4's reference. -/
import Derived.Test.YtmhondkomcmmoaaDoorSlotM2
namespace Go.Proofs.YtmhondkomcmmoaaDoor
open Go.RowKit
set_option linter.unusedVariables false

set_option maxRecDepth 100000 in
set_option maxHeartbeats 1000000 in
theorem ref4ReadSuper_any (s : ByteArray) (w : World) (hs : s.size ≤ 2000) :
    Calls Tryd.prog 19 #[.string s] w fun e w' => e = .returned (.tuple #[.agg #[.int .i64 (superV s)], .int .i64 (superE s)]) ∧ Below w.heap.size w w' := by
  have hA := heap_alloc_new w (.cells #[.int .i64 0] 30)
  have hw := (Below.refl w.heap.size w).alloc (Nat.le_refl _) (.cells #[.int .i64 0] 30)
  have hV : superV s = if superIs s then ((partN s 1 6 : Nat) : Int) else 0 := rfl
  have hE : superE s = if superIs s then 0 else 4 := rfl
  have hS : superIs s ↔ ((1 ≤ (partN s 1 6 : Int) ∧ (partN s 1 6 : Int) ≤ 1099511627776) ∧ layS (superL (partN s 1 6 : Nat)) = s) := Iff.rfl
  have HN := Lib.hid (fun u => ref4Part_any s 1 6 u hs (by omega) (by omega))
  have hlt := partN_lt s 1 6
  rw [show (256 : Nat) ^ 6 = 281474976710656 by decide] at hlt
  generalize partN s 1 6 = N at *
  have HEP := Lib.hid (fun u => ref4Epoch_any (N : Nat) u)
  have HSU := Lib.hid (fun u => ref4Super_any (N : Nat) u (by omega) (by omega))
  have HV := Lib.hid hV; have HE := Lib.hid hE; have HS := Lib.hid hS
  clear hV hE hS
  go_enter Tryd.func19, Tryd.ntmps19
  go_wp2_with fail
  refine (HN.out _).mono ?_
  rintro e w2 ⟨rfl, rfl⟩
  obtain ⟨w4, hW4⟩ : ∃ w4, w.alloc (.cells #[.int .i64 0] 30) = w4 := ⟨_, rfl⟩
  rw [hW4] at hA hw ⊢
  clear hW4 HN
  go_wp2_with fail
  refine (HEP.out _).mono ?_
  rintro e w5 ⟨rfl, rfl⟩
  by_cases hin : 1 ≤ (N : Int) ∧ (N : Int) ≤ 1099511627776
  · rw [decide_eq_true hin]
    go_wp2_with fail
    refine (HSU.out _).mono ?_
    rintro e w5 ⟨rfl, hb5⟩
    have hA5 := (hb5.block _ (Array.getElem?_eq_some_iff.1 hA).1).trans hA
    have hw5 := hw.trans (hb5.mono hw.size)
    clear hA hw hb5 HSU HEP
    have a0 := below_cell (Below.refl _ w5) hA5 0 rfl
    have f0 := block_frozen hA5 0
    by_cases heq : layS (superL (N : Nat)) = s
    · have his : superIs s := HS.out.2 ⟨hin, heq⟩
      have e1 : superV s = N := by rw [HV.out, if_pos his]
      have e2 : superE s = 0 := by rw [HE.out, if_pos his]
      rw [heq]
      have HE1 := Lib.hid e1; have HE2 := Lib.hid e2
      have hset := block_set hA5 0 (.int .i64 (N : Nat))
      have HSET := Lib.hid hset
      have hw6 := hw5.setCell (p := ⟨w.heap.size, 0, none⟩) (Nat.le_refl _) (.int .i64 (N : Nat))
      clear e1 e2 his heq hset hin
      go_wp2_with fail
      refine bodyPost_ret (results_row_tmp rfl _ _ w.heap.size _ _ _ _ rfl HSET.out Tryd.underlying30 rfl (by kernel_rfl)) rfl ⟨?_, hw6⟩
      rw [HE1.out, HE2.out]
      first | rfl | (simp; done)
    · have his : ¬ superIs s := fun h => heq (HS.out.1 h).2
      have e1 : superV s = 0 := by rw [HV.out, if_neg his]
      have e2 : superE s = 4 := by rw [HE.out, if_neg his]
      have hne := ba_tne heq
      have HE1 := Lib.hid e1; have HE2 := Lib.hid e2
      have hset := block_set hA5 0 (.int .i64 0)
      have HSET := Lib.hid hset
      have hw6 := hw5.setCell (p := ⟨w.heap.size, 0, none⟩) (Nat.le_refl _) (.int .i64 0)
      clear e1 e2 his heq hset hin
      go_wp2_with fail
      refine bodyPost_ret (results_row_tmp rfl _ _ w.heap.size _ _ _ _ rfl HSET.out Tryd.underlying30 rfl (by kernel_rfl)) rfl ⟨?_, hw6⟩
      rw [HE1.out, HE2.out]
      first | rfl | (simp; done)
  · rw [decide_eq_false hin]
    have his : ¬ superIs s := fun h => hin (HS.out.1 h).1
    have e1 : superV s = 0 := by rw [HV.out, if_neg his]
    have e2 : superE s = 4 := by rw [HE.out, if_neg his]
    have HE1 := Lib.hid e1; have HE2 := Lib.hid e2
    have a0 := below_cell (Below.refl _ w4) hA 0 rfl
    have f0 := block_frozen hA 0
    have hset := block_set hA 0 (.int .i64 0)
    have HSET := Lib.hid hset
    have hw6 := hw.setCell (p := ⟨w.heap.size, 0, none⟩) (Nat.le_refl _) (.int .i64 0)
    clear e1 e2 his hset hin
    go_wp2_with fail
    refine bodyPost_ret (results_row_tmp rfl _ _ w.heap.size _ _ _ _ rfl HSET.out Tryd.underlying30 rfl (by kernel_rfl)) rfl ⟨?_, hw6⟩
    rw [HE1.out, HE2.out]
    first | rfl | (simp; done)
set_option maxRecDepth 100000 in
set_option maxHeartbeats 1000000 in
theorem ref4ReadCommit_any (s : ByteArray) (w : World) (hs : s.size ≤ 2000) :
    Calls Tryd.prog 23 #[.string s] w fun e w' => e = .returned (.tuple #[.int .i64 (commitV s), .int .i64 (commitW s), .int .i64 (commitE s)]) ∧ Below w.heap.size w w' := by
  have hV : commitV s = if commitIs s then ((partN s 1 6 : Nat) : Int) else 0 := rfl
  have hW : commitW s = if commitIs s then ((partN s 7 1 : Nat) : Int) else 0 := rfl
  have hE : commitE s = if commitIs s then 0 else 4 := rfl
  have hS : commitIs s ↔ (((1 ≤ (partN s 1 6 : Int) ∧ (partN s 1 6 : Int) ≤ 1099511627776) ∧ (0 ≤ (partN s 7 1 : Int) ∧ (partN s 7 1 : Int) < 6)) ∧ layS (commitL (partN s 1 6 : Nat) (partN s 7 1 : Nat)) = s) := Iff.rfl
  have HN := Lib.hid (fun u => ref4Part_any s 1 6 u hs (by omega) (by omega))
  have HN2 := Lib.hid (fun u => ref4Part_any s 7 1 u hs (by omega) (by omega))
  have hlt := partN_lt s 1 6
  have hlt2 := partN_lt s 7 1
  rw [show (256 : Nat) ^ 6 = 281474976710656 by decide] at hlt
  rw [show (256 : Nat) ^ 1 = 256 by decide] at hlt2
  generalize partN s 1 6 = N at *
  generalize partN s 7 1 = M at *
  have HEP := Lib.hid (fun u => ref4Epoch_any (N : Nat) u)
  have HPL := Lib.hid (fun u => ref4Place_any (M : Nat) u)
  have HCO := Lib.hid (fun u => ref4Commit_any (N : Nat) (M : Nat) u (by omega) (by omega) (by omega) (by omega))
  have HV := Lib.hid hV; have HE := Lib.hid hE; have HS := Lib.hid hS; have HW := Lib.hid hW
  clear hV hE hS hW
  go_enter Tryd.func23, Tryd.ntmps23
  go_wp2_with fail
  refine (HN.out _).mono ?_
  rintro e w2 ⟨rfl, rfl⟩
  go_wp2_with fail
  refine (HN2.out _).mono ?_
  rintro e w2 ⟨rfl, rfl⟩
  go_wp2_with fail
  refine (HEP.out _).mono ?_
  rintro e w2 ⟨rfl, rfl⟩
  have bad : ¬ commitIs s → (commitV s = 0 ∧ commitW s = 0 ∧ commitE s = 4) := by
    intro his
    rw [HV.out, HW.out, HE.out, if_neg his, if_neg his, if_neg his]
    exact ⟨rfl, rfl, rfl⟩
  have BAD := Lib.hid bad
  clear bad
  by_cases hin1 : 1 ≤ (N : Int) ∧ (N : Int) ≤ 1099511627776
  · rw [decide_eq_true hin1]
    go_wp2_with fail
    refine (HPL.out _).mono ?_
    rintro e w2 ⟨rfl, rfl⟩
    by_cases hin2 : 0 ≤ (M : Int) ∧ (M : Int) < 6
    · rw [decide_eq_true hin2]
      have hin := And.intro hin1 hin2
      go_wp2_with fail
      refine (HCO.out _).mono ?_
      rintro e w5 ⟨rfl, hw5⟩
      clear HCO HEP HPL HN HN2
      by_cases heq : layS (commitL (N : Nat) (M : Nat)) = s
      · have his : commitIs s := HS.out.2 ⟨hin, heq⟩
        have e1 : commitV s = N := by rw [HV.out, if_pos his]
        have e3 : commitW s = M := by rw [HW.out, if_pos his]
        have e2 : commitE s = 0 := by rw [HE.out, if_pos his]
        rw [heq]
        have HE1 := Lib.hid e1; have HE2 := Lib.hid e2; have HE3 := Lib.hid e3
        clear e1 e2 e3 his heq hin hin1 hin2
        go_wp2_with fail
        go_ret3
        exact ⟨by rw [HE1.out, HE2.out, HE3.out]; rfl, hw5⟩
      · have his : ¬ commitIs s := fun h => heq (HS.out.1 h).2
        have e1 : commitV s = 0 := by rw [HV.out, if_neg his]
        have e3 : commitW s = 0 := by rw [HW.out, if_neg his]
        have e2 : commitE s = 4 := by rw [HE.out, if_neg his]
        have hne := ba_tne heq
        have HE1 := Lib.hid e1; have HE2 := Lib.hid e2; have HE3 := Lib.hid e3
        clear e1 e2 e3 his heq hin hin1 hin2
        go_wp2_with fail
        go_ret3
        exact ⟨by rw [HE1.out, HE2.out, HE3.out]; rfl, hw5⟩
    · rw [decide_eq_false hin2]
      have his : ¬ commitIs s := fun h => hin2 (HS.out.1 h).1.2
      clear hin2
      have HIS := Lib.hid his
      clear his
      go_wp2_with fail
      go_ret3
      exact ⟨by obtain ⟨b1, b2, b3⟩ := BAD.out HIS.out; rw [b1, b2, b3]; rfl, Below.refl _ _⟩
  · rw [decide_eq_false hin1]
    have his : ¬ commitIs s := fun h => hin1 (HS.out.1 h).1.1
    clear hin1
    have HIS := Lib.hid his
    clear his
    go_wp2_with fail
    go_ret3
    exact ⟨by obtain ⟨b1, b2, b3⟩ := BAD.out HIS.out; rw [b1, b2, b3]; rfl, Below.refl _ _⟩
end Go.Proofs.YtmhondkomcmmoaaDoor
