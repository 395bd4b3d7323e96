/- SlotM, SlotM2, Ref04R, Ref04RH, in one text. -/
import Derived.Test.YthnmnnlbglpjaaaGreatDoorPkE
namespace Go.Proofs.YthnmnnlbglpjaaaGreatDoor
section SSlotM
set_option linter.unusedVariables false

theorem part_zeros (s : ByteArray) (m p k : Nat) : partN (s ++ zerosB m) p k = partN s p k := by
  unfold partN cutL
  rw [ba_append_list, zerosB_list, List.drop_append, List.take_append, getL_append]
  have : getL (List.take (k - (List.drop p s.data.toList).length) (List.drop (p - s.data.toList.length) (List.replicate m 0))) = 0 := by
    rw [List.drop_replicate, List.take_replicate, getL_zeros]
  rw [this]
  simp
theorem part_trim (s : ByteArray) (p k : Nat) : partN (trimS s) p k = partN s p k := by
  have h := part_zeros (trimS s) (s.size - (trimS s).size) p k
  rw [trimS_fill] at h
  exact h.symm
theorem lay_part (l : List UInt8) (p k : Nat) (h : p + k ≤ l.length) : partN (layS l) p k = getL ((l.drop p).take k) := by
  unfold layS
  rw [part_trim]
  unfold partN cutL
  rw [sealL_list]
  show getL (List.take k (List.drop p (l ++ _))) = _
  rw [List.drop_append_of_le_length (by omega), List.take_append_of_le_length (by rw [List.length_drop]; omega)]
theorem lay_size (l : List UInt8) : (layS l).size ≤ l.length + 4 := by
  unfold layS
  refine Nat.le_trans (trimS_le _) ?_
  rw [sealL_size, ba_size]
  exact Nat.le_refl _
theorem cut_mid (a b c : List UInt8) (p k : Nat) (hp : a.length = p) (hk : b.length = k) : ((a ++ (b ++ c)).drop p).take k = b := by
  rw [List.drop_left' hp, List.take_left' hk]
theorem get_put (n k : Nat) (h : n < 256 ^ k) : getL (putL n k) = n := by rw [getL_putL, Nat.mod_eq_of_lt h]
theorem super_part (n : Int) (h1 : 1 ≤ n) (h2 : n ≤ 1099511627776) : partN (layS (superL n)) 1 6 = n.toNat ∧ partN (layS (superL n)) 0 1 = 1 := by
  have hl : (superL n).length = 7 := by rw [superL_eq, List.length_append, putL_length]; rfl
  constructor
  · rw [lay_part _ 1 6 (by omega), superL_eq]
    have := cut_mid [1] (putL n.toNat 6) [] 1 6 rfl (putL_length _ _)
    rw [List.append_nil] at this
    rw [this, get_put _ _ (pow6 n h1 h2)]
  · rw [lay_part _ 0 1 (by omega), superL_eq]
    rfl
theorem commit_part (n s : Int) (h1 : 1 ≤ n ∧ n ≤ 1099511627776) (h2 : 0 ≤ s ∧ s < 6) :
    partN (layS (commitL n s)) 1 6 = n.toNat ∧ partN (layS (commitL n s)) 7 1 = s.toNat ∧ partN (layS (commitL n s)) 0 1 = 3 := by
  have hl : (commitL n s).length = 8 := by rw [commitL_eq, List.length_append, List.length_append, putL_length, putL_length]; rfl
  refine ⟨?_, ?_, ?_⟩
  · rw [lay_part _ 1 6 (by omega), commitL_eq, List.append_assoc, cut_mid [3] (putL n.toNat 6) _ 1 6 rfl (putL_length _ _), get_put _ _ (pow6 n h1.1 h1.2)]
  · rw [lay_part _ 7 1 (by omega), commitL_eq]
    have := cut_mid ([3] ++ putL n.toNat 6) (putL s.toNat 1) [] 7 1 (by rw [List.length_append, putL_length]; rfl) (putL_length _ _)
    rw [List.append_nil] at this
    rw [this, get_put _ _ (pow1 s (by omega) (by omega))]
  · rw [lay_part _ 0 1 (by omega), commitL_eq]
    rfl
theorem fields_get : ∀ (L : List Int) (i : Nat) (h : i < L.length), ((fieldsL 2 L).drop (2 * i)).take 2 = putL (L[i]).toNat 2
  | t :: L, 0, _ => by
    show (putL t.toNat 2 ++ fieldsL 2 L).take 2 = _
    rw [List.take_left' (putL_length _ _)]
    rfl
  | t :: L, i + 1, h => by
    have ih := fields_get L i (by simpa using h)
    show ((putL t.toNat 2 ++ fieldsL 2 L).drop (2 * (i + 1))).take 2 = _
    rw [show 2 * (i + 1) = 2 + 2 * i by omega, ← List.drop_drop, List.drop_left' (putL_length _ _), ih]
    rfl
end SSlotM
section SSlotM2
set_option linter.unusedVariables false

theorem head_part (E S : Int) (L : List Int) (h : headOk E S L = true) :
    partN (layS (headL E S L)) 1 6 = E.toNat ∧ partN (layS (headL E S L)) 7 1 = S.toNat ∧ partN (layS (headL E S L)) 8 1 = L.length ∧ partN (layS (headL E S L)) 0 1 = 2 ∧
      ∀ (i : Nat) (hi : i < L.length), partN (layS (headL E S L)) (9 + 2 * i) 2 = (L[i]).toNat := by
  unfold headOk at h
  rw [Bool.and_eq_true, Bool.and_eq_true] at h
  obtain ⟨h1, h2, h3⟩ := h
  obtain ⟨h4, h5⟩ := okT_fit L h3
  have hE := of_decide_eq_true h1
  have hS := of_decide_eq_true h2
  have hl := headL_len E S L
  have he := headL_eq E S L
  have p6 := pow6 E hE.1 hE.2
  have p1 := pow1 S (by omega) (by omega)
  have pn : L.length < 256 ^ 1 := by rw [show (256 : Nat) ^ 1 = 256 by decide]; omega
  refine ⟨?_, ?_, ?_, ?_, fun i hi => ?_⟩
  · rw [lay_part _ 1 6 (by omega), he]
    unfold hd3
    rw [List.append_assoc, List.append_assoc, List.append_assoc, cut_mid [2] (putL E.toNat 6) _ 1 6 rfl (putL_length _ _), get_put _ _ p6]
  · rw [lay_part _ 7 1 (by omega), he]
    unfold hd3
    rw [List.append_assoc, List.append_assoc, cut_mid ([2] ++ putL E.toNat 6) (putL S.toNat 1) _ 7 1 (by rw [List.length_append, putL_length]; rfl) (putL_length _ _), get_put _ _ p1]
  · rw [lay_part _ 8 1 (by omega), he]
    unfold hd3
    rw [List.append_assoc, cut_mid (([2] ++ putL E.toNat 6) ++ putL S.toNat 1) (putL L.length 1) _ 8 1 (by rw [List.length_append, List.length_append, putL_length, putL_length]; rfl) (putL_length _ _), get_put _ _ pn]
  · rw [lay_part _ 0 1 (by omega), he]
    rfl
  · have hm := (h5 _ (List.getElem_mem hi)).2
    rw [lay_part _ (9 + 2 * i) 2 (by omega), he, ← List.drop_drop, List.drop_left' (hd3_len E S _), fields_get L i hi]
    exact get_put _ 2 hm
theorem tgt_back (E S : Int) (L : List Int) (h : headOk E S L = true) (m : Nat) (hm : m ≤ L.length) : tgtL (layS (headL E S L)) m = L.take m := by
  obtain ⟨_, _, _, _, h5⟩ := head_part E S L h
  apply List.ext_getElem
  · rw [tgtL_len, List.length_take]; omega
  · intro i g1 g2
    rw [tgtL_len] at g1
    simp only [tgtL, List.getElem_map, List.getElem_range, List.getElem_take]
    rw [h5 i (by omega)]
    unfold headOk at h
    rw [Bool.and_eq_true, Bool.and_eq_true] at h
    have := ((okT_fit L h.2.2).2 _ (List.getElem_mem (show i < L.length by omega))).1
    omega
theorem headOf_lay (E S : Int) (L : List Int) (h : headOk E S L = true) : headOf (layS (headL E S L)) = ⟨E, S, L⟩ := by
  obtain ⟨h1, h2, h3, _, _⟩ := head_part E S L h
  unfold headOf
  rw [h1, h2, h3, tgt_back E S L h _ (Nat.le_refl _), List.take_length]
  have h' := h
  unfold headOk at h'
  rw [Bool.and_eq_true, Bool.and_eq_true] at h'
  have hE := of_decide_eq_true h'.1
  have hS := of_decide_eq_true h'.2.1
  rw [show ((E.toNat : Nat) : Int) = E by omega, show ((S.toNat : Nat) : Int) = S by omega]
/-- the reference reads at most 40 targets -/
def refOf (s : ByteArray) : Hd := ⟨(partN s 1 6 : Nat), (partN s 7 1 : Nat), tgtL s (min (partN s 8 1) 40)⟩
def refIs (s : ByteArray) : Prop := (refOf s).ok = true ∧ (refOf s).bytes = s
instance (s : ByteArray) : Decidable (refIs s) := by unfold refIs; exact inferInstance
theorem few_same (s : ByteArray) (h : partN s 8 1 ≤ 40) : refOf s = headOf s := by
  unfold refOf headOf
  rw [Nat.min_eq_left h]
theorem ref_few (s : ByteArray) (h : refIs s) : partN s 8 1 ≤ 40 := by
  obtain ⟨h1, h2⟩ := h
  have := (head_part _ _ _ h1).2.2.1
  unfold Hd.bytes at h2
  rw [h2] at this
  rw [this]
  unfold refOf
  show (tgtL s (min (partN s 8 1) 40)).length ≤ 40
  rw [tgtL_len]
  omega
theorem head_few (s : ByteArray) (h : headIs s) : partN s 8 1 ≤ 40 := by
  obtain ⟨h1, _⟩ := h
  unfold Hd.ok headOk at h1
  rw [Bool.and_eq_true, Bool.and_eq_true] at h1
  have := (of_decide_eq_true h1.2.2).2.1
  unfold headOf at this
  rw [tgtL_len] at this
  exact this
theorem ref_is (s : ByteArray) : refIs s ↔ headIs s := by
  constructor
  · intro h
    have e := few_same s (ref_few s h)
    unfold refIs at h
    rw [e] at h
    exact h
  · intro h
    have e := few_same s (head_few s h)
    unfold refIs
    rw [e]
    exact h
theorem ref_same (s : ByteArray) (h : refIs s) : refOf s = headOf s := few_same s (ref_few s h)
end SSlotM2
section SRef04R
open Go.RowKit
set_option linter.unusedVariables false

set_option maxRecDepth 100000 in
set_option maxHeartbeats 1000000 in
theorem ref4ReadSuper_any (s : ByteArray) (w : World) (hs : s.size ≤ 2000) :
    Calls Tryz.prog 47 #[.string s] w fun e w' => e = .returned (.tuple #[.agg #[.int .i64 (superV s)], .int .i64 (superE s)]) ∧ Below w.heap.size w w' := by
  have hA := heap_alloc_new w (.cells #[.int .i64 0] 78)
  have hw := (Below.refl w.heap.size w).alloc (Nat.le_refl _) (.cells #[.int .i64 0] 78)
  have hV : superV s = if superIs s then ((partN s 1 6 : Nat) : Int) else 0 := rfl
  have hE : superE s = if superIs s then 0 else 4 := rfl
  have hS : superIs s ↔ ((1 ≤ (partN s 1 6 : Int) ∧ (partN s 1 6 : Int) ≤ 1099511627776) ∧ layS (superL (partN s 1 6 : Nat)) = s) := Iff.rfl
  have HN := Lib.hid (fun u => ref4Part_any s 1 6 u hs (by omega) (by omega))
  have hlt := partN_lt s 1 6
  rw [show (256 : Nat) ^ 6 = 281474976710656 by decide] at hlt
  generalize partN s 1 6 = N at *
  have HEP := Lib.hid (fun u => ref4Epoch_any (N : Nat) u)
  have HSU := Lib.hid (fun u => ref4Super_any (N : Nat) u (by omega) (by omega))
  have HV := Lib.hid hV; have HE := Lib.hid hE; have HS := Lib.hid hS
  clear hV hE hS
  go_enter Tryz.func47, Tryz.ntmps47
  go_wp2_with fail
  refine (HN.out _).mono ?_
  rintro e w2 ⟨rfl, rfl⟩
  obtain ⟨w4, hW4⟩ : ∃ w4, w.alloc (.cells #[.int .i64 0] 78) = w4 := ⟨_, rfl⟩
  rw [hW4] at hA hw ⊢
  clear hW4 HN
  go_wp2_with fail
  refine (HEP.out _).mono ?_
  rintro e w5 ⟨rfl, rfl⟩
  by_cases hin : 1 ≤ (N : Int) ∧ (N : Int) ≤ 1099511627776
  · rw [decide_eq_true hin]
    go_wp2_with fail
    refine (HSU.out _).mono ?_
    rintro e w5 ⟨rfl, hb5⟩
    have hA5 := (hb5.block _ (Array.getElem?_eq_some_iff.1 hA).1).trans hA
    have hw5 := hw.trans (hb5.mono hw.size)
    clear hA hw hb5 HSU HEP
    have a0 := below_cell (Below.refl _ w5) hA5 0 rfl
    have f0 := block_frozen hA5 0
    by_cases heq : layS (superL (N : Nat)) = s
    · have his : superIs s := HS.out.2 ⟨hin, heq⟩
      have e1 : superV s = N := by rw [HV.out, if_pos his]
      have e2 : superE s = 0 := by rw [HE.out, if_pos his]
      rw [heq]
      have HE1 := Lib.hid e1; have HE2 := Lib.hid e2
      have hset := block_set hA5 0 (.int .i64 (N : Nat))
      have HSET := Lib.hid hset
      have hw6 := hw5.setCell (p := ⟨w.heap.size, 0, none⟩) (Nat.le_refl _) (.int .i64 (N : Nat))
      clear e1 e2 his heq hset hin
      go_wp2_with fail
      refine bodyPost_ret (results_row_tmp rfl _ _ w.heap.size _ _ _ _ rfl HSET.out Tryz.underlying78 rfl (by kernel_rfl)) rfl ⟨?_, hw6⟩
      rw [HE1.out, HE2.out]
      first | rfl | (simp; done)
    · have his : ¬ superIs s := fun h => heq (HS.out.1 h).2
      have e1 : superV s = 0 := by rw [HV.out, if_neg his]
      have e2 : superE s = 4 := by rw [HE.out, if_neg his]
      have hne := ba_tne heq
      have HE1 := Lib.hid e1; have HE2 := Lib.hid e2
      have hset := block_set hA5 0 (.int .i64 0)
      have HSET := Lib.hid hset
      have hw6 := hw5.setCell (p := ⟨w.heap.size, 0, none⟩) (Nat.le_refl _) (.int .i64 0)
      clear e1 e2 his heq hset hin
      go_wp2_with fail
      refine bodyPost_ret (results_row_tmp rfl _ _ w.heap.size _ _ _ _ rfl HSET.out Tryz.underlying78 rfl (by kernel_rfl)) rfl ⟨?_, hw6⟩
      rw [HE1.out, HE2.out]
      first | rfl | (simp; done)
  · rw [decide_eq_false hin]
    have his : ¬ superIs s := fun h => hin (HS.out.1 h).1
    have e1 : superV s = 0 := by rw [HV.out, if_neg his]
    have e2 : superE s = 4 := by rw [HE.out, if_neg his]
    have HE1 := Lib.hid e1; have HE2 := Lib.hid e2
    have a0 := below_cell (Below.refl _ w4) hA 0 rfl
    have f0 := block_frozen hA 0
    have hset := block_set hA 0 (.int .i64 0)
    have HSET := Lib.hid hset
    have hw6 := hw.setCell (p := ⟨w.heap.size, 0, none⟩) (Nat.le_refl _) (.int .i64 0)
    clear e1 e2 his hset hin
    go_wp2_with fail
    refine bodyPost_ret (results_row_tmp rfl _ _ w.heap.size _ _ _ _ rfl HSET.out Tryz.underlying78 rfl (by kernel_rfl)) rfl ⟨?_, hw6⟩
    rw [HE1.out, HE2.out]
    first | rfl | (simp; done)
set_option maxRecDepth 100000 in
set_option maxHeartbeats 1000000 in
theorem ref4ReadCommit_any (s : ByteArray) (w : World) (hs : s.size ≤ 2000) :
    Calls Tryz.prog 81 #[.string s] w fun e w' => e = .returned (.tuple #[.int .i64 (commitV s), .int .i64 (commitW s), .int .i64 (commitE s)]) ∧ Below w.heap.size w w' := by
  have hV : commitV s = if commitIs s then ((partN s 1 6 : Nat) : Int) else 0 := rfl
  have hW : commitW s = if commitIs s then ((partN s 7 1 : Nat) : Int) else 0 := rfl
  have hE : commitE s = if commitIs s then 0 else 4 := rfl
  have hS : commitIs s ↔ (((1 ≤ (partN s 1 6 : Int) ∧ (partN s 1 6 : Int) ≤ 1099511627776) ∧ (0 ≤ (partN s 7 1 : Int) ∧ (partN s 7 1 : Int) < 6)) ∧ layS (commitL (partN s 1 6 : Nat) (partN s 7 1 : Nat)) = s) := Iff.rfl
  have HN := Lib.hid (fun u => ref4Part_any s 1 6 u hs (by omega) (by omega))
  have HN2 := Lib.hid (fun u => ref4Part_any s 7 1 u hs (by omega) (by omega))
  have hlt := partN_lt s 1 6
  have hlt2 := partN_lt s 7 1
  rw [show (256 : Nat) ^ 6 = 281474976710656 by decide] at hlt
  rw [show (256 : Nat) ^ 1 = 256 by decide] at hlt2
  generalize partN s 1 6 = N at *
  generalize partN s 7 1 = M at *
  have HEP := Lib.hid (fun u => ref4Epoch_any (N : Nat) u)
  have HPL := Lib.hid (fun u => ref4Place_any (M : Nat) u)
  have HCO := Lib.hid (fun u => ref4Commit_any (N : Nat) (M : Nat) u (by omega) (by omega) (by omega) (by omega))
  have HV := Lib.hid hV; have HE := Lib.hid hE; have HS := Lib.hid hS; have HW := Lib.hid hW
  clear hV hE hS hW
  go_enter Tryz.func81, Tryz.ntmps81
  go_wp2_with fail
  refine (HN.out _).mono ?_
  rintro e w2 ⟨rfl, rfl⟩
  go_wp2_with fail
  refine (HN2.out _).mono ?_
  rintro e w2 ⟨rfl, rfl⟩
  go_wp2_with fail
  refine (HEP.out _).mono ?_
  rintro e w2 ⟨rfl, rfl⟩
  have bad : ¬ commitIs s → (commitV s = 0 ∧ commitW s = 0 ∧ commitE s = 4) := by
    intro his
    rw [HV.out, HW.out, HE.out, if_neg his, if_neg his, if_neg his]
    exact ⟨rfl, rfl, rfl⟩
  have BAD := Lib.hid bad
  clear bad
  by_cases hin1 : 1 ≤ (N : Int) ∧ (N : Int) ≤ 1099511627776
  · rw [decide_eq_true hin1]
    go_wp2_with fail
    refine (HPL.out _).mono ?_
    rintro e w2 ⟨rfl, rfl⟩
    by_cases hin2 : 0 ≤ (M : Int) ∧ (M : Int) < 6
    · rw [decide_eq_true hin2]
      have hin := And.intro hin1 hin2
      go_wp2_with fail
      refine (HCO.out _).mono ?_
      rintro e w5 ⟨rfl, hw5⟩
      clear HCO HEP HPL HN HN2
      by_cases heq : layS (commitL (N : Nat) (M : Nat)) = s
      · have his : commitIs s := HS.out.2 ⟨hin, heq⟩
        have e1 : commitV s = N := by rw [HV.out, if_pos his]
        have e3 : commitW s = M := by rw [HW.out, if_pos his]
        have e2 : commitE s = 0 := by rw [HE.out, if_pos his]
        rw [heq]
        have HE1 := Lib.hid e1; have HE2 := Lib.hid e2; have HE3 := Lib.hid e3
        clear e1 e2 e3 his heq hin hin1 hin2
        go_wp2_with fail
        go_ret3
        exact ⟨by rw [HE1.out, HE2.out, HE3.out]; rfl, hw5⟩
      · have his : ¬ commitIs s := fun h => heq (HS.out.1 h).2
        have e1 : commitV s = 0 := by rw [HV.out, if_neg his]
        have e3 : commitW s = 0 := by rw [HW.out, if_neg his]
        have e2 : commitE s = 4 := by rw [HE.out, if_neg his]
        have hne := ba_tne heq
        have HE1 := Lib.hid e1; have HE2 := Lib.hid e2; have HE3 := Lib.hid e3
        clear e1 e2 e3 his heq hin hin1 hin2
        go_wp2_with fail
        go_ret3
        exact ⟨by rw [HE1.out, HE2.out, HE3.out]; rfl, hw5⟩
    · rw [decide_eq_false hin2]
      have his : ¬ commitIs s := fun h => hin2 (HS.out.1 h).1.2
      clear hin2
      have HIS := Lib.hid his
      clear his
      go_wp2_with fail
      go_ret3
      exact ⟨by obtain ⟨b1, b2, b3⟩ := BAD.out HIS.out; rw [b1, b2, b3]; rfl, Below.refl _ _⟩
  · rw [decide_eq_false hin1]
    have his : ¬ commitIs s := fun h => hin1 (HS.out.1 h).1.1
    clear hin1
    have HIS := Lib.hid his
    clear his
    go_wp2_with fail
    go_ret3
    exact ⟨by obtain ⟨b1, b2, b3⟩ := BAD.out HIS.out; rw [b1, b2, b3]; rfl, Below.refl _ _⟩
end SRef04R
section SRef04RH
open Go.RowKit
set_option linter.unusedVariables false

def refV (s : ByteArray) : Hd := if refIs s then refOf s else ⟨0, 0, []⟩
def refE (s : ByteArray) : Int := if refIs s then 0 else 4
theorem refV_eq (s : ByteArray) : refV s = headV s ∧ refE s = headE s := by
  unfold refV refE headV headE
  by_cases h : refIs s
  · have h' := (ref_is s).1 h
    rw [if_pos h, if_pos h, if_pos h', if_pos h', ref_same s h]
    exact ⟨rfl, rfl⟩
  · have h' : ¬ headIs s := fun hh => h ((ref_is s).2 hh)
    rw [if_neg h, if_neg h, if_neg h', if_neg h']
    exact ⟨rfl, rfl⟩
set_option maxRecDepth 100000 in
set_option maxHeartbeats 2000000 in
theorem ref4ReadHead_x (s : ByteArray) (w : World) (hs : s.size ≤ 2000) :
    Calls Tryz.prog 80 #[.string s] w fun e w' => ∃ v', e = .returned (.tuple #[v', .int .i64 (refE s)]) ∧ IsHd w' v' (refV s) ∧ Below w.heap.size w w' := by
  obtain ⟨i0, hi, hz0, hz1, hz2⟩ := info_parts infoI
  have hA := heap_alloc_new w (.cells #[.int .i64 0, .int .i64 0, .slice none 0 0] 67)
  have hw := (Below.refl w.heap.size w).alloc (Nat.le_refl _) (.cells #[.int .i64 0, .int .i64 0, .slice none 0 0] 67)
  have hn8 := partN_lt s 8 1
  have HN := Lib.hid (fun u => ref4Part_any s 1 6 u hs (by omega) (by omega))
  have HN2 := Lib.hid (fun u => ref4Part_any s 7 1 u hs (by omega) (by omega))
  have HN3 := Lib.hid (fun u => ref4Part_any s 8 1 u hs (by omega) (by omega))
  have HNT := Lib.hid (fun (i : Nat) (hi : i ≤ 300) u => ref4Part_any s (9 + 2 * i) 2 u hs (by omega) (by omega))
  have hV : refV s = if refIs s then refOf s else ⟨0, 0, []⟩ := rfl
  have hE : refE s = if refIs s then 0 else 4 := rfl
  have hS : refIs s ↔ (headOk (partN s 1 6 : Nat) (partN s 7 1 : Nat) (tgtL s (min (partN s 8 1) 40)) = true ∧ layS (headL (partN s 1 6 : Nat) (partN s 7 1 : Nat) (tgtL s (min (partN s 8 1) 40))) = s) := Iff.rfl
  have hO : refOf s = ⟨(partN s 1 6 : Nat), (partN s 7 1 : Nat), tgtL s (min (partN s 8 1) 40)⟩ := rfl
  go_enter Tryz.func80, Tryz.ntmps80
  go_wp2_with fail
  refine (HN.out _).mono ?_
  rintro e w2 ⟨rfl, rfl⟩
  go_wp2_with fail
  refine (HN2.out _).mono ?_
  rintro e w2 ⟨rfl, rfl⟩
  generalize partN s 1 6 = E at *
  generalize partN s 7 1 = S at *
  go_upto_region 2 with fail
  obtain ⟨w4, hW4⟩ : ∃ w4, w.alloc (.cells #[.int .i64 0, .int .i64 0, .slice none 0 0] 67) = w4 := ⟨_, rfl⟩
  rw [hW4] at hA hw ⊢
  have hT5 := heap_alloc_new w4 (.cells #[.int .i64 (E : Nat), .int .i64 (S : Nat), .slice none 0 0] 67)
  have hA5 := (heap_alloc_old w4 (.cells #[.int .i64 (E : Nat), .int .i64 (S : Nat), .slice none 0 0] 67) (Array.getElem?_eq_some_iff.1 hA).1).trans hA
  have hw5 : Below w.heap.size w (w4.alloc (.cells #[.int .i64 (E : Nat), .int .i64 (S : Nat), .slice none 0 0] 67)) := hw.alloc hw.size _
  have hAT : w.heap.size < w4.heap.size := (Array.getElem?_eq_some_iff.1 hA).1
  obtain ⟨w6, hW5⟩ : ∃ w6, w4.alloc (.cells #[.int .i64 (E : Nat), .int .i64 (S : Nat), .slice none 0 0] 67) = w6 := ⟨_, rfl⟩
  obtain ⟨T, hTT⟩ : ∃ T, w4.heap.size = T := ⟨_, rfl⟩
  have hTT' : (w.alloc (.cells #[.int .i64 0, .int .i64 0, .slice none 0 0] 67)).heap.size = T := by rw [hW4]; exact hTT
  rw [World.size_alloc] at hTT'
  rw [hW5] at hA5 hw5 hT5
  rw [hTT] at hT5 hAT
  try rw [hW5]
  try rw [hTT]
  try rw [hTT']
  clear hW4 hW5 hTT hTT' hA hw HN HN2
  go_wp2_with fail
  refine (HN3.out _).mono ?_
  rintro e w7 ⟨rfl, rfl⟩
  rw [show (256 : Nat) ^ 1 = 256 by decide] at hn8
  generalize partN s 8 1 = n at *
  have hnI : (n : Int) ≤ 255 := by omega
  have hown6 := World.ownsRow_nil w6 w6.heap.size 3 1
  have hTb : T < w6.heap.size := (Array.getElem?_eq_some_iff.1 hT5).1
  obtain ⟨B, hB⟩ : ∃ B, w6.heap.size = B := ⟨_, rfl⟩
  rw [hB] at hown6 hTb
  have hBs : B ≤ w6.heap.size := by omega
  clear hB HN3
  go_wp2_with fail
  have HA6 := Lib.hid hA5; have HT6 := Lib.hid hT5; have HO6 := Lib.hid hown6
  clear hA5 hT5 hown6
  go_loopw [6] (fun z wr => ∃ (i : Nat) (tv : Value), i ≤ min n 40 ∧ z = .int .i64 i ∧ wr.heap[T]? = some (.cells #[.int .i64 (E : Nat), .int .i64 (S : Nat), tv] 67 (0, 0)) ∧ wr.ownsRow B 3 1 tv i ((tgtL s i).map encI) ∧ wr.heap[w.heap.size]? = some (.cells #[.int .i64 0, .int .i64 0, .slice none 0 0] 67 (0, 0)) ∧ B ≤ wr.heap.size ∧ Below w.heap.size w wr) (fun z _ => min n 40 - (intOf z).toNat)
  case atStart => exact ⟨0, _, by omega, rfl, HT6.out, HO6.out, HA6.out, hBs, hw5⟩
  case round =>
    clear HA6 HT6 HO6 hw5 hBs
    obtain ⟨i, tv, hin, rfl, hT, hown, hA, hBr, hwr⟩ := hrel
    by_cases hlt : i < min n 40
    · have hltI : (i : Int) < n := by omega
      have hlt40 : (i : Int) < 40 := by omega
      have HT := Lib.hid hT; have HO := Lib.hid hown; have HA := Lib.hid hA
      have hc := HNT.out i (by omega)
      rw [show ((9 + 2 * i : Nat) : Int) = 9 + 2 * (i : Int) by omega] at hc
      have HC := Lib.hid hc
      have hsn := tgtL_snoc s i
      generalize partN s (9 + 2 * i) 2 = X at *
      have HSN := Lib.hid hsn
      obtain ⟨ta, tc, rfl⟩ := own_form1' hown
      have hc2 := below_cell (Below.refl _ wr) hT 2 rfl
      have hTl : T < wr.drew.heap.size := (Array.getElem?_eq_some_iff.1 hT).1
      have hc3 := fun o : Obj => (World.cell?_of_block (a := ⟨T, 2, none⟩) (Below.heap_alloc wr o T hTl)).trans hc2
      have hwa : IntKind.i64.wrap (2 * (i : Int)) = 2 * (i : Int) := IntWalk.i64_in _ (by omega)
      have hwb : IntKind.i64.wrap (9 + 2 * (i : Int)) = 9 + 2 * (i : Int) := IntWalk.i64_in _ (by omega)
      have hwc : wrap64 (2 * (i : Int)) = 2 * (i : Int) := by unfold wrap64; omega
      have hwd : wrap64 (9 + 2 * (i : Int)) = 9 + 2 * (i : Int) := by unfold wrap64; omega
      clear hsn hT hown hA hc
      go_upto_region 6 with fail
      go_region_law (first
        | (go_simp; go_at_call 79; refine (HC.out _).mono ?_; rintro e w7 ⟨rfl, rfl⟩; go_simp)
        | (refine step_push (m := 1) (c := 1) (Operand.tmp 24) (Operand.tmp 30) 65 3 [encI (X : Nat)] (own_keepB HO.out.drew ((Below.refl _ wr.drew).alloc (Nat.le_refl _) (.cells #[.int .i64 (X : Nat)] 3)) hBr) (Below.refl B _) (by simp [World.drew]; omega) Tryz.underlying65 hi hz0 hz1 hz2 rfl (by decide) (by rfl) (by rfl) (by rfl) (by rfl) (cells_new wr.drew [encI (X : Nat)] 3) (by rfl) (by intro u hu; rw [List.mem_singleton.1 hu]; rfl) ⟨by omega, by omega⟩ ?_; intro v8 w8 hown8 hb8; obtain ⟨ta8, tc8, rfl⟩ := own_form1' hown8; have hT8 := (hb8.block _ hTb).trans ((heap_alloc_old wr.drew (.cells #[.int .i64 (X : Nat)] 3) hTl).trans HT.out); have ht8 := below_cell (Below.refl _ w8) hT8 2 rfl; have hf8 := block_frozen hT8 2)
        | fail)
      all_goals
        have hT9 := block_set hT8 2 (.slice ta8 (i + 1) tc8)
        have hb78 : Below B wr w8 := ((Below.refl B wr).drew.alloc hBr (.cells #[.int .i64 (X : Nat)] 3)).trans hb8
        have hw8 : Below w.heap.size w w8 := hwr.trans (hb78.mono (by omega))
        have hA9 := (Below.heap_setCell w8 ⟨T, 2, none⟩ (.slice ta8 (i + 1) tc8) w.heap.size (by show w.heap.size ≠ T; omega)).trans ((hb78.block _ (by omega)).trans HA.out)
        have hown9 := ownsRow_setCell_below (a := ⟨T, 2, none⟩) hown8 hTb (.slice ta8 (i + 1) tc8)
        have hw9 := hw8.setCell (p := ⟨T, 2, none⟩) (show w.heap.size ≤ T by omega) (.slice ta8 (i + 1) tc8)
        have hsz9 : B ≤ (w8.setCell ⟨T, 2, none⟩ (.slice ta8 (i + 1) tc8)).heap.size := by rw [World.size_setCell]; exact Nat.le_trans hBr hb78.size
        have H9 := Lib.hid (And.intro hT9 (And.intro hA9 hown9))
        clear hT9 hA9 hown9 hb78 hw8 ht8 hf8 hT8 hown8 hb8 hc3 hc2
        go_wp2_with fail
        go_roundw
        case rel =>
          obtain ⟨r1, r2, r4⟩ := H9.out
          refine ⟨i + 1, _, by omega, by go_num, r1, ?_, r2, hsz9, hw9⟩
          rw [HSN.out, List.map_append]; exact r4
        case measure => simp [intOf]; omega
    · have hie : i = min n 40 := by omega
      obtain ⟨ta, tc, rfl⟩ := own_form1' hown
      rw [← hie] at hS hO
      have hrd : Reads1 encI wr (.slice ta i tc) (tgtL s i) := own_reads1 hown (tgtL_len s i)
      have htl := tgtL_len s i
      have HV := Lib.hid hV; have HE := Lib.hid hE; have HS := Lib.hid hS; have HO := Lib.hid hO
      have HRD := Lib.hid hrd
      generalize tgtL s i = L at *
      have HI := Lib.hid (fun u hu => ref4IsHead_any (E : Nat) (S : Nat) (.slice ta i tc) L u hu)
      have hown' := hown
      have hend : (¬ (i : Int) < n) ∨ ((i : Int) < n ∧ ¬ (i : Int) < 40) := by omega
      clear hV hE hS hO hown hrd hlt hie
      have t0 := below_cell (Below.refl _ wr) hT 0 rfl
      have t1 := below_cell (Below.refl _ wr) hT 1 rfl
      have t2 := below_cell (Below.refl _ wr) hT 2 rfl
      rcases hend with he1 | ⟨he1, he2⟩
      · go_wp2_with fail
        refine (HI.out _ HRD.out).mono ?_
        rintro e w8 ⟨rfl, hb8⟩
        have hA8 := (hb8.block _ (Array.getElem?_eq_some_iff.1 hA).1).trans hA
        have hT8 := (hb8.block _ (Array.getElem?_eq_some_iff.1 hT).1).trans hT
        have hw8 := hwr.trans (hb8.mono hwr.size)
        have hrd8 := HRD.out.below hb8
        have hown8 := own_keepB hown' hb8 hBr
        have hsz8 : B ≤ w8.heap.size := Nat.le_trans hBr hb8.size
        clear t0 t1 t2 hA hT hwr hb8 HI
        have t0 := below_cell (Below.refl _ w8) hT8 0 rfl
        have t1 := below_cell (Below.refl _ w8) hT8 1 rfl
        have t2 := below_cell (Below.refl _ w8) hT8 2 rfl
        by_cases hok : headOk (E : Nat) (S : Nat) L = true
        · rw [hok]
          go_wp2_with fail
          refine (ref4Head_any (E : Nat) (S : Nat) (.slice ta i tc) L w8 hrd8 hok).mono ?_
          rintro e w5 ⟨rfl, hb5⟩
          have hA5 := (hb5.block _ (Array.getElem?_eq_some_iff.1 hA8).1).trans hA8
          have hT5 := (hb5.block _ (Array.getElem?_eq_some_iff.1 hT8).1).trans hT8
          have hw5 := hw8.trans (hb5.mono hw8.size)
          have hown5 := own_keepB hown8 hb5 hsz8
          clear t0 t1 t2 hA8 hT8 hw8 hb5 hrd8
          have t0 := below_cell (Below.refl _ w5) hT5 0 rfl
          have t1 := below_cell (Below.refl _ w5) hT5 1 rfl
          have t2 := below_cell (Below.refl _ w5) hT5 2 rfl
          by_cases heq : layS (headL (E : Nat) (S : Nat) L) = s
          · have his : refIs s := HS.out.2 ⟨hok, heq⟩
            have e1 : refV s = ⟨(E : Nat), (S : Nat), L⟩ := by rw [HV.out, if_pos his, HO.out]
            have e2 : refE s = 0 := by rw [HE.out, if_pos his]
            rw [heq]
            have HE1 := Lib.hid e1; have HE2 := Lib.hid e2
            have a0 := below_cell (Below.refl _ w5) hA5 0 rfl
            have a1 := below_cell (Below.refl _ w5) hA5 1 rfl
            have a2 := below_cell (Below.refl _ w5) hA5 2 rfl
            have f0 := block_frozen hA5 0
            have f1 := block_frozen hA5 1
            have f2 := block_frozen hA5 2
            have hset := block_set (block_set (block_set hA5 0 (.int .i64 (E : Nat))) 1 (.int .i64 (S : Nat))) 2 (.slice ta i tc)
            have HSET := Lib.hid hset
            have hw6 := ((hw5.setCell (p := ⟨w.heap.size, 0, none⟩) (Nat.le_refl _) (.int .i64 (E : Nat))).setCell (p := ⟨w.heap.size, 1, none⟩) (Nat.le_refl _) (.int .i64 (S : Nat))).setCell (p := ⟨w.heap.size, 2, none⟩) (Nat.le_refl _) (.slice ta i tc)
            have hWB : w.heap.size < B := by omega
            have hown6 := ownsRow_setCell_below (a := ⟨w.heap.size, 2, none⟩) (ownsRow_setCell_below (a := ⟨w.heap.size, 1, none⟩) (ownsRow_setCell_below (a := ⟨w.heap.size, 0, none⟩) hown5 hWB (.int .i64 (E : Nat))) hWB (.int .i64 (S : Nat))) hWB (.slice ta i tc)
            have HR6 := Lib.hid (own_reads1 hown6 htl)
            clear e1 e2 his heq hset hok hown6 hown5
            go_wp2_with fail
            refine bodyPost_ret (results_row_tmp rfl _ _ w.heap.size _ _ _ _ rfl HSET.out Tryz.underlying67 rfl (by kernel_rfl)) rfl ⟨.agg #[.int .i64 (E : Nat), .int .i64 (S : Nat), .slice ta i tc], ?_, ?_, hw6⟩
            · rw [HE2.out]
              first | rfl | (simp; done)
            · rw [HE1.out]
              exact ⟨_, rfl, HR6.out⟩
          · have his : ¬ refIs s := fun h => heq (HS.out.1 h).2
            have e1 : refV s = ⟨0, 0, []⟩ := by rw [HV.out, if_neg his]
            have e2 : refE s = 4 := by rw [HE.out, if_neg his]
            have hne' := ba_tne heq
            have HE1 := Lib.hid e1; have HE2 := Lib.hid e2
            clear e1 e2 his heq hok
            have a0 := below_cell (Below.refl _ w5) hA5 0 rfl
            have a1 := below_cell (Below.refl _ w5) hA5 1 rfl
            have a2 := below_cell (Below.refl _ w5) hA5 2 rfl
            have f0 := block_frozen hA5 0
            have f1 := block_frozen hA5 1
            have f2 := block_frozen hA5 2
            have hset := block_set (block_set (block_set hA5 0 (.int .i64 0)) 1 (.int .i64 0)) 2 (.slice none 0 0)
            have HSET := Lib.hid hset
            have hw6 := ((hw5.setCell (p := ⟨w.heap.size, 0, none⟩) (Nat.le_refl _) (.int .i64 0)).setCell (p := ⟨w.heap.size, 1, none⟩) (Nat.le_refl _) (.int .i64 0)).setCell (p := ⟨w.heap.size, 2, none⟩) (Nat.le_refl _) (.slice none 0 0)
            clear hset
            go_wp2_with fail
            refine bodyPost_ret (results_row_tmp rfl _ _ w.heap.size _ _ _ _ rfl HSET.out Tryz.underlying67 rfl (by kernel_rfl)) rfl ⟨.agg #[.int .i64 0, .int .i64 0, .slice none 0 0], ?_, ?_, hw6⟩
            · rw [HE2.out]
              first | rfl | (simp; done)
            · rw [HE1.out]
              exact ⟨_, rfl, _, _, _, rfl, rfl, Nat.le_refl _, by omega, .inl rfl⟩
        · have his : ¬ refIs s := fun h => hok (HS.out.1 h).1
          have hok' : headOk (E : Nat) (S : Nat) L = false := by cases h : headOk (E : Nat) (S : Nat) L with | true => exact absurd h hok | false => rfl
          have e1 : refV s = ⟨0, 0, []⟩ := by rw [HV.out, if_neg his]
          have e2 : refE s = 4 := by rw [HE.out, if_neg his]
          have HE1 := Lib.hid e1; have HE2 := Lib.hid e2
          rw [hok']
          have hA5 := hA8; have hw5 := hw8
          obtain ⟨w5, hww⟩ : ∃ w5, w8 = w5 := ⟨_, rfl⟩
          rw [hww] at hA5 hw5 ⊢
          clear e1 e2 his hok t0 t1 t2 hA8 hT8 hw8 hok' hww
          have a0 := below_cell (Below.refl _ w5) hA5 0 rfl
          have a1 := below_cell (Below.refl _ w5) hA5 1 rfl
          have a2 := below_cell (Below.refl _ w5) hA5 2 rfl
          have f0 := block_frozen hA5 0
          have f1 := block_frozen hA5 1
          have f2 := block_frozen hA5 2
          have hset := block_set (block_set (block_set hA5 0 (.int .i64 0)) 1 (.int .i64 0)) 2 (.slice none 0 0)
          have HSET := Lib.hid hset
          have hw6 := ((hw5.setCell (p := ⟨w.heap.size, 0, none⟩) (Nat.le_refl _) (.int .i64 0)).setCell (p := ⟨w.heap.size, 1, none⟩) (Nat.le_refl _) (.int .i64 0)).setCell (p := ⟨w.heap.size, 2, none⟩) (Nat.le_refl _) (.slice none 0 0)
          clear hset
          go_wp2_with fail
          refine bodyPost_ret (results_row_tmp rfl _ _ w.heap.size _ _ _ _ rfl HSET.out Tryz.underlying67 rfl (by kernel_rfl)) rfl ⟨.agg #[.int .i64 0, .int .i64 0, .slice none 0 0], ?_, ?_, hw6⟩
          · rw [HE2.out]
            first | rfl | (simp; done)
          · rw [HE1.out]
            exact ⟨_, rfl, _, _, _, rfl, rfl, Nat.le_refl _, by omega, .inl rfl⟩
      · go_wp2_with fail
        refine (HI.out _ HRD.out).mono ?_
        rintro e w8 ⟨rfl, hb8⟩
        have hA8 := (hb8.block _ (Array.getElem?_eq_some_iff.1 hA).1).trans hA
        have hT8 := (hb8.block _ (Array.getElem?_eq_some_iff.1 hT).1).trans hT
        have hw8 := hwr.trans (hb8.mono hwr.size)
        have hrd8 := HRD.out.below hb8
        have hown8 := own_keepB hown' hb8 hBr
        have hsz8 : B ≤ w8.heap.size := Nat.le_trans hBr hb8.size
        clear t0 t1 t2 hA hT hwr hb8 HI
        have t0 := below_cell (Below.refl _ w8) hT8 0 rfl
        have t1 := below_cell (Below.refl _ w8) hT8 1 rfl
        have t2 := below_cell (Below.refl _ w8) hT8 2 rfl
        by_cases hok : headOk (E : Nat) (S : Nat) L = true
        · rw [hok]
          go_wp2_with fail
          refine (ref4Head_any (E : Nat) (S : Nat) (.slice ta i tc) L w8 hrd8 hok).mono ?_
          rintro e w5 ⟨rfl, hb5⟩
          have hA5 := (hb5.block _ (Array.getElem?_eq_some_iff.1 hA8).1).trans hA8
          have hT5 := (hb5.block _ (Array.getElem?_eq_some_iff.1 hT8).1).trans hT8
          have hw5 := hw8.trans (hb5.mono hw8.size)
          have hown5 := own_keepB hown8 hb5 hsz8
          clear t0 t1 t2 hA8 hT8 hw8 hb5 hrd8
          have t0 := below_cell (Below.refl _ w5) hT5 0 rfl
          have t1 := below_cell (Below.refl _ w5) hT5 1 rfl
          have t2 := below_cell (Below.refl _ w5) hT5 2 rfl
          by_cases heq : layS (headL (E : Nat) (S : Nat) L) = s
          · have his : refIs s := HS.out.2 ⟨hok, heq⟩
            have e1 : refV s = ⟨(E : Nat), (S : Nat), L⟩ := by rw [HV.out, if_pos his, HO.out]
            have e2 : refE s = 0 := by rw [HE.out, if_pos his]
            rw [heq]
            have HE1 := Lib.hid e1; have HE2 := Lib.hid e2
            have a0 := below_cell (Below.refl _ w5) hA5 0 rfl
            have a1 := below_cell (Below.refl _ w5) hA5 1 rfl
            have a2 := below_cell (Below.refl _ w5) hA5 2 rfl
            have f0 := block_frozen hA5 0
            have f1 := block_frozen hA5 1
            have f2 := block_frozen hA5 2
            have hset := block_set (block_set (block_set hA5 0 (.int .i64 (E : Nat))) 1 (.int .i64 (S : Nat))) 2 (.slice ta i tc)
            have HSET := Lib.hid hset
            have hw6 := ((hw5.setCell (p := ⟨w.heap.size, 0, none⟩) (Nat.le_refl _) (.int .i64 (E : Nat))).setCell (p := ⟨w.heap.size, 1, none⟩) (Nat.le_refl _) (.int .i64 (S : Nat))).setCell (p := ⟨w.heap.size, 2, none⟩) (Nat.le_refl _) (.slice ta i tc)
            have hWB : w.heap.size < B := by omega
            have hown6 := ownsRow_setCell_below (a := ⟨w.heap.size, 2, none⟩) (ownsRow_setCell_below (a := ⟨w.heap.size, 1, none⟩) (ownsRow_setCell_below (a := ⟨w.heap.size, 0, none⟩) hown5 hWB (.int .i64 (E : Nat))) hWB (.int .i64 (S : Nat))) hWB (.slice ta i tc)
            have HR6 := Lib.hid (own_reads1 hown6 htl)
            clear e1 e2 his heq hset hok hown6 hown5
            go_wp2_with fail
            refine bodyPost_ret (results_row_tmp rfl _ _ w.heap.size _ _ _ _ rfl HSET.out Tryz.underlying67 rfl (by kernel_rfl)) rfl ⟨.agg #[.int .i64 (E : Nat), .int .i64 (S : Nat), .slice ta i tc], ?_, ?_, hw6⟩
            · rw [HE2.out]
              first | rfl | (simp; done)
            · rw [HE1.out]
              exact ⟨_, rfl, HR6.out⟩
          · have his : ¬ refIs s := fun h => heq (HS.out.1 h).2
            have e1 : refV s = ⟨0, 0, []⟩ := by rw [HV.out, if_neg his]
            have e2 : refE s = 4 := by rw [HE.out, if_neg his]
            have hne' := ba_tne heq
            have HE1 := Lib.hid e1; have HE2 := Lib.hid e2
            clear e1 e2 his heq hok
            have a0 := below_cell (Below.refl _ w5) hA5 0 rfl
            have a1 := below_cell (Below.refl _ w5) hA5 1 rfl
            have a2 := below_cell (Below.refl _ w5) hA5 2 rfl
            have f0 := block_frozen hA5 0
            have f1 := block_frozen hA5 1
            have f2 := block_frozen hA5 2
            have hset := block_set (block_set (block_set hA5 0 (.int .i64 0)) 1 (.int .i64 0)) 2 (.slice none 0 0)
            have HSET := Lib.hid hset
            have hw6 := ((hw5.setCell (p := ⟨w.heap.size, 0, none⟩) (Nat.le_refl _) (.int .i64 0)).setCell (p := ⟨w.heap.size, 1, none⟩) (Nat.le_refl _) (.int .i64 0)).setCell (p := ⟨w.heap.size, 2, none⟩) (Nat.le_refl _) (.slice none 0 0)
            clear hset
            go_wp2_with fail
            refine bodyPost_ret (results_row_tmp rfl _ _ w.heap.size _ _ _ _ rfl HSET.out Tryz.underlying67 rfl (by kernel_rfl)) rfl ⟨.agg #[.int .i64 0, .int .i64 0, .slice none 0 0], ?_, ?_, hw6⟩
            · rw [HE2.out]
              first | rfl | (simp; done)
            · rw [HE1.out]
              exact ⟨_, rfl, _, _, _, rfl, rfl, Nat.le_refl _, by omega, .inl rfl⟩
        · have his : ¬ refIs s := fun h => hok (HS.out.1 h).1
          have hok' : headOk (E : Nat) (S : Nat) L = false := by cases h : headOk (E : Nat) (S : Nat) L with | true => exact absurd h hok | false => rfl
          have e1 : refV s = ⟨0, 0, []⟩ := by rw [HV.out, if_neg his]
          have e2 : refE s = 4 := by rw [HE.out, if_neg his]
          have HE1 := Lib.hid e1; have HE2 := Lib.hid e2
          rw [hok']
          have hA5 := hA8; have hw5 := hw8
          obtain ⟨w5, hww⟩ : ∃ w5, w8 = w5 := ⟨_, rfl⟩
          rw [hww] at hA5 hw5 ⊢
          clear e1 e2 his hok t0 t1 t2 hA8 hT8 hw8 hok' hww
          have a0 := below_cell (Below.refl _ w5) hA5 0 rfl
          have a1 := below_cell (Below.refl _ w5) hA5 1 rfl
          have a2 := below_cell (Below.refl _ w5) hA5 2 rfl
          have f0 := block_frozen hA5 0
          have f1 := block_frozen hA5 1
          have f2 := block_frozen hA5 2
          have hset := block_set (block_set (block_set hA5 0 (.int .i64 0)) 1 (.int .i64 0)) 2 (.slice none 0 0)
          have HSET := Lib.hid hset
          have hw6 := ((hw5.setCell (p := ⟨w.heap.size, 0, none⟩) (Nat.le_refl _) (.int .i64 0)).setCell (p := ⟨w.heap.size, 1, none⟩) (Nat.le_refl _) (.int .i64 0)).setCell (p := ⟨w.heap.size, 2, none⟩) (Nat.le_refl _) (.slice none 0 0)
          clear hset
          go_wp2_with fail
          refine bodyPost_ret (results_row_tmp rfl _ _ w.heap.size _ _ _ _ rfl HSET.out Tryz.underlying67 rfl (by kernel_rfl)) rfl ⟨.agg #[.int .i64 0, .int .i64 0, .slice none 0 0], ?_, ?_, hw6⟩
          · rw [HE2.out]
            first | rfl | (simp; done)
          · rw [HE1.out]
            exact ⟨_, rfl, _, _, _, rfl, rfl, Nat.le_refl _, by omega, .inl rfl⟩
end SRef04RH
end Go.Proofs.YthnmnnlbglpjaaaGreatDoor
