/- What a head's bytes tell: plain facts. -/
import Derived.Test.YtmhondkomcmmoaaDoorSlotM
import Derived.Test.YtmhondkomcmmoaaDoorRef04B
namespace Go.Proofs.YtmhondkomcmmoaaDoor
set_option linter.unusedVariables false

theorem head_part (E S : Int) (L : List Int) (h : headOk E S L = true) :
    partN (layS (headL E S L)) 1 6 = E.toNat ∧ partN (layS (headL E S L)) 7 1 = S.toNat ∧ partN (layS (headL E S L)) 8 1 = L.length ∧ partN (layS (headL E S L)) 0 1 = 2 ∧
      ∀ (i : Nat) (hi : i < L.length), partN (layS (headL E S L)) (9 + 2 * i) 2 = (L[i]).toNat := by
  unfold headOk at h
  rw [Bool.and_eq_true, Bool.and_eq_true] at h
  obtain ⟨h1, h2, h3⟩ := h
  obtain ⟨h4, h5⟩ := okT_fit L h3
  have hE := of_decide_eq_true h1
  have hS := of_decide_eq_true h2
  have hl := headL_len E S L
  have he := headL_eq E S L
  have p6 := pow6 E hE.1 hE.2
  have p1 := pow1 S (by omega) (by omega)
  have pn : L.length < 256 ^ 1 := by rw [show (256 : Nat) ^ 1 = 256 by decide]; omega
  refine ⟨?_, ?_, ?_, ?_, fun i hi => ?_⟩
  · rw [lay_part _ 1 6 (by omega), he]
    unfold hd3
    rw [List.append_assoc, List.append_assoc, List.append_assoc, cut_mid [2] (putL E.toNat 6) _ 1 6 rfl (putL_length _ _), get_put _ _ p6]
  · rw [lay_part _ 7 1 (by omega), he]
    unfold hd3
    rw [List.append_assoc, List.append_assoc, cut_mid ([2] ++ putL E.toNat 6) (putL S.toNat 1) _ 7 1 (by rw [List.length_append, putL_length]; rfl) (putL_length _ _), get_put _ _ p1]
  · rw [lay_part _ 8 1 (by omega), he]
    unfold hd3
    rw [List.append_assoc, cut_mid (([2] ++ putL E.toNat 6) ++ putL S.toNat 1) (putL L.length 1) _ 8 1 (by rw [List.length_append, List.length_append, putL_length, putL_length]; rfl) (putL_length _ _), get_put _ _ pn]
  · rw [lay_part _ 0 1 (by omega), he]
    rfl
  · have hm := (h5 _ (List.getElem_mem hi)).2
    rw [lay_part _ (9 + 2 * i) 2 (by omega), he, ← List.drop_drop, List.drop_left' (hd3_len E S _), fields_get L i hi]
    exact get_put _ 2 hm
theorem tgt_back (E S : Int) (L : List Int) (h : headOk E S L = true) (m : Nat) (hm : m ≤ L.length) : tgtL (layS (headL E S L)) m = L.take m := by
  obtain ⟨_, _, _, _, h5⟩ := head_part E S L h
  apply List.ext_getElem
  · rw [tgtL_len, List.length_take]; omega
  · intro i g1 g2
    rw [tgtL_len] at g1
    simp only [tgtL, List.getElem_map, List.getElem_range, List.getElem_take]
    rw [h5 i (by omega)]
    unfold headOk at h
    rw [Bool.and_eq_true, Bool.and_eq_true] at h
    have := ((okT_fit L h.2.2).2 _ (List.getElem_mem (show i < L.length by omega))).1
    omega
theorem headOf_lay (E S : Int) (L : List Int) (h : headOk E S L = true) : headOf (layS (headL E S L)) = ⟨E, S, L⟩ := by
  obtain ⟨h1, h2, h3, _, _⟩ := head_part E S L h
  unfold headOf
  rw [h1, h2, h3, tgt_back E S L h _ (Nat.le_refl _), List.take_length]
  have h' := h
  unfold headOk at h'
  rw [Bool.and_eq_true, Bool.and_eq_true] at h'
  have hE := of_decide_eq_true h'.1
  have hS := of_decide_eq_true h'.2.1
  rw [show ((E.toNat : Nat) : Int) = E by omega, show ((S.toNat : Nat) : Int) = S by omega]
/-- the reference reads at most 40 targets -/
def refOf (s : ByteArray) : Hd := ⟨(partN s 1 6 : Nat), (partN s 7 1 : Nat), tgtL s (min (partN s 8 1) 40)⟩
def refIs (s : ByteArray) : Prop := (refOf s).ok = true ∧ (refOf s).bytes = s
instance (s : ByteArray) : Decidable (refIs s) := by unfold refIs; exact inferInstance
theorem few_same (s : ByteArray) (h : partN s 8 1 ≤ 40) : refOf s = headOf s := by
  unfold refOf headOf
  rw [Nat.min_eq_left h]
theorem ref_few (s : ByteArray) (h : refIs s) : partN s 8 1 ≤ 40 := by
  obtain ⟨h1, h2⟩ := h
  have := (head_part _ _ _ h1).2.2.1
  unfold Hd.bytes at h2
  rw [h2] at this
  rw [this]
  unfold refOf
  show (tgtL s (min (partN s 8 1) 40)).length ≤ 40
  rw [tgtL_len]
  omega
theorem head_few (s : ByteArray) (h : headIs s) : partN s 8 1 ≤ 40 := by
  obtain ⟨h1, _⟩ := h
  unfold Hd.ok headOk at h1
  rw [Bool.and_eq_true, Bool.and_eq_true] at h1
  have := (of_decide_eq_true h1.2.2).2.1
  unfold headOf at this
  rw [tgtL_len] at this
  exact this
theorem ref_is (s : ByteArray) : refIs s ↔ headIs s := by
  constructor
  · intro h
    have e := few_same s (ref_few s h)
    unfold refIs at h
    rw [e] at h
    exact h
  · intro h
    have e := few_same s (head_few s h)
    unfold refIs
    rw [e]
    exact h
theorem ref_same (s : ByteArray) (h : refIs s) : refOf s = headOf s := few_same s (ref_few s h)
end Go.Proofs.YtmhondkomcmmoaaDoor
