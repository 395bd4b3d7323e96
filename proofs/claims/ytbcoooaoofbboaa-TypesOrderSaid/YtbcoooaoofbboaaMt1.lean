/- Rows of rules, cell by cell: what an append of them needs. -/
import Derived.Test.YtbcoooaoofbboaaTyp
import Derived.Test.YtbcoooaoofbboaaRow1
namespace Go.Proofs.Ytbcoooaoofbboaa
open Go.RowKit Go.ChangeShapes
set_option linter.unusedVariables false

/-- a rule's eight cells, its two slices being these -/
def Mtc.cells (m : Mtc) (ks k : Value) : List Value := ks :: (m.cnd.cells k ++ [.int .u32 (m.act : Nat)])
theorem Mtc.cells_len (m : Mtc) (ks k : Value) : (m.cells ks k).length = 8 := rfl
theorem mtcAt_iff (w : World) (m : Mtc) (b o : Nat) : MtcAt w m b o ↔ m.act ≤ 4294967295 ∧ m.cnd.bounded ∧ ∃ ks k, (∀ j u, (m.cells ks k)[j]? = some u → w.cell? ⟨b, o + j, none⟩ = some u) ∧ IsU32s w ks m.nrs ∧ IsCnds w k m.cnd.kids := by
  constructor
  · rintro ⟨ks, h1, h2, h3, h4, h5⟩
    obtain ⟨hb, k, hc, hk⟩ := (cndAt_iff _ _ _ _).1 h3
    refine ⟨h5, hb, ks, k, fun j u hj => ?_, h2, hk⟩
    unfold Mtc.cells at hj
    cases j with
    | zero => rw [List.getElem?_cons_zero] at hj; rw [← hj]; exact h1
    | succ j =>
      rw [List.getElem?_cons_succ] at hj
      by_cases h6 : j < 6
      · rw [List.getElem?_append_left (by simpa [Cnd.cells] using h6)] at hj
        have := hc j u hj
        rwa [show o + (j + 1) = o + 1 + j by omega]
      · have h7 : j = 6 := by
          have := (List.getElem?_eq_some_iff.1 hj).1
          simp [Cnd.cells] at this
          omega
        subst h7
        simp [Cnd.cells] at hj
        rw [← hj]; exact h4
  · rintro ⟨h5, hb, ks, k, hc, h2, hk⟩
    refine ⟨ks, hc 0 _ rfl, h2, (cndAt_iff _ _ _ _).2 ⟨hb, k, fun j u hj => ?_, hk⟩, hc 7 _ rfl, h5⟩
    have h6 : j < 6 := by have := (List.getElem?_eq_some_iff.1 hj).1; simpa [Cnd.cells] using this
    have := hc (j + 1) u (by unfold Mtc.cells; rw [List.getElem?_cons_succ, List.getElem?_append_left (by simpa [Cnd.cells] using h6)]; exact hj)
    rwa [show o + 1 + j = o + (j + 1) by omega]
/-- the cells of a row of rules, each with its two slices -/
def mtcsCells (l : List Mtc) (vs : List (Value × Value)) : List Value := (l.zip vs).flatMap fun p => p.1.cells p.2.1 p.2.2
theorem mtcsCells_len (l : List Mtc) (vs : List (Value × Value)) (h : vs.length = l.length) : (mtcsCells l vs).length = l.length * 8 := by
  induction l generalizing vs with
  | nil => rfl
  | cons m l ih =>
    cases vs with
    | nil => simp at h
    | cons v vs =>
      have := ih vs (by simpa using h)
      unfold mtcsCells at this ⊢
      rw [List.zip_cons_cons, List.flatMap_cons, List.length_append, this, Mtc.cells_len, List.length_cons]
      omega
theorem mtcsCells_get (l : List Mtc) (vs : List (Value × Value)) (h : vs.length = l.length) (i : Nat) (hi : i < l.length) (j : Nat) (hj : j < 8) : (mtcsCells l vs)[i * 8 + j]? = ((l.getD i mtcZ).cells (vs.getD i (undef, undef)).1 (vs.getD i (undef, undef)).2)[j]? := by
  induction l generalizing vs i with
  | nil => simp at hi
  | cons m l ih =>
    cases vs with
    | nil => simp at h
    | cons v vs =>
      unfold mtcsCells
      rw [List.zip_cons_cons, List.flatMap_cons]
      cases i with
      | zero =>
        rw [Nat.zero_mul, Nat.zero_add, List.getElem?_append_left (by rw [Mtc.cells_len]; exact hj), List.getD_cons_zero, List.getD_cons_zero]
      | succ i =>
        rw [List.getElem?_append_right (by rw [Mtc.cells_len]; omega), Mtc.cells_len, show (i + 1) * 8 + j - 8 = i * 8 + j by omega, List.getD_cons_succ, List.getD_cons_succ]
        exact ih vs (by simpa using h) i (by simpa using hi)
/-- what the two slices of each rule read as -/
def VsOk (w : World) (l : List Mtc) (vs : List (Value × Value)) : Prop := vs.length = l.length ∧ ∀ i, i < l.length → (l.getD i mtcZ).act ≤ 4294967295 ∧ (l.getD i mtcZ).cnd.bounded ∧ IsU32s w (vs.getD i (undef, undef)).1 (l.getD i mtcZ).nrs ∧ IsCnds w (vs.getD i (undef, undef)).2 (l.getD i mtcZ).cnd.kids
theorem VsOk.below {w w' : World} {l : List Mtc} {vs : List (Value × Value)} (h : VsOk w l vs) (hb : Below w.heap.size w w') : VsOk w' l vs :=
  ⟨h.1, fun i hi => ⟨(h.2 i hi).1, (h.2 i hi).2.1, (h.2 i hi).2.2.1.below hb, (h.2 i hi).2.2.2.below hb⟩⟩
theorem mtcs_vs {w : World} {A : Option Addr} {n c : Nat} {l : List Mtc} (h : IsMtcs w (.slice A n c) l) : ∃ vs, VsOk w l vs ∧ ((A = none ∧ n = 0 ∧ c = 0 ∧ mtcsCells l vs = []) ∨ ∃ ad, A = some ad ∧ ∀ j u, (mtcsCells l vs)[j]? = some u → w.cell? (ad.add j) = some u) := by
  obtain ⟨_, _, _, hv, h1, h2, h3, h4, h5⟩ := h
  injection hv with e1 e2 e3
  subst e1 e2 e3
  rcases h5 with h0 | ⟨b, off, rfl, hlt, hat⟩
  · have hnil : l = [] := List.eq_nil_of_length_eq_zero (by omega)
    subst hnil
    refine ⟨[], ⟨rfl, fun i hi => absurd hi (by simp)⟩, ?_⟩
    cases A with
    | none => exact .inl ⟨rfl, h0, h4 rfl, rfl⟩
    | some ad => exact .inr ⟨ad, rfl, fun j u hj => by simp [mtcsCells] at hj⟩
  · obtain ⟨vs, hvl, hvs⟩ := list_of (P := fun i (v : Value × Value) => (∀ j u, ((l.getD i mtcZ).cells v.1 v.2)[j]? = some u → w.cell? ⟨b, off + i * 8 + j, none⟩ = some u) ∧ (l.getD i mtcZ).act ≤ 4294967295 ∧ (l.getD i mtcZ).cnd.bounded ∧ IsU32s w v.1 (l.getD i mtcZ).nrs ∧ IsCnds w v.2 (l.getD i mtcZ).cnd.kids) (undef, undef) n fun i hi => by
      obtain ⟨g1, g2, ks, k, g3, g4, g5⟩ := (mtcAt_iff _ _ _ _).1 (hat i hi)
      exact ⟨(ks, k), g3, g1, g2, g4, g5⟩
    refine ⟨vs, ⟨by omega, fun i hi => (hvs i (by omega)).2⟩, .inr ⟨_, rfl, fun j u hj => ?_⟩⟩
    have hjl : j < n * 8 := by
      have := (List.getElem?_eq_some_iff.1 hj).1
      rw [mtcsCells_len l vs (by omega), h1] at this
      exact this
    have hd : j = j / 8 * 8 + j % 8 := by omega
    rw [hd, mtcsCells_get l vs (by omega) (j / 8) (by omega) (j % 8) (by omega)] at hj
    have := (hvs (j / 8) (by omega)).1 _ _ hj
    rw [addr_add]
    rwa [show off + j = off + j / 8 * 8 + j % 8 by omega]
theorem mtcsCells_one (l : List Mtc) (vs : List (Value × Value)) {w : World} (h : VsOk w l vs) : ∀ u ∈ mtcsCells l vs, u.oneCell' = true := by
  intro u hu
  obtain ⟨p, hp, hu⟩ := List.mem_flatMap.1 hu
  obtain ⟨i, hi, e⟩ := List.mem_iff_getElem.1 hp
  rw [List.length_zip] at hi
  rw [List.getElem_zip] at e
  have h0 := h.2 i (by omega)
  have e1 : l.getD i mtcZ = p.1 := by rw [← e]; simp [List.getD, show i < l.length by omega]
  have e2 : vs.getD i (undef, undef) = p.2 := by rw [← e]; simp [List.getD, show i < vs.length by omega]
  rw [e1, e2] at h0
  obtain ⟨_, _, ⟨a1, n1, c1, q1, _⟩, q2⟩ := h0
  obtain ⟨a2, n2, c2, q2, _⟩ := id q2
  unfold Mtc.cells Cnd.cells at hu
  rw [q1, q2] at hu
  simp only [List.mem_cons, List.mem_append, List.not_mem_nil, or_false] at hu
  rcases hu with rfl | (rfl | rfl | rfl | rfl | rfl | rfl) | rfl <;> rfl
theorem mtcsCells_app (l1 l2 : List Mtc) (v1 v2 : List (Value × Value)) (h : v1.length = l1.length) : mtcsCells (l1 ++ l2) (v1 ++ v2) = mtcsCells l1 v1 ++ mtcsCells l2 v2 := by
  unfold mtcsCells
  rw [List.zip_append h.symm, List.flatMap_append]
theorem VsOk.app {w : World} {l1 l2 : List Mtc} {v1 v2 : List (Value × Value)} (h1 : VsOk w l1 v1) (h2 : VsOk w l2 v2) : VsOk w (l1 ++ l2) (v1 ++ v2) := by
  refine ⟨by rw [List.length_append, List.length_append, h1.1, h2.1], fun i hi => ?_⟩
  have := h1.1
  by_cases h : i < l1.length
  · have e1 : (l1 ++ l2).getD i mtcZ = l1.getD i mtcZ := by simp [List.getD, List.getElem?_append, h]
    have e2 : (v1 ++ v2).getD i (undef, undef) = v1.getD i (undef, undef) := by simp [List.getD, List.getElem?_append, show i < v1.length by omega]
    rw [e1, e2]
    exact h1.2 i h
  · have e1 : (l1 ++ l2).getD i mtcZ = l2.getD (i - l1.length) mtcZ := by simp [List.getD, List.getElem?_append, h]
    have e2 : (v1 ++ v2).getD i (undef, undef) = v2.getD (i - l1.length) (undef, undef) := by simp [List.getD, List.getElem?_append, h, this]
    rw [e1, e2]
    rw [List.length_append] at hi
    exact h2.2 _ (by omega)
/-- a row of the call's own reads as its rules -/
theorem own_mtcs {w : World} {base : Nat} {v : Value} {l : List Mtc} {vs : List (Value × Value)} {n : Nat} (h : w.ownsRow base 49 8 v n (mtcsCells l vs)) (hn : n = l.length) (hv : VsOk w l vs) : IsMtcs w v l := by
  subst hn
  rcases h.2 with ⟨rfl, h0⟩ | ⟨g, cap, cur, rfl, hg, hh, hn, hc, hcs, htake⟩
  · exact ⟨none, 0, 0, rfl, h0, by omega, by omega, fun _ => rfl, .inl rfl⟩
  · refine ⟨_, _, cap, rfl, rfl, hn, by unfold maxLen at hc; exact hc, (fun e => by cases e), ?_⟩
    by_cases h0 : l.length = 0
    · exact .inl h0
    · refine .inr ⟨g, 0, rfl, lt_of_block hh, fun i hi => (mtcAt_iff _ _ _ _).2 ⟨(hv.2 i hi).1, (hv.2 i hi).2.1, _, _, fun j u hj => ?_, (hv.2 i hi).2.2.1, (hv.2 i hi).2.2.2⟩⟩
      have hj8 : j < 8 := by have := (List.getElem?_eq_some_iff.1 hj).1; rwa [Mtc.cells_len] at this
      have := h.cells (g := g) rfl (i * 8 + j) u (by rw [mtcsCells_get l vs hv.1 i hi j hj8]; exact hj)
      rw [addr_add] at this
      rwa [show 0 + i * 8 + j = 0 + (i * 8 + j) by omega]
end Go.Proofs.Ytbcoooaoofbboaa
