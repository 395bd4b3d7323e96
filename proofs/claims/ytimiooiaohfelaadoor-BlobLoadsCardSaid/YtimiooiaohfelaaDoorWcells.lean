/- Rows of writes of the call's own. -/
import Derived.Test.YtimiooiaohfelaaDoorWrt
import Derived.Test.YtimiooiaohfelaaDoorResRow
namespace Go.Proofs.YtimiooiaohfelaaDoor
open Go.RowKit
set_option linter.unusedVariables false

def wcells : List Wrt → List Value
  | [] => []
  | x :: l => .int .i64 x.sector :: .string x.bytes :: wcells l
theorem wcells_len : ∀ l : List Wrt, (wcells l).length = l.length * 2
  | [] => rfl
  | x :: l => by simp only [wcells, List.length_cons, wcells_len l]; omega
theorem wcells_append : ∀ l m : List Wrt, wcells (l ++ m) = wcells l ++ wcells m
  | [], m => rfl
  | x :: l, m => by simp only [List.cons_append, wcells, wcells_append l m]
theorem wcells_one : ∀ (l : List Wrt), ∀ u ∈ wcells l, u.oneCell' = true
  | [], u, h => by cases h
  | x :: l, u, h => by
    simp only [wcells, List.mem_cons] at h
    rcases h with rfl | rfl | h
    · rfl
    · rfl
    · exact wcells_one l u h
theorem wcells_get : ∀ (l : List Wrt) (i : Nat), i < l.length → (wcells l)[i * 2]? = some (.int .i64 (l.getD i wrtZ).sector) ∧ (wcells l)[i * 2 + 1]? = some (.string (l.getD i wrtZ).bytes)
  | x :: l, 0, _ => ⟨rfl, rfl⟩
  | x :: l, i + 1, h => by
    have ih := wcells_get l i (by simpa using h)
    have e1 : (i + 1) * 2 = i * 2 + 1 + 1 := by omega
    rw [e1]
    exact ih
theorem wcells_at : ∀ (l : List Wrt) (j : Nat) (u : Value), (wcells l)[j]? = some u → ∃ i, i < l.length ∧ ((j = i * 2 ∧ u = .int .i64 (l.getD i wrtZ).sector) ∨ (j = i * 2 + 1 ∧ u = .string (l.getD i wrtZ).bytes))
  | x :: l, 0, u, h => ⟨0, by simp, .inl ⟨rfl, by simp only [wcells, List.getElem?_cons_zero, Option.some.injEq] at h; exact h.symm⟩⟩
  | x :: l, 1, u, h => ⟨0, by simp, .inr ⟨rfl, by simp only [wcells, List.getElem?_cons_succ, List.getElem?_cons_zero, Option.some.injEq] at h; exact h.symm⟩⟩
  | x :: l, j + 2, u, h => by
    have h' : (wcells l)[j]? = some u := h
    obtain ⟨i, hi, hh⟩ := wcells_at l j u h'
    refine ⟨i + 1, by simpa using hi, ?_⟩
    rcases hh with ⟨e1, e2⟩ | ⟨e1, e2⟩
    · exact .inl ⟨by omega, e2⟩
    · exact .inr ⟨by omega, e2⟩
theorem own_wrts {w : World} {base : Nat} {e : TypeId} {v : Value} {n : Nat} {l : List Wrt} (h : w.ownsRow base e 2 v n (wcells l)) (hs : ∀ s ∈ l, s.bounded) : IsWrts w v l := by
  have hlen : l.length = n := by have := h.1; rw [wcells_len] at this; omega
  have hcells := fun g => h.cells (g := g)
  rcases h.2 with ⟨rfl, h0⟩ | ⟨g, cap, cur, rfl, hb, hg, hnc, hcm, hsz, htk⟩
  · subst h0
    obtain rfl : l = [] := List.length_eq_zero_iff.1 hlen
    exact nilWrts w
  · refine ⟨_, _, _, rfl, hlen, hnc, by unfold maxLen at hcm; omega, hs, .inr ⟨g, 0, rfl, (Array.getElem?_eq_some_iff.1 hg).1, fun i hi => ?_⟩⟩
    obtain ⟨h1, h2⟩ := wcells_get l i (by omega)
    have c1 := hcells g rfl _ _ h1
    have c2 := hcells g rfl _ _ h2
    rw [addr_add] at c1 c2
    exact ⟨c1, c2⟩
theorem infoWrt : (Tryd.prog.info? 49).map (fun i => (i.zero, i.size, i.bytes)) = some (some (.agg #[.int .i64 0, .string ⟨#[]⟩]), 2, 24) := by kernel_rfl
end Go.Proofs.YtimiooiaohfelaaDoor
