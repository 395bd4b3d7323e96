/- What few steps become. -/
import Derived.Test.YtnlmdajoifjddaaEmL
namespace Go.Proofs.Ytnlmdajoifjddaa
open Go.RowKit Go.ChangeShapes
set_option linter.unusedVariables false

/-- few steps: the filter is not too long -/
def SmallPost (l : List Stp) (e : Ending) (w' : World) : Prop := (asmA l = none ∧ e = .returned (.tuple #[.slice none 0 0, .int .i64 1])) ∨
      ∃ s g, asmA l = some s ∧ e = .returned (.tuple #[.slice (some ⟨g, 0, none⟩) s.c.length s.c.length, .int .i64 0]) ∧ IsIns w' (.slice (some ⟨g, 0, none⟩) s.c.length s.c.length) s.c ∧ s.c.length ≤ 3000
theorem asm_few (l : List Stp) (v : Value) (w : World) (hl : IsOps w v l) (hN : l.length ≤ 1000) :
    Calls Try.prog 9 #[v] w fun e w' => SmallPost l e w' ∧ Below w.heap.size w w' := by
  refine (emAssemble_any l v w hl (by omega)).mono fun e w' ⟨h, hb⟩ => ⟨?_, hb⟩
  unfold AsmPost at h
  unfold SmallPost
  cases hs : asmA l with
  | none => rw [hs] at h; exact .inl ⟨rfl, h⟩
  | some s =>
    rw [hs] at h
    have hlen := (asmA_ok l s (fun o ho => (hl.bnd o ho).2.1) (by omega) hs).2
    have hsz := sizeL_le l
    have h : if 4096 < s.c.length then e = .returned (.tuple #[.slice none 0 0, .int .i64 64]) else ∃ g, e = .returned (.tuple #[.slice (some ⟨g, 0, none⟩) s.c.length s.c.length, .int .i64 0]) ∧ IsIns w' (.slice (some ⟨g, 0, none⟩) s.c.length s.c.length) s.c := h
    rw [if_neg (by omega)] at h
    obtain ⟨g, h1, h2⟩ := h
    exact .inr ⟨s, g, rfl, h1, h2, by omega⟩
/-- the filter, or none, and the error -/
def asmV (l : List Stp) : List Ins := match asmA l with | none => [] | some s => s.c
def asmE (l : List Stp) : Int := match asmA l with | none => 1 | some _ => 0
theorem SmallPost.both {l : List Stp} {e : Ending} {w' : World} (h : SmallPost l e w') : ∃ v, e = .returned (.tuple #[v, .int .i64 (asmE l)]) ∧ IsIns w' v (asmV l) ∧ (asmV l).length ≤ 3000 := by
  rcases h with ⟨h1, h2⟩ | ⟨s, g, h1, h2, h3, h4⟩
  · refine ⟨_, by unfold asmE; rw [h1]; exact h2, ?_, by unfold asmV; rw [h1]; exact Nat.zero_le _⟩
    unfold asmV; rw [h1]
    exact ⟨⟨none, 0, 0, rfl, rfl, by omega, by omega, by simp, .inl rfl⟩, fun len cap hv => (by injection hv; omega)⟩
  · exact ⟨_, by unfold asmE; rw [h1]; exact h2, by unfold asmV; rw [h1]; exact h3, by unfold asmV; rw [h1]; exact h4⟩
end Go.Proofs.Ytnlmdajoifjddaa
