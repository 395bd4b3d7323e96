/- The reference: what a crash leaves. -/
import Derived.Test.YthnmnnlbglpjaaaDoorDiskW
namespace Go.Proofs.YthnmnnlbglpjaaaDoor
open Go.RowKit
set_option linter.unusedVariables false

theorem own_keep {w w' : World} {base : Nat} {e : TypeId} {size : Nat} {v : Value} {n : Nat} {xs : List Value} (h : w.ownsRow base e size v n xs) (hb : Below w.heap.size w w') : w'.ownsRow base e size v n xs := by
  refine ⟨h.1, h.2.imp id ?_⟩
  rintro ⟨g, cap, cur, h1, h2, h3, h4⟩
  exact ⟨g, cap, cur, h1, h2, (hb.block g (Array.getElem?_eq_some_iff.1 h3).1).trans h3, h4⟩
theorem wrts_bnd {w : World} {v : Value} {l : List Wrt} (h : IsWrts w v l) : ∀ i ∈ l, i.bounded := by
  obtain ⟨_, _, _, _, _, _, _, h1, _⟩ := h
  exact h1
theorem strs_bnd {w : World} {v : Value} {l : List ByteArray} (h : IsStrs w v l) : ∀ s ∈ l, s.size ≤ 9223372036854775807 := by
  obtain ⟨_, _, _, _, _, _, _, h1, _⟩ := h
  exact h1
theorem own_form {w : World} {base : Nat} {e : TypeId} {size : Nat} {v : Value} {n : Nat} {xs : List Value} (h : w.ownsRow base e size v n xs) : ∃ a c, v = .slice a n c := by
  rcases h.2 with ⟨rfl, rfl⟩ | ⟨g, cap, cur, rfl, _⟩
  · exact ⟨_, _, rfl⟩
  · exact ⟨_, _, rfl⟩
def crS (d : Dsk) (K : List Bool) (n k : Nat) : List ByteArray := (List.range k).map fun j => (crashL d K n).getD j ⟨#[]⟩
theorem crS_snoc (d : Dsk) (K : List Bool) (n k : Nat) : crS d K n (k + 1) = crS d K n k ++ [(crashL d K n).getD k ⟨#[]⟩] := by
  simp [crS, List.range_succ]
theorem range_getD (l : List ByteArray) : (List.range l.length).map (fun j => l.getD j ⟨#[]⟩) = l := by
  apply List.ext_getElem
  · simp
  · intro i h1 h2
    simp [List.getD, h2]
theorem crS_all (d : Dsk) (K : List Bool) (n : Nat) : crS d K n d.secs.length = crashL d K n := by
  have h := range_getD (crashL d K n)
  rwa [crashL_len] at h
theorem infoStr3 : (Tryd.prog.info? 9).map (fun i => (i.zero, i.size, i.bytes)) = some (some (.string ⟨#[]⟩), 1, 16) := by kernel_rfl
end Go.Proofs.YthnmnnlbglpjaaaDoor
