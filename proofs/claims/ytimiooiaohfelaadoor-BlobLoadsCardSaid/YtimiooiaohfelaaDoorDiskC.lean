/- A crash. -/
import Derived.Test.YtimiooiaohfelaaDoorDiskN
import Derived.Laws.OwnMore
import Derived.Lib.SliceRun
namespace Go.Proofs.YtimiooiaohfelaaDoor
open Go.RowKit
set_option linter.unusedVariables false

theorem own_strs {w : World} {base : Nat} {e : TypeId} {v : Value} {n : Nat} {l : List ByteArray} (h : w.ownsRow base e 1 v n (l.map .string)) (hs : ∀ s ∈ l, s.size ≤ 9223372036854775807) : IsStrs w v l := by
  have hlen : l.length = n := by have := h.1; simpa using this
  have hcells := fun g => h.cells (g := g)
  rcases h.2 with ⟨rfl, h0⟩ | ⟨g, cap, cur, rfl, hb, hg, hnc, hcm, hsz, htk⟩
  · subst h0
    obtain rfl : l = [] := List.length_eq_zero_iff.1 hlen
    exact nilStrs w
  · refine ⟨_, _, _, rfl, hlen, hnc, by unfold maxLen at hcm; omega, hs, .inr ⟨g, 0, rfl, (Array.getElem?_eq_some_iff.1 hg).1, fun i hi => ?_⟩⟩
    have := hcells g rfl i (.string (l.getD i ByteArray.empty)) (by simp [List.getD, show i < l.length by omega])
    rwa [addr_add] at this
/-- the sectors behind the first n writes -/
def crashL (d : Dsk) (keep : List Bool) : Nat → List ByteArray
  | 0 => d.secs
  | n + 1 => if keep.getD n false = true then (crashL d keep n).set (d.pend.getD n wrtZ).sector.toNat (d.pend.getD n wrtZ).bytes else crashL d keep n
theorem crashL_len (d : Dsk) (keep : List Bool) : ∀ n, (crashL d keep n).length = d.secs.length
  | 0 => rfl
  | n + 1 => by rw [crashL]; split <;> simp [crashL_len d keep n]
def crashD (d : Dsk) (keep : List Bool) : Dsk := if rightD d = true then ⟨crashL d keep d.pend.length, []⟩ else noD
def rightE (d : Dsk) : Int := if rightD d = true then 0 else 1


theorem crashL_bnd (d : Dsk) (keep : List Bool) (h : ∀ x ∈ d.pend, x.bounded) (h2 : ∀ s ∈ d.secs, s.size ≤ 9223372036854775807) : ∀ n, n ≤ d.pend.length → ∀ s ∈ crashL d keep n, s.size ≤ 9223372036854775807
  | 0, _ => h2
  | n + 1, hn => by
    intro s hs
    rw [crashL] at hs
    split at hs
    · rcases List.mem_or_eq_of_mem_set hs with hs | rfl
      · exact crashL_bnd d keep h h2 n (by omega) s hs
      · have hlt : n < d.pend.length := by omega
        have := (h (d.pend[n]) (List.getElem_mem hlt)).2
        rwa [show d.pend.getD n wrtZ = d.pend[n] from by simp [List.getD, hlt]]
    · exact crashL_bnd d keep h h2 n (by omega) s hs
theorem right_pend (d : Dsk) (h : rightD d = true) (i : Nat) (hi : i < d.pend.length) : 0 ≤ (d.pend.getD i wrtZ).sector ∧ (d.pend.getD i wrtZ).sector < d.secs.length := by
  unfold rightD at h
  simp only [Bool.and_eq_true] at h
  have := List.all_eq_true.1 h.2 (d.pend[i]) (List.getElem_mem hi)
  rw [show d.pend.getD i wrtZ = d.pend[i] from by simp [List.getD, hi]]
  unfold Wrt.fits at this
  simp only [Bool.and_eq_true, decide_eq_true_eq] at this
  exact this.1
theorem right_len (d : Dsk) (h : rightD d = true) : 1 ≤ d.secs.length ∧ d.secs.length ≤ 256 := by
  unfold rightD at h
  simp only [Bool.and_eq_true, decide_eq_true_eq] at h
  exact h.1.1

end Go.Proofs.YtimiooiaohfelaaDoor
