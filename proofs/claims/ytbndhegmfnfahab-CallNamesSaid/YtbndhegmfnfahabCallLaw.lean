/- alive of the laws of layer 13; plain facts on the tables. -/
import Derived.Test.YtbndhegmfnfahabCallNr
namespace Go.Proofs.Ytbndhegmfnfahab
open Go.RowKit
set_option linter.unusedVariables false

theorem openat_nr : nrOf x86T ⟨#[111, 112, 101, 110, 97, 116]⟩ = some 257 := by decide +kernel
theorem callAlive (w : World) : Calls Try.prog 18 #[] w fun e w' => e = .returned (.bool true) ∧ Below w.heap.size w w' := by
  have h := fun u : World => callNr_any 3221225534 ⟨#[111, 112, 101, 110, 97, 116]⟩ u (by omega) (by omega)
  have ht : tabOf 3221225534 = x86T := by unfold tabOf; rw [if_pos rfl]
  rw [ht, openat_nr] at h
  have H := Lib.hid h
  clear h ht
  go_enter Try.func18, Try.ntmps18
  go_wp2_with fail
  refine (H.out _).mono ?_
  rintro e w' ⟨rfl, hb⟩
  go_wp2
  go_ret
  exact ⟨rfl, hb⟩
theorem nrOf_mem {l : List (List UInt8 × Nat)} {a : ByteArray} {x : Nat} (h : nrOf l a = some x) : ∃ i, i < l.length ∧ keyOfN (l.getD i ([], 0)) = a ∧ (l.getD i ([], 0)).2 = x := by
  unfold nrOf at h
  cases hf : l.find? fun e => decide (keyOfN e = a) with
  | none => rw [hf] at h; cases h
  | some e =>
    rw [hf] at h
    injection h with h
    have h1 := List.find?_some hf
    obtain ⟨j, hj, he⟩ := List.mem_iff_getElem.1 (List.mem_of_find?_eq_some hf)
    have he' : l.getD j ([], 0) = e := by simp [List.getD, hj, he]
    exact ⟨j, hj, by rw [he']; exact of_decide_eq_true h1, by rw [he']; exact h⟩
theorem nodup_nrs (l : List (List UInt8 × Nat)) (hn : (l.map (·.2)).Nodup) (i j : Nat) (hi : i < l.length) (hj : j < l.length) (h : (l.getD i ([], 0)).2 = (l.getD j ([], 0)).2) : i = j := by
  have e1 : (l.map (·.2))[i]'(by simpa using hi) = (l.map (·.2))[j]'(by simpa using hj) := by
    simpa [List.getD, hi, hj] using h
  exact (List.getElem_inj hn).1 e1
theorem nrOf_apart (a : Int) {s t : ByteArray} {x y : Nat} (hs : nrOf (tabOf a) s = some x) (ht : nrOf (tabOf a) t = some y) : ((x : Int) == (y : Int)) = (s.toList == t.toList) := by
  obtain ⟨i, hi, hks, hx⟩ := nrOf_mem hs
  obtain ⟨j, hj, hkt, hy⟩ := nrOf_mem ht
  by_cases h : s = t
  · subst h
    rw [hs] at ht
    injection ht with ht
    subst ht
    simp
  · rw [ba_tne h, beq_eq_false_iff_ne]
    intro hxy
    have : i = j := nodup_nrs _ (tab_nodup a).2 i j hi hj (by rw [hx, hy]; omega)
    subst this
    exact h (hks.symm.trans hkt)
end Go.Proofs.Ytbndhegmfnfahab
