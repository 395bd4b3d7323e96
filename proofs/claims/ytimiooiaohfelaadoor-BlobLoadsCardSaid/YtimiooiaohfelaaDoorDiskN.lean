/- A new disk; a disk of few sectors and writes; alive. -/
import Derived.Test.YtimiooiaohfelaaDoorDiskR
import Derived.Test.YtimiooiaohfelaaDoorResRow
import Derived.Laws.MakeOwn
namespace Go.Proofs.YtimiooiaohfelaaDoor
open Go.RowKit
set_option linter.unusedVariables false

theorem infoStr : (Tryd.prog.info? 9).map (fun i => (i.zero, i.size, i.bytes)) = some (some (.string ⟨#[]⟩), 1, 16) := by kernel_rfl
theorem block_strs {w : World} {g : Nat} {t : TypeId} {l : List ByteArray} {cap : Nat} (hc : l.length ≤ cap) (cs : Array Value) (h : w.heap[g]? = some (.cells cs t (0, 0))) (hcs : ∀ i (hi : i < l.length), cs[i]? = some (.string l[i]))
    (hm : cap ≤ 9223372036854775807) (hs : ∀ s ∈ l, s.size ≤ 9223372036854775807) : IsStrs w (.slice (some ⟨g, 0, none⟩) l.length cap) l := by
  refine ⟨_, _, _, rfl, rfl, hc, hm, hs, .inr ⟨g, 0, rfl, (Array.getElem?_eq_some_iff.1 h).1, fun i hi => ?_⟩⟩
  rw [Nat.zero_add, cell_of_row _ _ _ _ _ _ h, hcs i hi]
  simp [List.getD, hi]
theorem nilStrs (w : World) : IsStrs w (.slice none 0 0) [] := ⟨none, 0, 0, rfl, rfl, by omega, by omega, by simp, .inl rfl⟩
def newD (n : Nat) : Dsk := ⟨List.replicate n ⟨#[]⟩, []⟩
def noD : Dsk := ⟨[], []⟩
theorem make_strs (k : Nat) (hk : k ≤ 100000) : ∀ u : World, (Instr.makeSlice 22 (.int .i64 (k : Int)) (.int .i64 (k : Int))).run Tryd.prog u =
      .ok (.slice (some ⟨u.heap.size, 0, none⟩) k k) (u.alloc (.cells (List.replicate k (Value.string ⟨#[]⟩)).toArray 9)) := fun u => by
  obtain ⟨i0, hi, hz0, hz1, hz2⟩ := info_parts infoStr
  have h := run_make (P := Tryd.prog) u 22 9 i0 (.string ⟨#[]⟩) Tryd.underlying22 hi hz0 .i64 .i64 (k : Int) (k : Int) (by omega) (Int.le_refl _) (by rw [hz2]; omega) (by omega)
  have hm : madeCells #[Value.string ⟨#[]⟩] k = (List.replicate k (Value.string ⟨#[]⟩)).toArray := by
    rw [fill_zero (.string ⟨#[]⟩) k, fill]; simp
  simpa [hz1, Value.cells, hm] using h
def DiskPost (E : Int) (d : Dsk) (w : World) (e : Ending) (w' : World) : Prop := ∃ v, e = .returned (.tuple #[v, .int .i64 E]) ∧ IsDisk w' v d ∧ Below w.heap.size w w'

theorem new_right (n : Nat) (h1 : 1 ≤ n) (h2 : n ≤ 256) : rightD (newD n) = true := by
  unfold rightD newD
  have h0 : fitsB ⟨#[]⟩ = true := decide_eq_true ⟨by show 0 ≤ 512; omega, by decide⟩
  have : (List.replicate n (⟨#[]⟩ : ByteArray)).all fitsB = true := List.all_eq_true.2 (fun x hx => by rw [List.eq_of_mem_replicate hx]; exact h0)
  simp only [List.length_replicate, this, List.all_nil, Bool.and_true]
  exact decide_eq_true ⟨h1, h2⟩
end Go.Proofs.YtimiooiaohfelaaDoor
