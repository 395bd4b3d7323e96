/- What DiskWhole asks more. -/
import Derived.Test.YtimiooiaohfelaaDoorDiskM
namespace Go.Proofs.YtimiooiaohfelaaDoor
open Go.RowKit
set_option linter.unusedVariables false

theorem IsDisk.secs {w : World} {sv pv : Value} {d : Dsk} (h : IsDisk w (.agg #[sv, pv]) d) : IsStrs w sv d.secs := by
  obtain ⟨s, p, hv, h1, h2⟩ := h
  injection hv with hv
  have : sv = s := by have := congrArg (fun z : Array Value => z[0]?) hv; simpa using this
  rw [this]; exact h1
theorem IsDisk.pend {w : World} {sv pv : Value} {d : Dsk} (h : IsDisk w (.agg #[sv, pv]) d) : IsWrts w pv d.pend := by
  obtain ⟨s, p, hv, h1, h2⟩ := h
  injection hv with hv
  have : pv = p := by have := congrArg (fun z : Array Value => z[1]?) hv; simpa using this
  rw [this]; exact h2
theorem strs_len {w : World} {a : Option Addr} {n c : Nat} {l : List ByteArray} (h : IsStrs w (.slice a n c) l) : l.length = n := by
  obtain ⟨_, _, _, e, h1, _⟩ := h
  injection e with e1 e2 e3
  exact h1.trans e2.symm
theorem wrts_len {w : World} {a : Option Addr} {n c : Nat} {l : List Wrt} (h : IsWrts w (.slice a n c) l) : l.length = n := by
  obtain ⟨_, _, _, e, h1, _⟩ := h
  injection e with e1 e2 e3
  exact h1.trans e2.symm
theorem strs_at {w : World} {a : Option Addr} {n c : Nat} {l : List ByteArray} (h : IsStrs w (.slice a n c) l) :
    n = 0 ∨ ∃ g off, a = some ⟨g, off, none⟩ ∧ g < w.heap.size ∧ ∀ i, i < n → w.cell? ⟨g, off + i, none⟩ = some (.string (l.getD i ByteArray.empty)) := by
  obtain ⟨_, _, _, e, _, _, _, _, h1⟩ := h
  injection e with e1 e2 e3
  subst e1 e2
  exact h1
theorem wrts_at {w : World} {a : Option Addr} {n c : Nat} {l : List Wrt} (h : IsWrts w (.slice a n c) l) :
    n = 0 ∨ ∃ g off, a = some ⟨g, off, none⟩ ∧ g < w.heap.size ∧ ∀ i, i < n → WrtAt w g (off + i * 2) (l.getD i wrtZ) := by
  obtain ⟨_, _, _, e, _, _, _, _, h1⟩ := h
  injection e with e1 e2 e3
  subst e1 e2
  exact h1
theorem infoBl : (Tryd.prog.info? 4).map (fun i => (i.zero, i.size, i.bytes)) = some (some (.bool false), 1, 1) := by kernel_rfl
def falses (k : Nat) : List Bool := List.replicate k false
theorem make_bls (k : Nat) (hk : k ≤ 100000) : ∀ u : World, (Instr.makeSlice 42 (.int .i64 (k : Int)) (.int .i64 (k : Int))).run Tryd.prog u =
      .ok (.slice (some ⟨u.heap.size, 0, none⟩) k k) (u.alloc (.cells ((falses k).map Value.bool).toArray 4)) := fun u => by
  obtain ⟨i0, hi, hz0, hz1, hz2⟩ := info_parts infoBl
  have h := run_make (P := Tryd.prog) u 42 4 i0 (.bool false) Tryd.underlying42 hi hz0 .i64 .i64 (k : Int) (k : Int) (by omega) (Int.le_refl _) (by rw [hz2]; omega) (by omega)
  have hm : madeCells #[Value.bool false] k = ((falses k).map Value.bool).toArray := by
    unfold falses; rw [fill_zero (.bool false) k, fill]; simp
  simpa [hz1, Value.cells, hm] using h
end Go.Proofs.YtimiooiaohfelaaDoor
