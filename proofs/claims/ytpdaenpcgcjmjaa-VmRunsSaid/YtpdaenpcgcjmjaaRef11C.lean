/- The reference's step: what stands ahead of each code. -/
import Derived.Test.YtpdaenpcgcjmjaaRef11B
import Derived.StillTailTactics
namespace Go.Proofs.Ytpdaenpcgcjmjaa
open Go.RowKit
set_option linter.unusedVariables false

/-- what stands behind the beginning of a step -/
structure Steps (w wA : World) (r : RM) (c jt jf k : Int) : Prop where
  m : IsR wA w.heap.size r
  o : wA.heap[w.heap.size + 1]? = some (.cells rm0.arr 45 (0, 0))
  i : wA.heap[w.heap.size + 1 + 1]? = some (.cells #[.int .i64 c, .int .i64 jt, .int .i64 jf, .int .u32 k] 35 (0, 0))
  b : Below w.heap.size w wA
theorem steps_of (w : World) (r : RM) (c jt jf k : Int) (h : r.cells.length = 16) : Steps w (((w.alloc (Obj.cells r.arr 45)).alloc (Obj.cells #[.int .u32 0, .int .u32 0, .int .u32 0, .int .u32 0, .int .u32 0, .int .u32 0, .int .u32 0, .int .u32 0, .int .u32 0, .int .u32 0, .int .u32 0, .int .u32 0, .int .u32 0, .int .u32 0, .int .u32 0, .int .u32 0, .int .u32 0, .int .u32 0, .int .i64 0, .int .u32 0, .bool false, .bool false] 45)).alloc (Obj.cells #[.int .i64 c, .int .i64 jt, .int .i64 jf, .int .u32 k] 35)) r c jt jf k := by
  refine ⟨⟨?_, h⟩, ?_, ?_, alloc3 w _ _ _⟩
  · exact (heap_alloc_old _ _ (by simp; omega)).trans ((heap_alloc_old _ _ (by simp)).trans (heap_alloc_new w _))
  · refine (heap_alloc_old _ _ (by simp)).trans ?_
    have := heap_alloc_new (w.alloc (Obj.cells r.arr 45)) (Obj.cells rm0.arr 45)
    rwa [World.size_alloc] at this
  · have := heap_alloc_new ((w.alloc (Obj.cells r.arr 45)).alloc (Obj.cells rm0.arr 45)) (Obj.cells #[.int .i64 c, .int .i64 jt, .int .i64 jf, .int .u32 k] 35)
    rwa [World.size_alloc, World.size_alloc] at this
theorem Steps.setAt {w wA : World} {r : RM} {c jt jf k : Int} (h : Steps w wA r c jt jf k) (n : Int) : Steps w (wA.setCell ⟨w.heap.size, 18, none⟩ (.int .i64 n)) { r with at' := n } c jt jf k := by
  refine ⟨h.m.setAt n, ?_, ?_, h.b.setCell (p := ⟨w.heap.size, 18, none⟩) (Nat.le_refl _) _⟩
  · exact (Below.heap_setCell _ ⟨w.heap.size, 18, none⟩ _ (w.heap.size + 1) (by show w.heap.size + 1 ≠ w.heap.size; omega)).trans h.o
  · exact (Below.heap_setCell _ ⟨w.heap.size, 18, none⟩ _ (w.heap.size + 1 + 1) (by show w.heap.size + 1 + 1 ≠ w.heap.size; omega)).trans h.i
/-- what stands ahead of its end -/
structure StepsE (w wB : World) (r : RM) : Prop where
  m : IsR wB w.heap.size r
  o : wB.heap[w.heap.size + 1]? = some (.cells rm0.arr 45 (0, 0))
  b : Below w.heap.size w wB
theorem Steps.last {w wA : World} {r : RM} {c jt jf k : Int} (h : Steps w wA r c jt jf k) : StepsE w wA r := ⟨h.m, h.o, h.b⟩
theorem StepsE.set {w wA : World} {r r' : RM} (h : StepsE w wA r) (j : Nat) (v : Value) (h2 : IsR (wA.setCell ⟨w.heap.size, j, none⟩ v) w.heap.size r') : StepsE w (wA.setCell ⟨w.heap.size, j, none⟩ v) r' :=
  ⟨h2, (Below.heap_setCell wA ⟨w.heap.size, j, none⟩ v (w.heap.size + 1) (by show w.heap.size + 1 ≠ w.heap.size; omega)).trans h.o, h.b.setCell (p := ⟨w.heap.size, j, none⟩) (Nat.le_refl _) v⟩
theorem StepsE.below {w wA w' : World} {r : RM} (h : StepsE w wA r) (hb : Below wA.heap.size wA w') : StepsE w w' r :=
  ⟨h.m.below hb, (hb.block _ (Array.getElem?_eq_some_iff.1 h.o).1).trans h.o, h.b.trans (hb.mono h.b.size)⟩
theorem StepsE.drew {w wA : World} {r : RM} (h : StepsE w wA r) : StepsE w wA.drew r := ⟨⟨h.m.blk, h.m.len⟩, h.o, h.b.drew⟩
end Go.Proofs.Ytpdaenpcgcjmjaa
