/- The machine's methods that make a deed. -/
import Derived.Test.YtnlmdajoifjddaaVm3
namespace Go.Proofs.Ytnlmdajoifjddaa
open Go.RowKit
set_option linter.unusedVariables false

def Mk (w : World) (B : Nat) (D : Deed) (e : Ending) (w' : World) : Prop := (∃ f, e = .returned f ∧ IsDeed w' B f D) ∧ Below w.heap.size w w'
theorem Box.below {w w' : World} {B : Nat} {p v : Value} (h : Box w B p v) (hb : Below w.heap.size w w') : Box w' B p v := by
  obtain ⟨b, rfl, hn, hc⟩ := h
  exact ⟨b, rfl, hn, (World.cell?_of_block (a := ⟨b, 0, none⟩) (hb.block b (World.block_lt_of_cell? _ _ hc))).trans hc⟩
theorem alloc3 (w : World) (a b c : Obj) : Below w.heap.size w (((w.alloc a).alloc b).alloc c) := by
  have h0 := Below.refl w.heap.size w
  have h1 := h0.alloc h0.size a
  have h2 := h1.alloc h1.size b
  exact h2.alloc h2.size c
theorem vc_new {u : World} {x : Value} {t : TypeId} {g : Nat} (hg : g = u.heap.size) : (u.alloc (Obj.cells #[x] t)).cell? ⟨g, 0, none⟩ = some x := by
  subst hg
  exact (cell_of_row _ _ 0 _ _ _ (heap_alloc_new u _)).trans rfl
theorem vc_old {u : World} {o : Obj} {g : Nat} {x : Value} (h : u.cell? ⟨g, 0, none⟩ = some x) : (u.alloc o).cell? ⟨g, 0, none⟩ = some x :=
  (World.cell?_of_block (a := ⟨g, 0, none⟩) (Below.heap_alloc u o g (World.block_lt_of_cell? _ _ h))).trans h
theorem box3 (w : World) (B : Nat) (x y z : Value) (t u v : Nat) (hB : B < w.heap.size) :
    Box (((w.alloc (Obj.cells #[x] t)).alloc (Obj.cells #[y] u)).alloc (Obj.cells #[z] v)) B (.pointer (some ⟨w.heap.size, 0, none⟩)) x ∧
    Box (((w.alloc (Obj.cells #[x] t)).alloc (Obj.cells #[y] u)).alloc (Obj.cells #[z] v)) B (.pointer (some ⟨w.heap.size + 1, 0, none⟩)) y ∧
    Box (((w.alloc (Obj.cells #[x] t)).alloc (Obj.cells #[y] u)).alloc (Obj.cells #[z] v)) B (.pointer (some ⟨w.heap.size + 2, 0, none⟩)) z := by
  refine ⟨⟨_, rfl, by omega, ?_⟩, ⟨_, rfl, by omega, ?_⟩, ⟨_, rfl, by omega, ?_⟩⟩
  · exact vc_old (vc_old (vc_new rfl))
  · exact vc_old (vc_new (by rw [World.size_alloc]))
  · exact vc_new (by rw [World.size_alloc, World.size_alloc])
set_option maxRecDepth 100000 in
theorem vm_toA (B : Nat) (v : Nat) (w : World) (hB : B < w.heap.size) : Calls Try.prog 42 #[.pointer (some ⟨B, 0, none⟩), .int .u32 (v : Int)] w (Mk w B (.setA v)) := by
  have hb0 := Below.refl w.heap.size w
  go_enter Try.func42, Try.ntmps42
  go_wp2_with fail
  go_ret
  refine ⟨⟨_, rfl, ?_⟩, ?_⟩
  · exact ⟨_, _, rfl, ⟨_, rfl, by omega, by simp⟩, ⟨_, rfl, by omega, by unfold ptrTo; simp⟩⟩
  · exact (hb0.alloc hb0.size _).alloc (hb0.alloc hb0.size _).size _
set_option maxRecDepth 100000 in
theorem vm_toX (B : Nat) (v : Nat) (w : World) (hB : B < w.heap.size) : Calls Try.prog 52 #[.pointer (some ⟨B, 0, none⟩), .int .u32 (v : Int)] w (Mk w B (.setX v)) := by
  have hb0 := Below.refl w.heap.size w
  go_enter Try.func52, Try.ntmps52
  go_wp2_with fail
  go_ret
  refine ⟨⟨_, rfl, ?_⟩, ?_⟩
  · exact ⟨_, _, rfl, ⟨_, rfl, by omega, by simp⟩, ⟨_, rfl, by omega, by unfold ptrTo; simp⟩⟩
  · exact (hb0.alloc hb0.size _).alloc (hb0.alloc hb0.size _).size _
set_option maxRecDepth 100000 in
theorem vm_overM (B : Nat) (v : Int) (w : World) (hB : B < w.heap.size) : Calls Try.prog 44 #[.pointer (some ⟨B, 0, none⟩), .int .i64 v] w (Mk w B (.over v)) := by
  have hb0 := Below.refl w.heap.size w
  go_enter Try.func44, Try.ntmps44
  go_wp2_with fail
  go_ret
  refine ⟨⟨_, rfl, ?_⟩, ?_⟩
  · exact ⟨_, _, rfl, ⟨_, rfl, by omega, by simp⟩, ⟨_, rfl, by omega, by unfold ptrTo; simp⟩⟩
  · exact (hb0.alloc hb0.size _).alloc (hb0.alloc hb0.size _).size _
set_option maxRecDepth 100000 in
theorem vm_answered (B : Nat) (v : Nat) (w : World) (hB : B < w.heap.size) : Calls Try.prog 43 #[.pointer (some ⟨B, 0, none⟩), .int .u32 (v : Int)] w (Mk w B (.answer v)) := by
  have hb0 := Below.refl w.heap.size w
  go_enter Try.func43, Try.ntmps43
  go_wp2_with fail
  go_ret
  refine ⟨⟨_, rfl, ?_⟩, ?_⟩
  · exact ⟨_, _, rfl, ⟨_, rfl, by omega, by simp⟩, ⟨_, rfl, by omega, by unfold ptrTo; simp⟩⟩
  · exact (hb0.alloc hb0.size _).alloc (hb0.alloc hb0.size _).size _
set_option maxRecDepth 100000 in
theorem vm_onCell2 (B k : Nat) (pq : Value) (w : World) (hB : B < w.heap.size) (hq : Box w B pq (ptrTo B)) : Calls Try.prog 47 #[.pointer (some ⟨B, 0, none⟩), .int .u32 (k : Int), .func (.func 48) #[] #[pq]] w (Mk w B (.ldm k)) := by
  have hb0 := Below.refl w.heap.size w
  go_enter Try.func47, Try.ntmps47
  go_wp2_with fail
  go_ret
  refine ⟨⟨_, rfl, ?_⟩, alloc3 w _ _ _⟩
  obtain ⟨b1, b2, b3⟩ := box3 w B _ _ _ _ _ _ hB
  exact ⟨_, _, _, _, rfl, b2, b3, b1, hq.below (alloc3 w _ _ _)⟩
set_option maxRecDepth 100000 in
theorem vm_onCell3 (B k : Nat) (pq : Value) (w : World) (hB : B < w.heap.size) (hq : Box w B pq (ptrTo B)) : Calls Try.prog 47 #[.pointer (some ⟨B, 0, none⟩), .int .u32 (k : Int), .func (.func 49) #[] #[pq]] w (Mk w B (.lxm k)) := by
  have hb0 := Below.refl w.heap.size w
  go_enter Try.func47, Try.ntmps47
  go_wp2_with fail
  go_ret
  refine ⟨⟨_, rfl, ?_⟩, alloc3 w _ _ _⟩
  obtain ⟨b1, b2, b3⟩ := box3 w B _ _ _ _ _ _ hB
  exact ⟨_, _, _, _, rfl, b2, b3, b1, hq.below (alloc3 w _ _ _)⟩
set_option maxRecDepth 100000 in
theorem vm_onCell4 (B k : Nat) (pq : Value) (w : World) (hB : B < w.heap.size) (hq : Box w B pq (ptrTo B)) : Calls Try.prog 47 #[.pointer (some ⟨B, 0, none⟩), .int .u32 (k : Int), .func (.func 50) #[] #[pq]] w (Mk w B (.st k)) := by
  have hb0 := Below.refl w.heap.size w
  go_enter Try.func47, Try.ntmps47
  go_wp2_with fail
  go_ret
  refine ⟨⟨_, rfl, ?_⟩, alloc3 w _ _ _⟩
  obtain ⟨b1, b2, b3⟩ := box3 w B _ _ _ _ _ _ hB
  exact ⟨_, _, _, _, rfl, b2, b3, b1, hq.below (alloc3 w _ _ _)⟩
set_option maxRecDepth 100000 in
theorem vm_onCell5 (B k : Nat) (pq : Value) (w : World) (hB : B < w.heap.size) (hq : Box w B pq (ptrTo B)) : Calls Try.prog 47 #[.pointer (some ⟨B, 0, none⟩), .int .u32 (k : Int), .func (.func 51) #[] #[pq]] w (Mk w B (.stx k)) := by
  have hb0 := Below.refl w.heap.size w
  go_enter Try.func47, Try.ntmps47
  go_wp2_with fail
  go_ret
  refine ⟨⟨_, rfl, ?_⟩, alloc3 w _ _ _⟩
  obtain ⟨b1, b2, b3⟩ := box3 w B _ _ _ _ _ _ hB
  exact ⟨_, _, _, _, rfl, b2, b3, b1, hq.below (alloc3 w _ _ _)⟩
end Go.Proofs.Ytnlmdajoifjddaa
