/- entry.Unpack: what it defers. -/
import Derived.Test.YtfpfcjgdihlieaaEnY
import Derived.Tactics
import Derived.Tactics2
import Derived.Defers
import Derived.Recover
import Derived.Laws.Pointers
namespace Go.Proofs.Ytfpfcjgdihlieaa
open Go.RowKit
set_option linter.unusedVariables false

set_option maxRecDepth 100000 in
set_option maxHeartbeats 1000000 in
theorem unpCatch (N0 N1 : Nat) (x y : Value) (w : World) (h0 : w.heap[N0]? = some (.cells #[x] 22 (0, 0))) (h1 : w.heap[N1]? = some (.cells #[y] 24 (0, 0))) (hne : N0 ≠ N1) :
    CallsD Try.prog 23 #[.pointer (some ⟨N0, 0, none⟩), .pointer (some ⟨N1, 0, none⟩)] (.panicking endP) w fun e u' w' =>
      e = .returned (.tuple #[]) ∧ u' = .panicking [{ v := .iface 47 (.agg #[]), recovered := true }] ∧ w' = ((w.alloc (.cells #[] 47)).setCell ⟨N0, 0, none⟩ (.slice none 0 0)).setCell ⟨N1, 0, none⟩ (.int .i64 4) := by
  have b0 := (heap_alloc_old w (.cells #[] 47) (lt_of_block h0)).trans h0
  have b1 := (heap_alloc_old w (.cells #[] 47) (lt_of_block h1)).trans h1
  have c0 := below_cell (Below.refl _ _) b0 0 rfl
  have c1 := below_cell (Below.refl _ _) b1 0 rfl
  have f0 := block_frozen b0 0
  have f1 := block_frozen b1 0
  have b2 := (Below.heap_setCell (w.alloc (.cells #[] 47)) ⟨N0, 0, none⟩ (.slice none 0 0) N1 (by show N1 ≠ N0; omega)).trans b1
  have c2 := below_cell (Below.refl _ _) b2 0 rfl
  have f2 := block_frozen b2 0
  clear b0 b1 b2 h0 h1
  refine callsD_of_wpS Try.func23 rfl fun c₀ cs hu => ?_
  apply wpS_seq
  apply wpS_region
  simp [wpOpsS, go_sem, recoverD, hu, Try.ntmps23, Exit.thenS, endP]
  refine wpS_of_wp ?_
  clear hu
  obtain ⟨V, hV⟩ : ∃ V : Value, (.iface 47 (.agg #[])) = V := ⟨_, rfl⟩
  change Code.wp _ _ _ { tmps := #[.pointer (some ⟨N0, 0, none⟩), .pointer (some ⟨N1, 0, none⟩), .iface 47 (.agg #[]), undef, undef, .iface 47 (.agg #[]), undef, undef, undef, undef, undef, undef, undef, undef, undef, undef], defers := [] } _
  clear hV V
  have hta : ∀ u : World, (Instr.typeAssert (.iface 47 (.agg #[])) 20 47 true).run Try.prog u = .ok (.tuple #[.agg #[], .bool true]) u := fun _ => rfl
  go_wp2_with fail
  cases c₀
  simp_all [bodyPostS, results, Try.results23]
set_option maxRecDepth 100000 in
theorem unpIdle (N0 N1 : Nat) (w : World) :
    CallsD Try.prog 23 #[.pointer (some ⟨N0, 0, none⟩), .pointer (some ⟨N1, 0, none⟩)] .returning w fun e u' w' => e = .returned (.tuple #[]) ∧ u' = .returning ∧ w' = w := by
  refine callsD_of_wpS Try.func23 rfl fun c₀ cs hu => ?_
  apply wpS_seq
  apply wpS_region
  simp [wpOpsS, go_sem, recoverD, hu, Try.ntmps23, Exit.thenS]
  refine wpS_of_wp ?_
  go_wp2_with fail
  cases c₀
  simp_all [bodyPostS, results, Try.results23]
end Go.Proofs.Ytfpfcjgdihlieaa
