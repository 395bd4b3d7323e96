/- alive, short of the laws of layer 1. -/
import Derived.Test.YtblbjmjoiaiimaaDoorLePut
namespace Go.Proofs.YtblbjmjoiaiimaaDoor
open Go.RowKit
set_option linter.unusedVariables false

theorem putL_258 : putL 258 2 = [2, 1] := by decide
theorem leAlive (w : World) : Calls Tryd.prog 9 #[] w fun e w' => e = .returned (.bool true) ∧ Below w.heap.size w w' := by
  have h := fun (u : World) => lePut_ok 258 2 u (by decide) (by omega) (by omega)
  rw [putL_258] at h
  have H : Hid (∀ u : World, Calls Tryd.prog 12 #[.int .u64 258, .int .i64 2] u fun e w' => e = .returned (.tuple #[.string ⟨[2, 1].toArray⟩, .int .i64 0]) ∧ Below u.heap.size u w') := h
  clear h
  go_enter Tryd.func9, Tryd.ntmps9
  go_wp2_with fail
  refine (H.out _).mono ?_
  rintro e w' ⟨rfl, hb⟩
  go_wp2
  go_ret
  exact ⟨rfl, hb⟩
end Go.Proofs.YtblbjmjoiaiimaaDoor
