/- le.sized. -/
import Derived.Test.YtcejhfpdajbdcaaGen
import Derived.Test.YtcejhfpdajbdcaaRows
namespace Go.Proofs.Ytcejhfpdajbdcaa
open Go.RowKit
set_option linter.unusedVariables false

set_option maxRecDepth 100000 in
theorem leSized_any (n : Int) (w : World) : Calls Try.prog 69 #[.int .i64 n] w fun e w' => e = .returned (.bool (decide (1 ≤ n ∧ n ≤ 8))) ∧ w = w' := by
  by_cases h1 : 1 ≤ n <;> by_cases h8 : n ≤ 8
  all_goals
    go_enter Try.func69, Try.ntmps69
    go_wp2
    go_ret
    refine ⟨?_, rfl⟩
    simp [*]
end Go.Proofs.Ytcejhfpdajbdcaa
