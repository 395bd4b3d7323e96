/- types.Tests. -/
import Derived.Test.YtbcoooaoofbboaaCnd5
namespace Go.Proofs.Ytbcoooaoofbboaa
open Go.RowKit Go.ChangeShapes Go.Deep
set_option linter.unusedVariables false

set_option maxRecDepth 100000 in
theorem tyTests_any (c : Cnd) (v : Value) (w : World) (h : IsCnd w v c) : Calls Try.prog 11 #[v] w fun e w' => e = .returned (.int .i64 (c.testN : Nat)) ∧ Below w.heap.size w w' := by
  obtain ⟨hb, k, rfl, hk⟩ := id h
  have hw1 := (Below.refl w.heap.size w).alloc (Nat.le_refl _) (.cells #[.int .i64 c.kind, k, .int .i64 c.arg, .int .u64 (c.mask : Nat), .string c.sign, .int .u64 (c.value : Nat)] 25)
  have hC := tyCount_any c _ _ (h.below hw1)
  have HC := Lib.hid hC; have HW1 := Lib.hid hw1
  obtain ⟨ka, kn, kc, rfl, _⟩ := hk
  clear hC hw1 h hb
  show Calls _ _ #[.agg #[.int .i64 c.kind, .slice ka kn kc, .int .i64 c.arg, .int .u64 (c.mask : Nat), .string c.sign, .int .u64 (c.value : Nat)]] _ _
  go_enter Try.func11, Try.ntmps11
  go_wp2_with fail
  refine HC.out.mono ?_
  rintro e w2 ⟨rfl, hb2⟩
  have HW2 := Lib.hid (HW1.out.trans (hb2.mono HW1.out.size))
  clear hb2
  go_wp2_with fail
  go_ret
  exact ⟨rfl, HW2.out⟩
end Go.Proofs.Ytbcoooaoofbboaa
