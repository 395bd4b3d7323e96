/- The walks of layer 18 are alive. -/
import Derived.Test.YtgcngmlndijppaaMean5
namespace Go.Proofs.Ytgcngmlndijppaa
open Go.RowKit Go.ChangeShapes
set_option linter.unusedVariables false

set_option maxRecDepth 100000 in
set_option maxHeartbeats 1000000 in
theorem evalNil (w : World) : Calls Try.prog 16 #[.agg #[.int .u32 5, .int .u32 7, .slice none 0 0], .agg #[.int .u32 0, .int .u32 5, .int .u64 0, .int .u64 0, .int .u64 0, .int .u64 0, .int .u64 0, .int .u64 0, .int .u64 0]] w fun e w' => e = .returned (.int .u32 7) ∧ Below w.heap.size w w' := by
  obtain ⟨W, hW, f0, f1, hBW⟩ := two_at w (.cells #[.int .u32 5, .int .u32 7, .slice none 0 0] 35) (.cells #[.int .u32 0, .int .u32 5, .int .u64 0, .int .u64 0, .int .u64 0, .int .u64 0, .int .u64 0, .int .u64 0, .int .u64 0] 29)
  have t0 := below_cell (Below.refl _ W) f0 0 rfl
  have t1 := below_cell (Below.refl _ W) f0 1 rfl
  have t2 := below_cell (Below.refl _ W) f0 2 rfl
  have c1 := below_cell (Below.refl _ W) f1 1 rfl
  have HBW := Lib.hid hBW
  clear hBW f0 f1
  go_enter Try.func16, Try.ntmps16
  go_upto_region 1 with fail
  rw [← hW]
  clear hW
  go_wp2_with fail
  refine wp_loop_once ?_
  go_wp2_with fail
  go_ret
  exact ⟨rfl, HBW.out⟩
theorem isNil (w : World) : IsCnd w (cndV (.mk 0 [] 0 0 ⟨#[]⟩ 0) (.slice none 0 0)) (.mk 0 [] 0 0 ⟨#[]⟩ 0) :=
  ⟨by unfold Cnd.bounded; decide, .slice none 0 0, rfl, none, 0, 0, rfl, rfl, Nat.le_refl _, by omega, fun _ => rfl, .inl rfl⟩
theorem doesNil (w : World) : Calls Try.prog 11 #[.agg #[.int .i64 0, .slice none 0 0, .int .i64 0, .int .u64 0, .string ⟨#[]⟩, .int .u64 0], .agg #[.int .u32 0, .int .u32 0, .int .u64 0, .int .u64 0, .int .u64 0, .int .u64 0, .int .u64 0, .int .u64 0, .int .u64 0]] w fun e w' => e = .returned (.bool true) ∧ Below w.heap.size w w' :=
  mnDoes (.mk 0 [] 0 0 ⟨#[]⟩ 0) _ w ⟨0, 0, 0, [0, 0, 0, 0, 0, 0]⟩ ⟨by decide, by decide, by decide, rfl, by decide⟩ (isNil w)
set_option maxRecDepth 100000 in
theorem mnAlive (w : World) : Calls Try.prog 10 #[] w fun e w' => e = .returned (.bool true) ∧ Below w.heap.size w w' := by
  have HE := Lib.hid (fun u => evalNil u)
  have HD := Lib.hid (fun u => doesNil u)
  go_enter Try.func10, Try.ntmps10
  go_wp2_with fail
  refine (HE.out _).mono ?_
  rintro e w2 ⟨rfl, hb2⟩
  have H2 := Lib.hid hb2
  clear hb2
  go_wp2_with fail
  refine (HD.out _).mono ?_
  rintro e w3 ⟨rfl, hb3⟩
  have H3 := Lib.hid (H2.out.trans (hb3.mono H2.out.size))
  clear hb3
  go_wp2_with fail
  go_ret
  exact ⟨rfl, H3.out⟩
end Go.Proofs.Ytgcngmlndijppaa
