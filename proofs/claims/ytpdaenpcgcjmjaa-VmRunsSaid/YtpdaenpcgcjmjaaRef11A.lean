/- What the reference's machine does with numbers. -/
import Derived.Test.YtpdaenpcgcjmjaaRef11
namespace Go.Proofs.Ytpdaenpcgcjmjaa
open Go.RowKit
set_option linter.unusedVariables false
theorem shl_ref (a v : Nat) (ha : a ≤ 4294967295) : (IntKind.u64.wrap ((a : Int) * 2 ^ (v % 32))).tmod 4294967296 % 4294967296 = ((a * 2 ^ (v % 32) % 4294967296 : Nat) : Int) := by
  have hp : (2 : Nat) ^ (v % 32) ≤ 2 ^ 31 := Nat.pow_le_pow_right (by omega) (by omega)
  have e : (a : Int) * 2 ^ (v % 32) = ((a * 2 ^ (v % 32) : Nat) : Int) := by rw [Int.natCast_mul, Int.natCast_pow]; rfl
  have hm : a * 2 ^ (v % 32) ≤ 4294967295 * 2 ^ 31 := Nat.mul_le_mul ha hp
  rw [e]
  generalize a * 2 ^ (v % 32) = q at *
  rw [IntWalk.u64_in _ ⟨by omega, by omega⟩, Int.tmod_eq_emod_of_nonneg (by omega)]
  omega
theorem g69 (a v : Nat) (ha : a ≤ 4294967295) (hv : v ≤ 4294967295) : decide (0 < bits BinOp.and IntKind.u32 (a : Int) (v : Int)) = jumpB 69 a v := by
  rw [u32_and_nat a v (by omega) (by omega)]
  show _ = decide (a &&& v ≠ 0)
  generalize a &&& v = q
  by_cases h : q = 0
  · subst h; rfl
  · rw [decide_eq_true h, decide_eq_true (by omega)]

set_option maxRecDepth 100000 in
theorem ref_two4 (a v : Nat) (w : World) (ha : a ≤ 4294967295) (hv : v ≤ 4294967295) :
    Calls Try.prog 27 #[.int .i64 0, .int .u32 (a : Int), .int .u32 (v : Int)] w fun e w' => e = .returned (.int .u32 ((sumV 4 a v : Nat) : Int)) ∧ w = w' := by
  have hV : sumV 4 a v = (a + v) % 4294967296 := rfl
  rw [hV]
  clear hV
  have hvI : (v : Int) ≤ 4294967295 := by omega
  have haI : (a : Int) ≤ 4294967295 := by omega
  have hE := Lib.hid (show ((a : Int) + v) % 4294967296 = (((a + v) % 4294967296 : Nat) : Int) from by omega)
  go_enter Try.func27, Try.ntmps27
  go_wp2_with fail
  go_ret
  exact ⟨by first | rfl | (rw [hE.out]; rfl) | (rw [← hE.out]; rfl) , rfl⟩

set_option maxRecDepth 100000 in
theorem ref_two20 (a v : Nat) (w : World) (ha : a ≤ 4294967295) (hv : v ≤ 4294967295) :
    Calls Try.prog 27 #[.int .i64 1, .int .u32 (a : Int), .int .u32 (v : Int)] w fun e w' => e = .returned (.int .u32 ((sumV 20 a v : Nat) : Int)) ∧ w = w' := by
  have hV : sumV 20 a v = (a + (4294967296 - v)) % 4294967296 := rfl
  rw [hV]
  clear hV
  have hvI : (v : Int) ≤ 4294967295 := by omega
  have haI : (a : Int) ≤ 4294967295 := by omega
  have hE := Lib.hid (show ((a : Int) - v) % 4294967296 = (((a + (4294967296 - v)) % 4294967296 : Nat) : Int) from by omega)
  go_enter Try.func27, Try.ntmps27
  go_wp2_with fail
  go_ret
  exact ⟨by first | rfl | (rw [hE.out]; rfl) | (rw [← hE.out]; rfl) , rfl⟩

set_option maxRecDepth 100000 in
theorem ref_two36 (a v : Nat) (w : World) (ha : a ≤ 4294967295) (hv : v ≤ 4294967295) :
    Calls Try.prog 27 #[.int .i64 2, .int .u32 (a : Int), .int .u32 (v : Int)] w fun e w' => e = .returned (.int .u32 ((sumV 36 a v : Nat) : Int)) ∧ w = w' := by
  have hV : sumV 36 a v = a * v % 4294967296 := rfl
  rw [hV]
  clear hV
  have hvI : (v : Int) ≤ 4294967295 := by omega
  have haI : (a : Int) ≤ 4294967295 := by omega
  have hE := Lib.hid (show (a : Int) * v % 4294967296 = ((a * v % 4294967296 : Nat) : Int) from e36 a v)
  go_enter Try.func27, Try.ntmps27
  go_wp2_with fail
  go_ret
  exact ⟨by first | rfl | (rw [hE.out]; rfl) | (rw [← hE.out]; rfl) , rfl⟩

set_option maxRecDepth 100000 in
theorem ref_two68 (a v : Nat) (w : World) (ha : a ≤ 4294967295) (hv : v ≤ 4294967295) :
    Calls Try.prog 27 #[.int .i64 4, .int .u32 (a : Int), .int .u32 (v : Int)] w fun e w' => e = .returned (.int .u32 ((sumV 68 a v : Nat) : Int)) ∧ w = w' := by
  have hV : sumV 68 a v = a ||| v := rfl
  rw [hV]
  clear hV
  have hvI : (v : Int) ≤ 4294967295 := by omega
  have haI : (a : Int) ≤ 4294967295 := by omega
  have hE := Lib.hid (show bits BinOp.or IntKind.u32 (a : Int) (v : Int) = ((a ||| v : Nat) : Int) from u32_or_nat a v (by omega) (by omega))
  go_enter Try.func27, Try.ntmps27
  go_wp2_with fail
  go_ret
  exact ⟨by first | rfl | (rw [hE.out]; rfl) | (rw [← hE.out]; rfl) , rfl⟩

set_option maxRecDepth 100000 in
theorem ref_two84 (a v : Nat) (w : World) (ha : a ≤ 4294967295) (hv : v ≤ 4294967295) :
    Calls Try.prog 27 #[.int .i64 5, .int .u32 (a : Int), .int .u32 (v : Int)] w fun e w' => e = .returned (.int .u32 ((sumV 84 a v : Nat) : Int)) ∧ w = w' := by
  have hV : sumV 84 a v = a &&& v := rfl
  rw [hV]
  clear hV
  have hvI : (v : Int) ≤ 4294967295 := by omega
  have haI : (a : Int) ≤ 4294967295 := by omega
  have hE := Lib.hid (show bits BinOp.and IntKind.u32 (a : Int) (v : Int) = ((a &&& v : Nat) : Int) from u32_and_nat a v (by omega) (by omega))
  go_enter Try.func27, Try.ntmps27
  go_wp2_with fail
  go_ret
  exact ⟨by first | rfl | (rw [hE.out]; rfl) | (rw [← hE.out]; rfl) , rfl⟩

set_option maxRecDepth 100000 in
theorem ref_two164 (a v : Nat) (w : World) (ha : a ≤ 4294967295) (hv : v ≤ 4294967295) :
    Calls Try.prog 27 #[.int .i64 10, .int .u32 (a : Int), .int .u32 (v : Int)] w fun e w' => e = .returned (.int .u32 ((sumV 164 a v : Nat) : Int)) ∧ w = w' := by
  have hV : sumV 164 a v = a ^^^ v := rfl
  rw [hV]
  clear hV
  have hvI : (v : Int) ≤ 4294967295 := by omega
  have haI : (a : Int) ≤ 4294967295 := by omega
  have hE := Lib.hid (show bits BinOp.xor IntKind.u32 (a : Int) (v : Int) = ((a ^^^ v : Nat) : Int) from u32_xor_nat a v (by omega) (by omega))
  go_enter Try.func27, Try.ntmps27
  go_wp2_with fail
  go_ret
  exact ⟨by first | rfl | (rw [hE.out]; rfl) | (rw [← hE.out]; rfl) , rfl⟩

set_option maxRecDepth 100000 in
theorem ref_two100 (a v : Nat) (w : World) (ha : a ≤ 4294967295) (hv : v ≤ 4294967295) :
    Calls Try.prog 27 #[.int .i64 6, .int .u32 (a : Int), .int .u32 (v : Int)] w fun e w' => e = .returned (.int .u32 ((sumV 100 a v : Nat) : Int)) ∧ w = w' := by
  have hV : sumV 100 a v = a * 2 ^ (v % 32) % 4294967296 := rfl
  rw [hV]
  clear hV
  have hvI : (v : Int) ≤ 4294967295 := by omega
  have haI : (a : Int) ≤ 4294967295 := by omega
  have hE := Lib.hid (shl_ref a v ha)
  go_enter Try.func27, Try.ntmps27
  go_wp2_with fail
  go_ret
  exact ⟨by first | rfl | (rw [hE.out]; rfl) | (rw [← hE.out]; rfl) , rfl⟩

set_option maxRecDepth 100000 in
theorem ref_two116 (a v : Nat) (w : World) (ha : a ≤ 4294967295) (hv : v ≤ 4294967295) :
    Calls Try.prog 27 #[.int .i64 7, .int .u32 (a : Int), .int .u32 (v : Int)] w fun e w' => e = .returned (.int .u32 ((sumV 116 a v : Nat) : Int)) ∧ w = w' := by
  have hV : sumV 116 a v = a / 2 ^ (v % 32) := rfl
  rw [hV]
  clear hV
  have hvI : (v : Int) ≤ 4294967295 := by omega
  have haI : (a : Int) ≤ 4294967295 := by omega
  have hE := Lib.hid (show (a : Int) / 2 ^ (v % 32) = ((a / 2 ^ (v % 32) : Nat) : Int) from e116 a v)
  go_enter Try.func27, Try.ntmps27
  go_wp2_with fail
  go_ret
  exact ⟨by first | rfl | (rw [hE.out]; rfl) | (rw [← hE.out]; rfl) , rfl⟩

set_option maxRecDepth 100000 in
theorem ref_two132 (a v : Nat) (w : World) (ha : a ≤ 4294967295) (hv : v ≤ 4294967295) :
    Calls Try.prog 27 #[.int .i64 8, .int .u32 (a : Int), .int .u32 (v : Int)] w fun e w' => e = .returned (.int .u32 ((sumV 132 a v : Nat) : Int)) ∧ w = w' := by
  have hV : sumV 132 a v = (4294967296 - a) % 4294967296 := rfl
  rw [hV]
  clear hV
  have hvI : (v : Int) ≤ 4294967295 := by omega
  have haI : (a : Int) ≤ 4294967295 := by omega
  have hE := Lib.hid (show (-(a : Int)) % 4294967296 = (((4294967296 - a) % 4294967296 : Nat) : Int) from by omega)
  go_enter Try.func27, Try.ntmps27
  go_wp2_with fail
  go_ret
  exact ⟨by first | rfl | (rw [hE.out]; rfl) | (rw [← hE.out]; rfl) , rfl⟩

set_option maxRecDepth 100000 in
theorem ref_holds21 (a v : Nat) (w : World) (ha : a ≤ 4294967295) (hv : v ≤ 4294967295) :
    Calls Try.prog 28 #[.int .i64 1, .int .u32 (a : Int), .int .u32 (v : Int)] w fun e w' => e = .returned (.bool (jumpB 21 a v)) ∧ w = w' := by
  have hvI : (v : Int) ≤ 4294967295 := by omega
  have haI : (a : Int) ≤ 4294967295 := by omega
  have hE := Lib.hid (j21 a v)
  go_enter Try.func28, Try.ntmps28
  go_wp2_with fail
  go_ret
  refine ⟨?_, rfl⟩
  rw [← hE.out]
  first | rfl | skip

set_option maxRecDepth 100000 in
theorem ref_holds37 (a v : Nat) (w : World) (ha : a ≤ 4294967295) (hv : v ≤ 4294967295) :
    Calls Try.prog 28 #[.int .i64 2, .int .u32 (a : Int), .int .u32 (v : Int)] w fun e w' => e = .returned (.bool (jumpB 37 a v)) ∧ w = w' := by
  have hvI : (v : Int) ≤ 4294967295 := by omega
  have haI : (a : Int) ≤ 4294967295 := by omega
  have hE := Lib.hid (j37 a v)
  go_enter Try.func28, Try.ntmps28
  go_wp2_with fail
  go_ret
  refine ⟨?_, rfl⟩
  rw [← hE.out]
  first | rfl | skip

set_option maxRecDepth 100000 in
theorem ref_holds53 (a v : Nat) (w : World) (ha : a ≤ 4294967295) (hv : v ≤ 4294967295) :
    Calls Try.prog 28 #[.int .i64 3, .int .u32 (a : Int), .int .u32 (v : Int)] w fun e w' => e = .returned (.bool (jumpB 53 a v)) ∧ w = w' := by
  have hvI : (v : Int) ≤ 4294967295 := by omega
  have haI : (a : Int) ≤ 4294967295 := by omega
  have hE := Lib.hid (j53 a v)
  go_enter Try.func28, Try.ntmps28
  go_wp2_with fail
  go_ret
  refine ⟨?_, rfl⟩
  rw [← hE.out]
  first | rfl | skip

set_option maxRecDepth 100000 in
theorem ref_holds69 (a v : Nat) (w : World) (ha : a ≤ 4294967295) (hv : v ≤ 4294967295) :
    Calls Try.prog 28 #[.int .i64 4, .int .u32 (a : Int), .int .u32 (v : Int)] w fun e w' => e = .returned (.bool (jumpB 69 a v)) ∧ w = w' := by
  have hvI : (v : Int) ≤ 4294967295 := by omega
  have haI : (a : Int) ≤ 4294967295 := by omega
  have hE := Lib.hid (g69 a v ha hv)
  go_enter Try.func28, Try.ntmps28
  go_wp2_with fail
  go_ret
  refine ⟨?_, rfl⟩
  rw [← hE.out]
  first | rfl | skip

theorem ref_least (v : Int) (w : World) : Calls Try.prog 29 #[.int .i64 v] w fun e w' => e = .returned (.int .i64 (max v 0)) ∧ w = w' := by
  by_cases h : v < 0
  · rw [show max v 0 = 0 by omega]
    go_enter Try.func29, Try.ntmps29
    go_wp2_with fail
    go_ret
    exact ⟨rfl, rfl⟩
  · rw [show max v 0 = v by omega]
    go_enter Try.func29, Try.ntmps29
    go_wp2_with fail
    go_ret
    exact ⟨rfl, rfl⟩
end Go.Proofs.Ytpdaenpcgcjmjaa
