/- The reference of layer 18: which conditions hold. -/
import Derived.Test.YtgcngmlndijppaaHold
import Derived.BigQuiet
namespace Go.Proofs.Ytgcngmlndijppaa
open Go.RowKit Go.ChangeShapes
set_option linter.unusedVariables false

set_option maxRecDepth 100000 in
set_option maxHeartbeats 1000000 in
theorem refTest18 (ka : Option Addr) (kn kc j mask : Nat) (sign : ByteArray) (value nr arch ip a0 a1 a2 a3 a4 a5 : Nat) (hj5 : j ≤ 5) (hsg : signOk sign = true) (hmk : mask ≤ 18446744073709551615)
    (x5 : ∀ a ∈ [a0, a1, a2, a3, a4, a5], a ≤ 18446744073709551615) (w : World) :
    Calls Try.prog 43 #[.agg #[.int .i64 4, .slice ka kn kc, .int .i64 (j : Nat), .int .u64 (mask : Nat), .string sign, .int .u64 (value : Nat)], callV nr arch ip a0 a1 a2 a3 a4 a5] w fun e w' => e = .returned (.bool (signV sign ([a0, a1, a2, a3, a4, a5].getD j 0 &&& mask) value)) ∧ Below w.heap.size w w' := by
  obtain ⟨W, hW, f0, f1, hBW⟩ := two_at w (.cells #[.int .i64 4, .slice ka kn kc, .int .i64 (j : Nat), .int .u64 (mask : Nat), .string sign, .int .u64 (value : Nat)] 25) (callO nr arch ip a0 a1 a2 a3 a4 a5)
  obtain ⟨aj, haj⟩ : ∃ aj, [a0, a1, a2, a3, a4, a5].getD j 0 = aj := ⟨_, rfl⟩
  have hajle : aj ≤ 18446744073709551615 := by
    rw [← haj, List.getD_eq_getElem?_getD, List.getElem?_eq_getElem (by simp; omega)]
    exact x5 _ (List.getElem_mem _)
  have hcx : (#[Value.int .u32 (nr : Nat), .int .u32 (arch : Nat), .int .u64 (ip : Nat), .int .u64 (a0 : Nat), .int .u64 (a1 : Nat), .int .u64 (a2 : Nat), .int .u64 (a3 : Nat), .int .u64 (a4 : Nat), .int .u64 (a5 : Nat)] : Array Value)[3 + j]? = some (.int .u64 (aj : Nat)) := by
    rw [← haj]
    rcases (by omega : j = 0 ∨ j = 1 ∨ j = 2 ∨ j = 3 ∨ j = 4 ∨ j = 5) with rfl | rfl | rfl | rfl | rfl | rfl <;> rfl
  rw [haj]
  unfold callO at hW f1
  unfold callV
  have kA := below_cell (Below.refl _ W) f1 (3 + j) hcx
  have k2 := below_cell (Below.refl _ W) f0 2 rfl
  have k3 := below_cell (Below.refl _ W) f0 3 rfl
  have k4 := below_cell (Below.refl _ W) f0 4 rfl
  have k5 := below_cell (Below.refl _ W) f0 5 rfl
  have hand := and_u64n aj mask hajle hmk
  obtain ⟨am, ham⟩ : ∃ am, aj &&& mask = am := ⟨_, rfl⟩
  rw [ham] at hand ⊢
  have hjI : (j : Int) < 6 := by omega
  have HBW := Lib.hid hBW
  clear haj hajle x5 hmk ham hcx f0 f1 hBW hj5
  rcases signs6 sign hsg with ⟨rfl, hv⟩ | ⟨rfl, hv⟩ | ⟨rfl, hv⟩ | ⟨rfl, hv⟩ | ⟨rfl, hv⟩ | ⟨rfl, hv⟩
  · rw [hv]
    unfold sGe at *
    clear hv hsg
    go_enter Try.func43, Try.ntmps43
    go_upto_region 1 with fail
    rw [← hW]
    clear hW
    go_quiet (fail)
    go_wp2_with fail
    go_ret
    exact ⟨by first | (simp; done) | (simp; rw [Bool.eq_iff_iff]; simp), belowN HBW.out _⟩
  · rw [hv]
    unfold sGt at *
    clear hv hsg
    go_enter Try.func43, Try.ntmps43
    go_upto_region 1 with fail
    rw [← hW]
    clear hW
    go_quiet (fail)
    go_wp2_with fail
    go_ret
    exact ⟨by first | (simp; done) | (simp; rw [Bool.eq_iff_iff]; simp), belowN HBW.out _⟩
  · rw [hv]
    unfold sLe at *
    clear hv hsg
    go_enter Try.func43, Try.ntmps43
    go_upto_region 1 with fail
    rw [← hW]
    clear hW
    go_quiet (fail)
    go_wp2_with fail
    go_ret
    exact ⟨by first | (simp; done) | (simp; rw [Bool.eq_iff_iff]; simp), belowN HBW.out _⟩
  · rw [hv]
    unfold sLt at *
    clear hv hsg
    go_enter Try.func43, Try.ntmps43
    go_upto_region 1 with fail
    rw [← hW]
    clear hW
    go_quiet (fail)
    go_wp2_with fail
    go_ret
    exact ⟨by first | (simp; done) | (simp; rw [Bool.eq_iff_iff]; simp), belowN HBW.out _⟩
  · rw [hv]
    unfold sNe at *
    clear hv hsg
    by_cases h : am = value
    · subst h
      go_enter Try.func43, Try.ntmps43
      go_upto_region 1 with fail
      rw [← hW]
      clear hW
      go_quiet (fail)
      go_wp2_with fail
      go_ret
      exact ⟨by first | (simp; done) | (simp; rw [Bool.eq_iff_iff]; simp), belowN HBW.out _⟩
    · have hb : ((am : Int) == value) = false := by rw [beq_eq_false_iff_ne]; omega
      have HNE := Lib.hid h
      clear h
      go_enter Try.func43, Try.ntmps43
      go_upto_region 1 with fail
      rw [← hW]
      clear hW
      go_quiet (fail)
      go_wp2_with fail
      go_ret
      exact ⟨by simp [HNE.out], belowN HBW.out _⟩
  · rw [hv]
    unfold sEq at *
    clear hv hsg
    by_cases h : am = value
    · subst h
      go_enter Try.func43, Try.ntmps43
      go_upto_region 1 with fail
      rw [← hW]
      clear hW
      go_quiet (fail)
      go_wp2_with fail
      go_ret
      exact ⟨by first | (simp; done) | (simp; rw [Bool.eq_iff_iff]; simp), belowN HBW.out _⟩
    · have hb : ((am : Int) == value) = false := by rw [beq_eq_false_iff_ne]; omega
      have HNE := Lib.hid h
      clear h
      go_enter Try.func43, Try.ntmps43
      go_upto_region 1 with fail
      rw [← hW]
      clear hW
      go_quiet (fail)
      go_wp2_with fail
      go_ret
      exact ⟨by simp [HNE.out], belowN HBW.out _⟩
end Go.Proofs.Ytgcngmlndijppaa
