/- ref.Put. -/
import Derived.Test.YtblbjmjoiaiimaaRef01Bytes
namespace Go.Proofs.Ytblbjmjoiaiimaa
open Go.RowKit
set_option linter.unusedVariables false

theorem div_pow_zero (n k : Nat) : n / 256 ^ k = 0 ↔ n < 256 ^ k := by
  rw [Nat.div_eq_zero_iff]
  have := Nat.pow_pos (n := k) (show 0 < 256 by omega)
  omega

theorem refPut_any (n k : Int) (w : World) (h0 : 0 ≤ n) (h1 : n ≤ 18446744073709551615) :
    Calls Try.prog 9 #[.int .u64 n, .int .i64 k] w fun e w' => e = .returned (.tuple #[.string (putS n k), .int .i64 (putE n k)]) ∧ Below w.heap.size w w' := by
  obtain ⟨m, rfl⟩ := Int.eq_ofNat_of_zero_le h0
  by_cases hk : 1 ≤ k ∧ k ≤ 8
  · obtain ⟨j, rfl⟩ := Int.eq_ofNat_of_zero_le (show 0 ≤ k by omega)
    obtain ⟨hk1, hk8⟩ := hk
    by_cases hlt : m < 256 ^ j
    · have hp : putOk m j = true := by simp only [putOk, Int.toNat_natCast]; exact decide_eq_true ⟨hk1, hk8, hlt⟩
      have hz : m / 256 ^ j = 0 := (div_pow_zero m j).2 hlt
      have HP := Lib.hid hp; have HZ := Lib.hid hz; clear hp hz hlt
      go_enter Try.func9, Try.ntmps9
      go_wp2_with fail
      refine (refBytes_any m j _ (by omega) (by omega)).mono ?_
      rintro e w' ⟨rfl, hb⟩
      rw [HZ.out]
      go_wp2
      go_ret2
      exact ⟨by simp [putS, putE, HP.out], hb⟩
    · have hp : putOk m j = false := by simp only [putOk, Int.toNat_natCast]; exact decide_eq_false (fun h => hlt h.2.2)
      have hz : m / 256 ^ j ≠ 0 := fun h => hlt ((div_pow_zero m j).1 h)
      have hz' : (0 : Int) < ((m / 256 ^ j : Nat) : Int) := Int.ofNat_lt.2 (Nat.pos_of_ne_zero hz)
      have HP := Lib.hid hp; clear hp hz hlt
      go_enter Try.func9, Try.ntmps9
      go_wp2_with fail
      refine (refBytes_any m j _ (by omega) (by omega)).mono ?_
      rintro e w' ⟨rfl, hb⟩
      generalize hq : m / 256 ^ j = q at *
      clear hq
      go_wp2
      go_ret2
      exact ⟨by simp [putS, putE, HP.out], hb⟩
  · have hp : putOk m k = false := decide_eq_false (fun h => hk ⟨h.1, h.2.1⟩)
    have HP := Lib.hid hp; clear hp
    by_cases hk1 : k < 1
    all_goals
      first | (have hk8 : 8 < k := by omega) | skip
      clear hk
      go_enter Try.func9, Try.ntmps9
      go_wp2
      go_ret2
      exact ⟨by simp [putS, putE, HP.out], Below.refl _ _⟩
end Go.Proofs.Ytblbjmjoiaiimaa
