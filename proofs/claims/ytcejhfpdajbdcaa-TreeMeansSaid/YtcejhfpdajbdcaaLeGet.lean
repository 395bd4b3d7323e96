/- le.Get: what it answers. -/
import Derived.Test.YtcejhfpdajbdcaaSized
namespace Go.Proofs.Ytcejhfpdajbdcaa
open Go.RowKit
set_option linter.unusedVariables false

/-- the bytes from a place on, so many -/
def cutL (s : ByteArray) (p k : Nat) : List UInt8 := (s.data.toList.drop p).take k
theorem cutL_length (s : ByteArray) (p k : Nat) (h : p + k ≤ s.size) : (cutL s p k).length = k := by
  have := ba_len s
  simp only [cutL, List.length_take, List.length_drop]; omega

/-- the number, the place behind it, the error -/
def getE (s : ByteArray) (p k : Int) : Int := if 1 ≤ k ∧ k ≤ 8 ∧ 0 ≤ p then (if p + k ≤ s.size then 0 else 3) else 1
def getN (s : ByteArray) (p k : Int) : Int := if getE s p k = 0 then (getL (cutL s p.toNat k.toNat) : Int) else 0
def getT (s : ByteArray) (p k : Int) : Int := if getE s p k = 0 then p + k else 0

set_option maxRecDepth 100000 in
theorem leGet_ok (s : ByteArray) (p k : Nat) (w : World) (hs : s.size ≤ 9223372036854775807) (hs1 : 1 ≤ k) (hs2 : k ≤ 8) (hp : p + k ≤ s.size) :
    Calls Try.prog 53 #[.string s, .int .i64 p, .int .i64 k] w fun e w' => e = .returned (.tuple #[.int .u64 (getL (cutL s p k) : Nat), .int .i64 ((p + k : Nat) : Int), .int .i64 0]) ∧ w = w' := by
  have hb1 : (1 : Int) ≤ k := by omega
  have hb8 : (k : Int) ≤ 8 := by omega
  have hz : decide (1 ≤ (k : Int) ∧ (k : Int) ≤ 8) = true := decide_eq_true ⟨hb1, hb8⟩
  go_enter Try.func53, Try.ntmps53
  go_wp2_with (first | (go_at_call 69; refine (leSized_any _ _).mono ?_; rintro e w' ⟨rfl, rfl⟩))
  go_loop [9, 25] (fun n c => ∃ j : Nat, j ≤ k ∧ c = .int .i64 j ∧ n = .int .u64 (getL (cutL s p j) : Nat)) (fun _ c => k - (intOf c).toNat)
  case atStart => exact ⟨0, by omega, rfl, by simp [cutL, getL]⟩
  case round =>
    obtain ⟨j, hj, rfl, rfl⟩ := hrel
    by_cases hlt : j < k
    · have hidx : p + j < s.size := by omega
      have hx := getL_lt (cutL s p j)
      rw [cutL_length s p j (by omega)] at hx
      have hor := or_byte (getL (cutL s p j)) j s[p + j].toNat (by omega) hx (UInt8.toNat_lt _)
      have hsn : getL (cutL s p (j + 1)) = getL (cutL s p j) + 256 ^ j * s[p + j].toNat := by
        have := getL_snoc (cutL s p j) s[p + j]
        rw [cutL_length s p j (by omega)] at this
        rw [← this]
        exact congrArg getL (take_getL s p j hidx)
      rw [← hsn] at hor
      have HO := Lib.hid hor
      clear hor hsn hx
      go_wp2
      go_round
      case rel => exact ⟨j + 1, by omega, by go_num, by rw [HO.out]⟩
      case measure => simp [intOf]; omega
    · obtain rfl : j = k := by omega
      go_wp2
      go_ret3
      exact ⟨rfl, rfl⟩

set_option maxRecDepth 100000 in
theorem leGet_short (s : ByteArray) (p k : Int) (w : World) (hs : s.size ≤ 9223372036854775807) (hs1 : 1 ≤ k) (hs2 : k ≤ 8) (h0 : 0 ≤ p) (hp : ¬ p + k ≤ s.size) (hp2 : p ≤ 9223372036854775807) :
    Calls Try.prog 53 #[.string s, .int .i64 p, .int .i64 k] w fun e w' => e = .returned (.tuple #[.int .u64 0, .int .i64 0, .int .i64 3]) ∧ w = w' := by
  have hz : decide (1 ≤ k ∧ k ≤ 8) = true := decide_eq_true ⟨hs1, hs2⟩
  go_enter Try.func53, Try.ntmps53
  go_wp2_with (first | (go_at_call 69; refine (leSized_any _ _).mono ?_; rintro e w' ⟨rfl, rfl⟩))
  go_ret3
  exact ⟨rfl, rfl⟩

set_option maxRecDepth 100000 in
theorem leGet_bad (s : ByteArray) (p k : Int) (w : World) (h : ¬ (1 ≤ k ∧ k ≤ 8 ∧ 0 ≤ p)) :
    Calls Try.prog 53 #[.string s, .int .i64 p, .int .i64 k] w fun e w' => e = .returned (.tuple #[.int .u64 0, .int .i64 0, .int .i64 1]) ∧ w = w' := by
  by_cases hk : 1 ≤ k ∧ k ≤ 8
  · have hz : decide (1 ≤ k ∧ k ≤ 8) = true := decide_eq_true hk
    have hp : p < 0 := by omega
    clear hk h
    go_enter Try.func53, Try.ntmps53
    go_wp2_with (first | (go_at_call 69; refine (leSized_any _ _).mono ?_; rintro e w' ⟨rfl, rfl⟩))
    go_ret3
    exact ⟨rfl, rfl⟩
  · have hz : decide (1 ≤ k ∧ k ≤ 8) = false := decide_eq_false hk
    clear hk h
    go_enter Try.func53, Try.ntmps53
    go_wp2_with (first | (go_at_call 69; refine (leSized_any _ _).mono ?_; rintro e w' ⟨rfl, rfl⟩))
    go_ret3
    exact ⟨rfl, rfl⟩

theorem leGet_any (s : ByteArray) (p k : Int) (w : World) (hs : s.size ≤ 9223372036854775807) (hp2 : p ≤ 9223372036854775807) :
    Calls Try.prog 53 #[.string s, .int .i64 p, .int .i64 k] w fun e w' => e = .returned (.tuple #[.int .u64 (getN s p k), .int .i64 (getT s p k), .int .i64 (getE s p k)]) ∧ w = w' := by
  by_cases h : 1 ≤ k ∧ k ≤ 8 ∧ 0 ≤ p
  · obtain ⟨h1, h8, h0⟩ := h
    by_cases hp : p + k ≤ s.size
    · obtain ⟨j, rfl⟩ := Int.eq_ofNat_of_zero_le (show 0 ≤ k by omega)
      obtain ⟨m, rfl⟩ := Int.eq_ofNat_of_zero_le h0
      refine (leGet_ok s m j w hs (by omega) (by omega) (by omega)).mono ?_
      rintro e w' ⟨rfl, rfl⟩
      have he : getE s m j = 0 := by simp only [getE]; rw [if_pos ⟨h1, h8, h0⟩, if_pos hp]
      exact ⟨by simp [getN, getT, he], rfl⟩
    · refine (leGet_short s p k w hs h1 h8 h0 hp hp2).mono ?_
      rintro e w' ⟨rfl, rfl⟩
      have he : getE s p k = 3 := by simp only [getE]; rw [if_pos ⟨h1, h8, h0⟩, if_neg hp]
      exact ⟨by simp [getN, getT, he], rfl⟩
  · refine (leGet_bad s p k w h).mono ?_
    rintro e w' ⟨rfl, rfl⟩
    have he : getE s p k = 1 := by simp only [getE]; rw [if_neg h]
    exact ⟨by simp [getN, getT, he], rfl⟩
end Go.Proofs.Ytcejhfpdajbdcaa
