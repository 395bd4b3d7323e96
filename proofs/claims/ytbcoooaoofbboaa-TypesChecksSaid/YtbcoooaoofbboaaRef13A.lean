/- The reference's actions. -/
import Derived.Test.YtbcoooaoofbboaaCallAction
namespace Go.Proofs.Ytbcoooaoofbboaa
open Go.RowKit
set_option linter.unusedVariables false

set_option maxHeartbeats 1000000 in
set_option maxRecDepth 100000 in
theorem refAction_any (s : ByteArray) (d : Int) (w : World) (h0 : 0 ≤ d) (h1 : d ≤ 18446744073709551615) :
    Calls Try.prog 27 #[.string s, .int .u64 d] w fun e w' => e = .returned (.tuple #[.int .u32 (((actRes s d).getD 0 : Nat) : Int), .bool (actRes s d).isSome]) ∧ w = w' := by
  obtain ⟨d, rfl⟩ := Int.eq_ofNat_of_zero_le h0
  by_cases hs : s = ⟨#[107, 105, 108, 108]⟩
  · subst hs
    have hr : actRes ⟨#[107, 105, 108, 108]⟩ (d : Nat) = if ((d : Nat) : Int) ≤ ((0 : Nat) : Int) then some (2147483648 + ((d : Nat) : Int).toNat) else none := by unfold actRes; rw [show actOf ⟨#[107, 105, 108, 108]⟩ = some (2147483648, 0) from by decide +kernel]
    have HR := Lib.hid hr
    clear hr
    by_cases hd : (d : Int) ≤ 0
    · obtain rfl : d = 0 := by omega
      go_enter Try.func27, Try.ntmps27
      go_wp2_with fail
      go_ret2
      exact ⟨by rw [HR.out, if_pos (by omega)]; rfl, rfl⟩
    · have hd0 : (0 : Int) < d := by omega
      clear hd
      go_enter Try.func27, Try.ntmps27
      go_wp2_with fail
      go_ret2
      exact ⟨by rw [HR.out, if_neg (by omega)]; rfl, rfl⟩
  have b_kill : (s.toList == [107, 105, 108, 108]) = false := by rw [ByteArray.toList_eq, beq_eq_false_iff_ne]; exact fun e => hs (ba_ext e)
  have c_kill : (s.toList != [107, 105, 108, 108]) = true := by rw [bne, b_kill]; rfl
  have H_kill := Lib.hid hs
  clear hs
  by_cases hs : s = ⟨#[107, 105, 108, 108, 95, 116, 104, 114, 101, 97, 100]⟩
  · subst hs
    have hr : actRes ⟨#[107, 105, 108, 108, 95, 116, 104, 114, 101, 97, 100]⟩ (d : Nat) = if ((d : Nat) : Int) ≤ ((0 : Nat) : Int) then some (0 + ((d : Nat) : Int).toNat) else none := by unfold actRes; rw [show actOf ⟨#[107, 105, 108, 108, 95, 116, 104, 114, 101, 97, 100]⟩ = some (0, 0) from by decide +kernel]
    have HR := Lib.hid hr
    clear hr
    by_cases hd : (d : Int) ≤ 0
    · obtain rfl : d = 0 := by omega
      go_enter Try.func27, Try.ntmps27
      go_wp2_with fail
      go_ret2
      exact ⟨by rw [HR.out, if_pos (by omega)]; rfl, rfl⟩
    · have hd0 : (0 : Int) < d := by omega
      clear hd
      go_enter Try.func27, Try.ntmps27
      go_wp2_with fail
      go_ret2
      exact ⟨by rw [HR.out, if_neg (by omega)]; rfl, rfl⟩
  have b_kill_thread : (s.toList == [107, 105, 108, 108, 95, 116, 104, 114, 101, 97, 100]) = false := by rw [ByteArray.toList_eq, beq_eq_false_iff_ne]; exact fun e => hs (ba_ext e)
  have c_kill_thread : (s.toList != [107, 105, 108, 108, 95, 116, 104, 114, 101, 97, 100]) = true := by rw [bne, b_kill_thread]; rfl
  have H_kill_thread := Lib.hid hs
  clear hs
  by_cases hs : s = ⟨#[108, 111, 103]⟩
  · subst hs
    have hr : actRes ⟨#[108, 111, 103]⟩ (d : Nat) = if ((d : Nat) : Int) ≤ ((0 : Nat) : Int) then some (2147221504 + ((d : Nat) : Int).toNat) else none := by unfold actRes; rw [show actOf ⟨#[108, 111, 103]⟩ = some (2147221504, 0) from by decide +kernel]
    have HR := Lib.hid hr
    clear hr
    by_cases hd : (d : Int) ≤ 0
    · obtain rfl : d = 0 := by omega
      go_enter Try.func27, Try.ntmps27
      go_wp2_with fail
      go_ret2
      exact ⟨by rw [HR.out, if_pos (by omega)]; rfl, rfl⟩
    · have hd0 : (0 : Int) < d := by omega
      clear hd
      go_enter Try.func27, Try.ntmps27
      go_wp2_with fail
      go_ret2
      exact ⟨by rw [HR.out, if_neg (by omega)]; rfl, rfl⟩
  have b_log : (s.toList == [108, 111, 103]) = false := by rw [ByteArray.toList_eq, beq_eq_false_iff_ne]; exact fun e => hs (ba_ext e)
  have c_log : (s.toList != [108, 111, 103]) = true := by rw [bne, b_log]; rfl
  have H_log := Lib.hid hs
  clear hs
  by_cases hs : s = ⟨#[97, 108, 108, 111, 119]⟩
  · subst hs
    have hr : actRes ⟨#[97, 108, 108, 111, 119]⟩ (d : Nat) = if ((d : Nat) : Int) ≤ ((0 : Nat) : Int) then some (2147418112 + ((d : Nat) : Int).toNat) else none := by unfold actRes; rw [show actOf ⟨#[97, 108, 108, 111, 119]⟩ = some (2147418112, 0) from by decide +kernel]
    have HR := Lib.hid hr
    clear hr
    by_cases hd : (d : Int) ≤ 0
    · obtain rfl : d = 0 := by omega
      go_enter Try.func27, Try.ntmps27
      go_wp2_with fail
      go_ret2
      exact ⟨by rw [HR.out, if_pos (by omega)]; rfl, rfl⟩
    · have hd0 : (0 : Int) < d := by omega
      clear hd
      go_enter Try.func27, Try.ntmps27
      go_wp2_with fail
      go_ret2
      exact ⟨by rw [HR.out, if_neg (by omega)]; rfl, rfl⟩
  have b_allow : (s.toList == [97, 108, 108, 111, 119]) = false := by rw [ByteArray.toList_eq, beq_eq_false_iff_ne]; exact fun e => hs (ba_ext e)
  have c_allow : (s.toList != [97, 108, 108, 111, 119]) = true := by rw [bne, b_allow]; rfl
  have H_allow := Lib.hid hs
  clear hs
  by_cases hs : s = ⟨#[101, 114, 114, 110, 111]⟩
  · subst hs
    have hr : actRes ⟨#[101, 114, 114, 110, 111]⟩ (d : Nat) = if ((d : Nat) : Int) ≤ ((4095 : Nat) : Int) then some (327680 + ((d : Nat) : Int).toNat) else none := by unfold actRes; rw [show actOf ⟨#[101, 114, 114, 110, 111]⟩ = some (327680, 4095) from by decide +kernel]
    have HR := Lib.hid hr
    clear hr
    by_cases hd : (d : Int) ≤ 4095
    · have e : ((327680 : Int) + (d : Int)) = ((327680 + d : Nat) : Int) := by omega
      have HE := Lib.hid e
      clear e
      by_cases hd0 : (0 : Int) < d
      all_goals
        go_enter Try.func27, Try.ntmps27
        go_wp2_with fail
        go_ret2
        refine ⟨?_, rfl⟩
        rw [HR.out, if_pos (by omega), Option.getD_some, Option.isSome_some, Int.toNat_natCast, ← HE.out]
        rfl
    · have hd0 : (0 : Int) < d := by omega
      go_enter Try.func27, Try.ntmps27
      go_wp2_with fail
      go_ret2
      exact ⟨by rw [HR.out, if_neg (by omega)]; rfl, rfl⟩
  have b_errno : (s.toList == [101, 114, 114, 110, 111]) = false := by rw [ByteArray.toList_eq, beq_eq_false_iff_ne]; exact fun e => hs (ba_ext e)
  have c_errno : (s.toList != [101, 114, 114, 110, 111]) = true := by rw [bne, b_errno]; rfl
  have H_errno := Lib.hid hs
  clear hs
  by_cases hs : s = ⟨#[116, 114, 97, 112]⟩
  · subst hs
    have hr : actRes ⟨#[116, 114, 97, 112]⟩ (d : Nat) = if ((d : Nat) : Int) ≤ ((65535 : Nat) : Int) then some (196608 + ((d : Nat) : Int).toNat) else none := by unfold actRes; rw [show actOf ⟨#[116, 114, 97, 112]⟩ = some (196608, 65535) from by decide +kernel]
    have HR := Lib.hid hr
    clear hr
    by_cases hd : (d : Int) ≤ 65535
    · have e : ((196608 : Int) + (d : Int)) = ((196608 + d : Nat) : Int) := by omega
      have HE := Lib.hid e
      clear e
      by_cases hd0 : (0 : Int) < d
      all_goals
        go_enter Try.func27, Try.ntmps27
        go_wp2_with fail
        go_ret2
        refine ⟨?_, rfl⟩
        rw [HR.out, if_pos (by omega), Option.getD_some, Option.isSome_some, Int.toNat_natCast, ← HE.out]
        rfl
    · have hd0 : (0 : Int) < d := by omega
      go_enter Try.func27, Try.ntmps27
      go_wp2_with fail
      go_ret2
      exact ⟨by rw [HR.out, if_neg (by omega)]; rfl, rfl⟩
  have b_trap : (s.toList == [116, 114, 97, 112]) = false := by rw [ByteArray.toList_eq, beq_eq_false_iff_ne]; exact fun e => hs (ba_ext e)
  have c_trap : (s.toList != [116, 114, 97, 112]) = true := by rw [bne, b_trap]; rfl
  have H_trap := Lib.hid hs
  clear hs
  by_cases hs : s = ⟨#[116, 114, 97, 99, 101]⟩
  · subst hs
    have hr : actRes ⟨#[116, 114, 97, 99, 101]⟩ (d : Nat) = if ((d : Nat) : Int) ≤ ((65535 : Nat) : Int) then some (2146435072 + ((d : Nat) : Int).toNat) else none := by unfold actRes; rw [show actOf ⟨#[116, 114, 97, 99, 101]⟩ = some (2146435072, 65535) from by decide +kernel]
    have HR := Lib.hid hr
    clear hr
    by_cases hd : (d : Int) ≤ 65535
    · have e : ((2146435072 : Int) + (d : Int)) = ((2146435072 + d : Nat) : Int) := by omega
      have HE := Lib.hid e
      clear e
      by_cases hd0 : (0 : Int) < d
      all_goals
        go_enter Try.func27, Try.ntmps27
        go_wp2_with fail
        go_ret2
        refine ⟨?_, rfl⟩
        rw [HR.out, if_pos (by omega), Option.getD_some, Option.isSome_some, Int.toNat_natCast, ← HE.out]
        rfl
    · have hd0 : (0 : Int) < d := by omega
      go_enter Try.func27, Try.ntmps27
      go_wp2_with fail
      go_ret2
      exact ⟨by rw [HR.out, if_neg (by omega)]; rfl, rfl⟩
  have b_trace : (s.toList == [116, 114, 97, 99, 101]) = false := by rw [ByteArray.toList_eq, beq_eq_false_iff_ne]; exact fun e => hs (ba_ext e)
  have c_trace : (s.toList != [116, 114, 97, 99, 101]) = true := by rw [bne, b_trace]; rfl
  have H_trace := Lib.hid hs
  clear hs
  have hr : actRes s (d : Nat) = none := by
    unfold actRes actOf
    rw [if_neg H_trace.out, if_neg H_trap.out, if_neg H_errno.out, if_neg H_allow.out, if_neg H_log.out, if_neg H_kill_thread.out, if_neg H_kill.out]
  have HR := Lib.hid hr
  clear hr
  by_cases hd0 : (0 : Int) < d
  all_goals
    go_enter Try.func27, Try.ntmps27
    go_wp2_with fail
    go_ret2
    exact ⟨by rw [HR.out]; rfl, rfl⟩
end Go.Proofs.Ytbcoooaoofbboaa
