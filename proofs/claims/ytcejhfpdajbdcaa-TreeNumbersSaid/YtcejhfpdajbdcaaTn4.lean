/- How deep a tree may be. -/
import Derived.Test.YtcejhfpdajbdcaaSr10
namespace Go.Proofs.Ytcejhfpdajbdcaa
open Go.RowKit Go.Sort
set_option linter.unusedVariables false
set_option linter.unusedSimpArgs false

def deepN (n : Int) : Nat := if n < 1 then 0 else bitsLen (n - 1).toNat + 1
set_option maxRecDepth 100000 in
theorem tmDeep (n : Int) (w : World) (hn : -9223372036854775808 ≤ n ∧ n ≤ 9223372036854775807) :
    Calls Try.prog 11 #[.int .i64 n] w fun e w' => e = .returned (.int .i64 (deepN n : Nat)) ∧ w' = w := by
  obtain ⟨hn1, hn2⟩ := hn
  by_cases h1 : n < 1
  · have hd : deepN n = 0 := by unfold deepN; rw [if_pos h1]
    rw [hd]
    clear hd
    go_enter Try.func11, Try.ntmps11
    go_wp2_with fail
    first
    | (go_ret; exact ⟨rfl, rfl⟩)
    | (refine bodyPost_ret (results_tmp rfl _ _ _) rfl ?_; exact ⟨rfl, rfl⟩)
  · have hd : deepN n = bitsLen (n - 1).toNat + 1 := by unfold deepN; rw [if_neg h1]
    rw [hd]
    obtain ⟨N, hN⟩ : ∃ N : Nat, n = (N : Int) + 1 := ⟨(n - 1).toNat, by omega⟩
    subst hN
    have hN1 : (N : Int) ≤ 9223372036854775806 := by omega
    have hLen : ∀ w, Calls Try.prog 23 #[.int .u64 (N : Int)] w fun e w' => e = .returned (.int .i64 (bitsLen N : Nat)) ∧ w' = w := fun w => by
      have h := Try.bits_Len (N : Int) w (by omega) (by omega)
      rwa [Int.toNat_natCast, bitLen_eq _ (by omega)] at h
    rw [show ((N : Int) + 1 - 1).toNat = N by omega]
    have hl : bitsLen N ≤ 63 := (bitsLen_le_iff N 63).2 (by omega)
    generalize bitsLen N = K at *
    have hs : (N : Int) + 1 - 1 = (N : Nat) := by omega
    have hkI : (K : Int) ≤ 63 := by omega
    clear hd
    go_enter Try.func11, Try.ntmps11
    go_wp2_with (first | (go_at_call 23; refine (hLen _).mono ?_; rintro e w' ⟨rfl, rfl⟩))
    go_ret
    exact ⟨by first | rfl | simp, rfl⟩
set_option maxRecDepth 100000 in
set_option maxHeartbeats 1000000 in
theorem refDeep (n : Int) (w : World) (hn : -9223372036854775808 ≤ n ∧ n ≤ 9223372036854775807) :
    Calls Try.prog 12 #[.int .i64 n] w fun e w' => e = .returned (.int .i64 (deepN n : Nat)) ∧ w' = w := by
  obtain ⟨hn1, hn2⟩ := hn
  by_cases h1 : n < 1
  · have hd : deepN n = 0 := by unfold deepN; rw [if_pos h1]
    rw [hd]
    clear hd
    go_enter Try.func12, Try.ntmps12
    go_wp2_with fail
    first
    | (go_ret; exact ⟨rfl, rfl⟩)
    | (refine bodyPost_ret (results_tmp rfl _ _ _) rfl ?_; exact ⟨rfl, rfl⟩)
  · have hd : deepN n = bitsLen (n - 1).toNat + 1 := by unfold deepN; rw [if_neg h1]
    rw [hd]
    obtain ⟨N, hN⟩ : ∃ N : Nat, n = (N : Nat) := ⟨n.toNat, by omega⟩
    subst hN
    have hN1 : (N : Int) ≤ 9223372036854775807 := by omega
    have hl : bitsLen ((N : Int) - 1).toNat ≤ 63 := (bitsLen_le_iff _ 63).2 (by omega)
    have hle := fun j => bitsLen_le_iff ((N : Int) - 1).toNat j
    generalize bitsLen ((N : Int) - 1).toNat = K at *
    have HLE := Lib.hid hle; have HL := Lib.hid hl
    clear hd hle hl
    go_enter Try.func12, Try.ntmps12
    go_wp2_with fail
    go_loopw [3, 4] (fun z3 z4 wr => ∃ (j P : Nat), z3 = .int .i64 (j : Nat) ∧ z4 = .int .u64 (P : Nat) ∧ j ≤ K ∧ Hid (P = 2 ^ j) ∧ wr = w) (fun z _ _ => K - (intOf z).toNat)
    case atStart => exact ⟨0, 1, rfl, rfl, by omega, Lib.hid rfl, rfl⟩
    case round =>
      obtain ⟨j, P, rfl, rfl, hj, HP, rfl⟩ := hrel
      have hj63 : (j : Int) ≤ 63 := by have := HL.out; omega
      by_cases hlt : j < K
      · have hPN : P < N := by
          have := HLE.out j
          rw [← HP.out] at this
          by_cases h : ((N : Int) - 1).toNat < P
          · exact absurd (this.2 h) (by omega)
          · omega
        have hP62 : P ≤ 4611686018427387904 := by
          rw [HP.out]
          exact Nat.le_trans (Nat.pow_le_pow_right (by decide) (show j ≤ 62 by have := HL.out; omega)) (by decide)
        have hPI : (P : Int) < N := by omega
        have hP62I : (P : Int) ≤ 4611686018427387904 := by omega
        have HLT := Lib.hid hlt
        clear hPN hP62 hlt
        go_wp2_with fail
        go_roundw
        case rel => exact ⟨j + 1, 2 * P, by go_num, by go_num, by have := HLT.out; omega, Lib.hid (by rw [HP.out, Nat.pow_succ, Nat.mul_comm]), by first | trivial | rfl⟩
        case measure => have := HLT.out; simp [intOf]; omega
      · obtain rfl : j = K := by omega
        have hPN : ¬ (P : Int) < N := by
          have := (HLE.out j).1 (Nat.le_refl _)
          rw [← HP.out] at this
          omega
        clear hlt
        go_wp2_with fail
        first
        | (go_ret; exact ⟨by first | rfl | simp, rfl⟩)
        | (refine bodyPost_ret (results_tmp rfl _ _ _) rfl ?_; exact ⟨by first | rfl | simp, rfl⟩)
end Go.Proofs.Ytcejhfpdajbdcaa
