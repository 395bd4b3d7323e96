/- Numbers in hexadecimal digits: plain. -/
import Derived.Test.YtpkpbohkdkmoiaaDoorNu1
namespace Go.Proofs.YtpkpbohkdkmoiaaDoor
open Go.RowKit
set_option linter.unusedVariables false

def hexc (d : Nat) : UInt8 := UInt8.ofNat (if d < 10 then 48 + d else 87 + d)
/-- the last digits of n, so many -/
def hexL (n : Nat) : Nat → List UInt8
  | 0 => []
  | k + 1 => hexc (n / 16 ^ k % 16) :: hexL n k
theorem hexL_len (n k : Nat) : (hexL n k).length = k := by
  induction k with
  | zero => rfl
  | succ k ih => simp [hexL, ih]
theorem hexc_ok (d : Nat) (h : d < 16) : hexB (hexc d).toNat = true ∧ hexD (hexc d).toNat = d := by
  have hc : d = 0 ∨ d = 1 ∨ d = 2 ∨ d = 3 ∨ d = 4 ∨ d = 5 ∨ d = 6 ∨ d = 7 ∨ d = 8 ∨ d = 9 ∨ d = 10 ∨ d = 11 ∨ d = 12 ∨ d = 13 ∨ d = 14 ∨ d = 15 := by omega
  rcases hc with rfl | rfl | rfl | rfl | rfl | rfl | rfl | rfl | rfl | rfl | rfl | rfl | rfl | rfl | rfl | rfl <;> exact ⟨by decide, by decide⟩
theorem hexL_all (n k : Nat) : ∀ c ∈ hexL n k, hexB c.toNat = true := by
  induction k with
  | zero => intro c hc; cases hc
  | succ k ih =>
    intro c hc
    rcases List.mem_cons.1 hc with rfl | hc
    · exact (hexc_ok _ (Nat.mod_lt _ (by decide))).1
    · exact ih c hc
theorem hexL_num (n k : Nat) : hexN (hexL n k) = n % 16 ^ k := by
  have key : ∀ k a, (hexL n k).foldl (fun n c => 16 * n + hexD c.toNat) a = a * 16 ^ k + n % 16 ^ k := by
    intro k
    induction k with
    | zero => intro a; simp [hexL, Nat.mod_one]
    | succ k ih =>
      intro a
      rw [hexL, List.foldl_cons, ih, (hexc_ok _ (Nat.mod_lt _ (by decide))).2]
      rw [Nat.pow_succ 16 k, Nat.mod_mul]
      have : (16 * a + n / 16 ^ k % 16) * 16 ^ k = a * (16 ^ k * 16) + 16 ^ k * (n / 16 ^ k % 16) := by
        rw [Nat.add_mul, Nat.mul_comm (16 ^ k) 16, ← Nat.mul_assoc a 16, Nat.mul_comm 16 a, Nat.mul_comm (n / 16 ^ k % 16)]
      omega
  have := key k 0
  unfold hexN
  omega
/-- the array behind k digits -/
def hexRow (n k : Nat) : Array Value := (List.replicate (65 - k) (Value.int .u8 0) ++ (hexL n k).map fun c => Value.int .u8 c.toNat).toArray
theorem hexRow_size (n k : Nat) (h : k ≤ 65) : (hexRow n k).size = 65 := by simp [hexRow, hexL_len]; omega
theorem set_last (m : Nat) (z v : Value) (L : List Value) : ((List.replicate (m + 1) z ++ L).set m v) = List.replicate m z ++ v :: L := by
  induction m with
  | zero => rfl
  | succ m ih => rw [List.replicate_succ, List.cons_append, List.set_cons_succ, ih, List.replicate_succ, List.cons_append]
theorem hexRow_set (n k : Nat) (h : k < 65) : (hexRow n k).setIfInBounds (64 - k) (.int .u8 (hexc (n / 16 ^ k % 16)).toNat) = hexRow n (k + 1) := by
  apply Array.toList_inj.1
  simp only [hexRow, List.setIfInBounds_toArray]
  rw [show 65 - k = (64 - k) + 1 by omega, set_last, show 65 - (k + 1) = 64 - k by omega]
  rfl
theorem hexRow_get (n k : Nat) (h : k < 65) : (hexRow n k)[64 - k]? = some (.int .u8 0) := by
  simp only [hexRow, List.getElem?_toArray]
  rw [List.getElem?_append_left (by simp; omega), List.getElem?_replicate, if_pos (by omega)]
theorem hexRow_zero (n : Nat) : hexRow n 0 = Array.replicate 65 (.int .u8 0) := by
  apply Array.toList_inj.1
  simp [hexRow, hexL]
theorem hexRow_tail (n k j : Nat) (hk : k ≤ 65) (hj : j < k) : (hexRow n k)[65 - k + j]? = some (.int .u8 ((hexL n k)[j]'(by rw [hexL_len]; exact hj)).toNat) := by
  simp only [hexRow, List.getElem?_toArray]
  rw [List.getElem?_append_right (by simp)]
  simp only [List.length_replicate, Nat.add_sub_cancel_left, List.getElem?_map]
  rw [List.getElem?_eq_getElem (by rw [hexL_len]; exact hj)]
  rfl
end Go.Proofs.YtpkpbohkdkmoiaaDoor
