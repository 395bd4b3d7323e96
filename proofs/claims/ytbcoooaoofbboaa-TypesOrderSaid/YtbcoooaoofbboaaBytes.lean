/- Plain facts on numbers as bytes: no program. -/
import Derived.WalkKit
import Derived.WalkSpells
import Derived.WalkLawsBesides
namespace Go.Proofs.Ytbcoooaoofbboaa
set_option linter.unusedVariables false

/-- n's bytes, the lowest one first, so many. -/
def putL (n : Nat) : Nat → List UInt8
  | 0 => []
  | k + 1 => UInt8.ofNat (n % 256) :: putL (n / 256) k
/-- the number that bytes make -/
def getL : List UInt8 → Nat
  | [] => 0
  | b :: r => b.toNat + 256 * getL r

theorem putL_length (n k : Nat) : (putL n k).length = k := by
  induction k generalizing n with
  | zero => rfl
  | succ k ih => simp [putL, ih]
theorem u8_mod (n : Nat) : (UInt8.ofNat (n % 256)).toNat = n % 256 := by
  rw [UInt8.toNat_ofNat']; omega
theorem putL_append (n a b : Nat) : putL n (a + b) = putL n a ++ putL (n / 256 ^ a) b := by
  induction a generalizing n with
  | zero => simp [putL]
  | succ a ih =>
    rw [show a + 1 + b = (a + b) + 1 from by omega]
    simp only [putL, List.cons_append]
    rw [ih, Nat.div_div_eq_div_mul, Nat.pow_succ, Nat.mul_comm 256]
theorem putL_snoc (n k : Nat) : putL n (k + 1) = putL n k ++ [UInt8.ofNat (n / 256 ^ k % 256)] := by
  rw [putL_append]; rfl
theorem getL_putL (n k : Nat) : getL (putL n k) = n % 256 ^ k := by
  induction k generalizing n with
  | zero => simp [putL, getL, Nat.mod_one]
  | succ k ih =>
    simp only [putL, getL, u8_mod, ih]
    rw [Nat.pow_succ, Nat.mul_comm (256 ^ k), Nat.mod_mul]
theorem getL_lt (l : List UInt8) : getL l < 256 ^ l.length := by
  induction l with
  | nil => simp [getL]
  | cons b r ih =>
    have hb := b.toNat_lt
    simp only [getL, List.length_cons, Nat.pow_succ]
    omega
theorem putL_getL (l : List UInt8) : putL (getL l) l.length = l := by
  induction l with
  | nil => rfl
  | cons b r ih =>
    have hb := b.toNat_lt
    simp only [getL, List.length_cons, putL]
    rw [show (b.toNat + 256 * getL r) % 256 = b.toNat from by omega, show (b.toNat + 256 * getL r) / 256 = getL r from by omega, ih]
    simp
theorem getL_append (a b : List UInt8) : getL (a ++ b) = getL a + 256 ^ a.length * getL b := by
  induction a with
  | nil => simp [getL]
  | cons x r ih =>
    simp only [List.cons_append, getL, ih, List.length_cons, Nat.pow_succ]
    rw [Nat.mul_add, Nat.mul_comm (256 ^ r.length) 256, Nat.mul_assoc]; omega
theorem getL_snoc (a : List UInt8) (x : UInt8) : getL (a ++ [x]) = getL a + 256 ^ a.length * x.toNat := by
  rw [getL_append]; simp [getL]
theorem putL_inj {n m k : Nat} (hn : n < 256 ^ k) (hm : m < 256 ^ k) (h : putL n k = putL m k) : n = m := by
  have := congrArg getL h
  rwa [getL_putL, getL_putL, Nat.mod_eq_of_lt hn, Nat.mod_eq_of_lt hm] at this
theorem pow256_8 : (256 : Nat) ^ 8 = 18446744073709551616 := by decide
theorem pow256_le {k : Nat} (h : k ≤ 8) : 256 ^ k ≤ 18446744073709551616 := by
  rw [← pow256_8]; exact Nat.pow_le_pow_right (by omega) h
theorem pow256_2 (k : Nat) : (256 : Nat) ^ k = 2 ^ (8 * k) := by rw [Nat.pow_mul]
/-- what is below 256 to so many: what the text asks is whether the byte above the last one but one is a byte -/
theorem lt_pow_iff (n k : Nat) (hk : 1 ≤ k) : n / 2 ^ (8 * (k - 1)) ≤ 255 ↔ n < 256 ^ k := by
  obtain ⟨j, rfl⟩ : ∃ j, k = j + 1 := ⟨k - 1, by omega⟩
  rw [show 8 * (j + 1 - 1) = 8 * j from by omega, ← pow256_2, Nat.pow_succ]
  rw [Nat.mul_comm (256 ^ j) 256, ← Nat.div_lt_iff_lt_mul (Nat.pow_pos (by omega))]
  omega
/-- a byte laid above what stands below: or is plus -/
theorem or_byte (x j b : Nat) (hj : j < 8) (hx : x < 256 ^ j) (hb : b < 256) :
    bits BinOp.or IntKind.u64 (x : Int) (IntKind.u64.wrap (IntKind.u64.wrap (b : Int) * 2 ^ (8 * j))) = ((x + 256 ^ j * b : Nat) : Int) := by
  have h8 : 256 ^ (j + 1) ≤ 18446744073709551616 := pow256_le (by omega)
  rw [Nat.pow_succ] at h8
  have hlt : 256 ^ j * b < 256 ^ j * 256 := Nat.mul_lt_mul_of_pos_left hb (Nat.pow_pos (by omega))
  have hx64 : x < 18446744073709551616 := by have := Nat.pow_pos (n := j) (show 0 < 256 by omega); omega
  have e1 : IntKind.u64.wrap (b : Int) = b := IntWalk.u64_in _ ⟨by omega, by omega⟩
  have e2 : ((b : Int) * 2 ^ (8 * j)) = ((256 ^ j * b : Nat) : Int) := by
    rw [pow256_2, Int.natCast_mul, Int.natCast_pow]; exact Int.mul_comm _ _
  have e3 : IntKind.u64.wrap ((256 ^ j * b : Nat) : Int) = ((256 ^ j * b : Nat) : Int) := IntWalk.u64_in _ ⟨by omega, by omega⟩
  rw [e1, e2, e3, u64_or_nat _ _ hx64 (by omega)]
  congr 1
  rw [Nat.or_comm, nat_join (8 * j) (256 ^ j * b) x (by rw [← pow256_2]; exact Nat.mul_mod_right _ _) (by rw [← pow256_2]; exact hx)]
  omega

/-! texts as lists of bytes -/
theorem ba_eq (s : ByteArray) : s = ⟨s.data.toList.toArray⟩ := by cases s; simp
theorem ba_size (l : List UInt8) : (ByteArray.mk l.toArray).size = l.length := by simp [ByteArray.size]
theorem ba_ext {a b : ByteArray} (h : a.data.toList = b.data.toList) : a = b := by
  rw [ba_eq a, ba_eq b, h]
theorem ba_inj {a b : List UInt8} (h : ByteArray.mk a.toArray = ByteArray.mk b.toArray) : a = b := by
  have := congrArg (fun s : ByteArray => s.data.toList) h; simpa using this
/-- two texts that are not one, as the walk asks it -/
theorem ba_tne {a b : ByteArray} (h : a ≠ b) : (a.toList == b.toList) = false := by
  rw [ByteArray.toList_eq, ByteArray.toList_eq, beq_eq_false_iff_ne]
  exact fun e => h (ba_ext e)
theorem ba_len (s : ByteArray) : s.data.toList.length = s.size := by rw [Array.length_toList]; rfl
theorem ba_extract (s : ByteArray) (a b : Nat) : s.extract a b = ⟨((s.data.toList.drop a).take (b - a)).toArray⟩ := by
  rw [← ByteArray.extract_mk, ← ba_eq]
theorem ba_extract_list (s : ByteArray) (a b : Nat) : (s.extract a b).data.toList = (s.data.toList.drop a).take (b - a) := by
  rw [ba_extract]
theorem ba_append_list (s t : ByteArray) : (s ++ t).data.toList = s.data.toList ++ t.data.toList := by simp
theorem take_getL (s : ByteArray) (p j : Nat) (h : p + j < s.size) :
    (s.data.toList.drop p).take (j + 1) = (s.data.toList.drop p).take j ++ [s[p + j]] := by
  rw [List.take_succ_eq_append_getElem (by simp; have := ba_len s; rw [Array.length_toList] at this; omega)]
  simp; rfl
end Go.Proofs.Ytbcoooaoofbboaa
