/- Plain facts on the sum of a text: the register's step is linear and can be turned back. -/
import Derived.Test.YthnmnnlbglpjaaaDoorBytes
namespace Go.Proofs.YthnmnnlbglpjaaaDoor
set_option linter.unusedVariables false

/-- the register, moved down by one bit -/
def stepB (r : Nat) : Nat := if r % 2 = 1 then (r / 2) ^^^ 3988292384 else r / 2
def stepN : Nat → Nat → Nat
  | 0, r => r
  | n + 1, r => stepN n (stepB r)

theorem xor_mod2 (a b : Nat) : (a ^^^ b) % 2 = (a % 2 + b % 2) % 2 := by
  have h := Nat.xor_mod_two_eq_one (a := a) (b := b)
  by_cases ha : a % 2 = 1 <;> by_cases hb : b % 2 = 1 <;> by_cases hx : (a ^^^ b) % 2 = 1 <;> simp only [ha, hb, hx] at h <;> simp at h <;> omega
theorem xor_div2 (a b : Nat) : (a ^^^ b) / 2 = a / 2 ^^^ b / 2 := Nat.xor_div_two
theorem stepB_xor (a b : Nat) : stepB (a ^^^ b) = stepB a ^^^ stepB b := by
  unfold stepB
  rw [xor_mod2, xor_div2]
  have ha : a % 2 = 0 ∨ a % 2 = 1 := by omega
  have hb : b % 2 = 0 ∨ b % 2 = 1 := by omega
  rcases ha with ha | ha <;> rcases hb with hb | hb <;> simp only [ha, hb] <;> simp
  · rw [Nat.xor_assoc]
  · rw [Nat.xor_assoc, Nat.xor_comm (b / 2), ← Nat.xor_assoc]
  · rw [show ∀ x y z : Nat, x ^^^ z ^^^ (y ^^^ z) = x ^^^ y from fun x y z => by rw [Nat.xor_assoc, Nat.xor_comm y z, ← Nat.xor_assoc z, Nat.xor_self, Nat.zero_xor]]
theorem stepN_xor (n a b : Nat) : stepN n (a ^^^ b) = stepN n a ^^^ stepN n b := by
  induction n generalizing a b with
  | zero => rfl
  | succ n ih => simp only [stepN, stepB_xor, ih]
theorem stepB_zero : stepB 0 = 0 := rfl
theorem stepN_zero (n : Nat) : stepN n 0 = 0 := by
  induction n with
  | zero => rfl
  | succ n ih => simp [stepN, stepB_zero, ih]
theorem stepB_double (x : Nat) : stepB (2 * x) = x := by
  unfold stepB; rw [if_neg (by omega)]; omega
theorem stepN_pow (n x : Nat) : stepN n (2 ^ n * x) = x := by
  induction n generalizing x with
  | zero => simp [stepN]
  | succ n ih => rw [stepN, Nat.pow_succ, show 2 ^ n * 2 * x = 2 * (2 ^ n * x) from by rw [Nat.mul_comm (2 ^ n) 2, Nat.mul_assoc], stepB_double, ih]
theorem stepN_add (m n r : Nat) : stepN (m + n) r = stepN n (stepN m r) := by
  induction m generalizing r with
  | zero => simp [stepN]
  | succ m ih => rw [show m + 1 + n = (m + n) + 1 from by omega, stepN, stepN, ih]
theorem stepN_succ (n r : Nat) : stepN (n + 1) r = stepB (stepN n r) := stepN_add n 1 r
theorem stepB_lt {r : Nat} (h : r < 4294967296) : stepB r < 4294967296 := by
  unfold stepB
  split
  · exact Nat.xor_lt_two_pow (n := 32) (by omega) (by omega)
  · omega
theorem stepN_lt (n : Nat) {r : Nat} (h : r < 4294967296) : stepN n r < 4294967296 := by
  induction n generalizing r with
  | zero => exact h
  | succ n ih => exact ih (stepB_lt h)
/-- nothing is lost -/
theorem stepB_eq_zero {r : Nat} (hr : r < 4294967296) (h : stepB r = 0) : r = 0 := by
  unfold stepB at h
  split at h
  · have h2 : r / 2 = 3988292384 := by
      have := congrArg (fun x => x ^^^ 3988292384) h
      simp only [Nat.xor_assoc, Nat.xor_self, Nat.xor_zero, Nat.zero_xor] at this
      exact this
    omega
  · omega
theorem stepN_eq_zero (n : Nat) {r : Nat} (hr : r < 4294967296) (h : stepN n r = 0) : r = 0 := by
  induction n generalizing r with
  | zero => exact h
  | succ n ih => exact stepB_eq_zero hr (ih (stepB_lt hr) h)
theorem stepN_inj (n : Nat) {a b : Nat} (ha : a < 4294967296) (hb : b < 4294967296) (h : stepN n a = stepN n b) : a = b := by
  have hx : stepN n (a ^^^ b) = 0 := by rw [stepN_xor, h, Nat.xor_self]
  have := stepN_eq_zero n (Nat.xor_lt_two_pow (n := 32) ha hb) hx
  have h2 := congrArg (fun x => x ^^^ b) this
  simpa [Nat.xor_assoc] using h2

/-- a number below and its upper part, put together -/
theorem split_xor (n r : Nat) : r = (r % 2 ^ n) ^^^ (2 ^ n * (r / 2 ^ n)) := by
  have h1 : 2 ^ n * (r / 2 ^ n) ||| r % 2 ^ n = 2 ^ n * (r / 2 ^ n) + r % 2 ^ n := nat_join n _ _ (Nat.mul_mod_right _ _) (Nat.mod_lt _ (Nat.pow_pos (by omega)))
  have h2 : (r % 2 ^ n) ^^^ (2 ^ n * (r / 2 ^ n)) = 2 ^ n * (r / 2 ^ n) + r % 2 ^ n := by
    rw [← h1]
    apply Nat.eq_of_testBit_eq
    intro i
    simp only [Nat.testBit_xor, Nat.testBit_or, Nat.testBit_mod_two_pow, Nat.testBit_two_pow_mul]
    by_cases hi : i < n
    · simp [hi, show ¬ n ≤ i from by omega]
    · simp [hi, show n ≤ i from by omega]
  rw [h2, Nat.div_add_mod]
/-- by tables: so many bits at once -/
theorem stepN_split (n r : Nat) : stepN n r = stepN n (r % 2 ^ n) ^^^ r / 2 ^ n := by
  conv => lhs; rw [split_xor n r]
  rw [stepN_xor, stepN_pow]

/-- a byte -/
def byteB (r b : Nat) : Nat := stepN 8 (r ^^^ b)
/-- a text's register, from r on -/
def regL (r : Nat) (l : List UInt8) : Nat := l.foldl (fun r b => byteB r b.toNat) r
def ones : Nat := 4294967295
def sumL (l : List UInt8) : Nat := ones ^^^ regL ones l

theorem byteB_lt {r : Nat} (h : r < 4294967296) (b : UInt8) : byteB r b.toNat < 4294967296 :=
  stepN_lt 8 (Nat.xor_lt_two_pow (n := 32) h (by have := b.toNat_lt; omega))
theorem regL_lt {r : Nat} (h : r < 4294967296) (l : List UInt8) : regL r l < 4294967296 := by
  induction l generalizing r with
  | nil => exact h
  | cons b l ih => exact ih (byteB_lt h b)
theorem ones_lt : ones < 4294967296 := by decide
theorem sumL_lt (l : List UInt8) : sumL l < 4294967296 := Nat.xor_lt_two_pow (n := 32) ones_lt (regL_lt ones_lt l)
theorem regL_append (r : Nat) (a b : List UInt8) : regL r (a ++ b) = regL (regL r a) b := by simp [regL, List.foldl_append]
theorem ones_sub {r : Nat} (h : r < 4294967296) : ones ^^^ r = 4294967295 - r := by
  have e : (4294967295 : Nat) - r = 2 ^ 32 - (r + 1) := by omega
  have eo : ones = 2 ^ 32 - 1 := by decide
  rw [e, eo]
  apply Nat.eq_of_testBit_eq
  intro i
  rw [Nat.testBit_xor, Nat.testBit_two_pow_sub_one, Nat.testBit_two_pow_sub_succ (show r < 2 ^ 32 from h)]
  by_cases hi : i < 32
  · simp [hi]
  · have : r.testBit i = false := Nat.testBit_lt_two_pow (Nat.lt_of_lt_of_le (show r < 2 ^ 32 from h) (Nat.pow_le_pow_right (by omega) (by omega)))
    simp [hi, this]
end Go.Proofs.YthnmnnlbglpjaaaDoor
