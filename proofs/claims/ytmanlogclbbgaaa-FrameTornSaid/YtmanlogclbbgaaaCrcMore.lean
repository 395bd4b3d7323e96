/- Plain facts on sums: three texts, turned bits, short ends. -/
import Derived.Test.YtmanlogclbbgaaaCrcOpen
namespace Go.Proofs.Ytmanlogclbbgaaa
set_option linter.unusedVariables false

theorem getL_cons_xor (b : UInt8) (r : List UInt8) : getL (b :: r) = b.toNat ^^^ 2 ^ 8 * getL r := by
  have hb := b.toNat_lt
  have h := split_xor 8 (getL (b :: r))
  have h1 : getL (b :: r) % 2 ^ 8 = b.toNat := by simp only [getL]; omega
  have h2 : getL (b :: r) / 2 ^ 8 = getL r := by simp only [getL]; omega
  rwa [h1, h2] at h
theorem regL_step (r : Nat) (l : List UInt8) : regL r l = stepN (8 * l.length) (r ^^^ getL l) := by
  induction l generalizing r with
  | nil => simp [regL, getL, stepN]
  | cons b l ih =>
    show regL (byteB r b.toNat) l = _
    rw [ih, byteB, List.length_cons, show 8 * (l.length + 1) = 8 + 8 * l.length from by omega, stepN_add, getL_cons_xor]
    congr 1
    rw [← Nat.xor_assoc, stepN_xor 8 (r ^^^ b.toNat), stepN_pow]
theorem getL_inj {a b : List UInt8} (hl : a.length = b.length) (h : getL a = getL b) : a = b := by
  rw [← putL_getL a, ← putL_getL b, h, hl]
theorem xor_left_inj {a b c : Nat} (h : a ^^^ b = a ^^^ c) : b = c := by
  have := congrArg (fun x => a ^^^ x) h
  simpa [← Nat.xor_assoc] using this
/-- unlike ends of at most four bytes make unlike sums -/
theorem sum_ends (s a b : List UInt8) (hl : a.length = b.length) (h4 : a.length ≤ 4) : sumL (s ++ a) = sumL (s ++ b) ↔ a = b := by
  constructor
  · intro h
    have h1 := xor_left_inj h
    rw [regL_append, regL_append, regL_step _ a, regL_step _ b, hl] at h1
    have hr := regL_lt ones_lt s
    have hp : 256 ^ a.length ≤ 256 ^ 4 := Nat.pow_le_pow_right (by omega) h4
    have h256 : (256 : Nat) ^ 4 = 4294967296 := by decide
    have ha := getL_lt a
    have hb := getL_lt b
    rw [← hl] at hb
    have h2 := stepN_inj _ (Nat.xor_lt_two_pow (n := 32) hr (by omega)) (Nat.xor_lt_two_pow (n := 32) hr (by omega)) h1
    exact getL_inj hl (xor_left_inj h2)
  · rintro rfl; rfl
/-- the text of the bits that are 1 in just one or all three -/
def xor3 (a b c : List UInt8) : List UInt8 := (List.zip a (List.zip b c)).map fun p => p.1 ^^^ p.2.1 ^^^ p.2.2
theorem xor3_cons (x y z : UInt8) (a b c : List UInt8) : xor3 (x :: a) (y :: b) (z :: c) = (x ^^^ y ^^^ z) :: xor3 a b c := rfl
theorem xor_swap6 (x X y Y z Z : Nat) : (x ^^^ X) ^^^ (y ^^^ Y) ^^^ (z ^^^ Z) = (x ^^^ y ^^^ z) ^^^ (X ^^^ Y ^^^ Z) := by
  ac_rfl
theorem mul_xor (n x y : Nat) : 2 ^ n * (x ^^^ y) = 2 ^ n * x ^^^ 2 ^ n * y := by
  apply Nat.eq_of_testBit_eq
  intro i
  simp only [Nat.testBit_xor, Nat.testBit_two_pow_mul]
  by_cases h : n ≤ i <;> simp [h]
theorem getL_xor3 (a b c : List UInt8) (h1 : a.length = b.length) (h2 : b.length = c.length) : getL (xor3 a b c) = getL a ^^^ getL b ^^^ getL c := by
  induction a generalizing b c with
  | nil =>
    obtain rfl : b = [] := List.length_eq_zero_iff.1 h1.symm
    obtain rfl : c = [] := List.length_eq_zero_iff.1 h2.symm
    rfl
  | cons x a ih =>
    cases b with
    | nil => cases h1
    | cons y b =>
      cases c with
      | nil => cases h2
      | cons z c =>
        rw [xor3_cons, getL_cons_xor, getL_cons_xor, getL_cons_xor, getL_cons_xor, ih b c (by simpa using h1) (by simpa using h2), xor_swap6, mul_xor, mul_xor]
        simp [UInt8.toNat_xor]
theorem xor3_length (a b c : List UInt8) (h1 : a.length = b.length) (h2 : b.length = c.length) : (xor3 a b c).length = a.length := by
  simp [xor3, List.length_zip]; omega
theorem sum_three (a b c : List UInt8) (h1 : a.length = b.length) (h2 : b.length = c.length) : sumL (xor3 a b c) = sumL a ^^^ sumL b ^^^ sumL c := by
  unfold sumL
  rw [regL_step, regL_step _ a, regL_step _ b, regL_step _ c, xor3_length a b c h1 h2, getL_xor3 a b c h1 h2, ← h2, ← h1]
  rw [xor_swap6, ← stepN_xor, ← stepN_xor, xor_swap6]
  have e : ones ^^^ ones ^^^ ones = ones := by decide
  rw [e]

/-- bytes are sealed just if their register is this -/
theorem sealed_iff (t : ByteArray) (h : 4 ≤ t.size) : sealL (t.extract 0 (t.size - 4)) = t ↔ regL ones t.data.toList = stepN 32 ones := by
  rw [← open_iff t h]
  have ht := open_tail t h
  have hl : (cutL t (t.size - 4) 4).length = 4 := cutL_length _ _ _ (by omega)
  rw [ht, regL_append, regL_step _ (cutL t (t.size - 4) 4), hl]
  have hr := regL_lt ones_lt (t.extract 0 (t.size - 4)).data.toList
  have hv := getL_lt (cutL t (t.size - 4) 4)
  rw [hl] at hv
  constructor
  · intro e
    have e2 : getL (cutL t (t.size - 4) 4) = ones ^^^ regL ones (t.extract 0 (t.size - 4)).data.toList := e
    rw [e2]
    show stepN 32 _ = _
    congr 1
    rw [Nat.xor_comm ones, ← Nat.xor_assoc, Nat.xor_self, Nat.zero_xor]
  · intro e
    have e2 := stepN_inj 32 (Nat.xor_lt_two_pow (n := 32) hr (by omega)) ones_lt e
    show _ = ones ^^^ _
    clear e hr hv ht
    generalize regL ones (t.extract 0 (t.size - 4)).data.toList = R at *
    generalize getL (cutL t (t.size - 4) 4) = v at *
    rw [← e2, Nat.xor_comm R v, Nat.xor_assoc, Nat.xor_self, Nat.xor_zero]
theorem seal_sealed (s : ByteArray) : (sealL s).extract 0 ((sealL s).size - 4) = s := by
  rw [sealL_size]
  apply ba_ext
  rw [ba_extract_list, sealL_list]
  have := ba_len s
  rw [List.drop_zero, show s.size + 4 - 4 - 0 = s.data.toList.length from by omega, List.take_left]
theorem seal_reg (s : ByteArray) : regL ones (sealL s).data.toList = stepN 32 ones :=
  (sealed_iff (sealL s) (by rw [sealL_size]; omega)).1 (by rw [seal_sealed])
/-- bits that are turned within 32: refused, or none was -/
theorem turned_iff (s t : ByteArray) (hsz : t.size = (sealL s).size) (f p : Nat) (hp : p < 4294967296) (hf : f ≤ 8 * t.size)
    (hx : getL t.data.toList = getL (sealL s).data.toList ^^^ 2 ^ f * p) : sealL (t.extract 0 (t.size - 4)) = t ↔ t = sealL s := by
  have h4 : 4 ≤ t.size := by rw [hsz, sealL_size]; omega
  rw [sealed_iff t h4]
  have hlen : t.data.toList.length = t.size := ba_len t
  have hlen2 : (sealL s).data.toList.length = t.size := by rw [ba_len, hsz]
  have hs := seal_reg s
  rw [regL_step, hlen2] at hs
  rw [regL_step, hlen, hx, ← Nat.xor_assoc, stepN_xor, hs]
  have hz : stepN (8 * t.size) (2 ^ f * p) = stepN (8 * t.size - f) p := by
    rw [show 8 * t.size = f + (8 * t.size - f) from by omega, stepN_add, stepN_pow]
    congr 1; omega
  rw [hz]
  constructor
  · intro e
    have e1 : stepN (8 * t.size - f) p = 0 := by
      have := congrArg (fun x => stepN 32 ones ^^^ x) e
      simpa [← Nat.xor_assoc] using this
    have e2 := stepN_eq_zero _ hp e1
    subst e2
    apply ba_ext
    apply getL_inj (by rw [hlen, hlen2])
    rw [hx]; simp
  · intro e
    have e1 : 2 ^ f * p = 0 := by
      rw [← e] at hx
      have := congrArg (fun x => getL t.data.toList ^^^ x) hx
      simpa [← Nat.xor_assoc] using this.symm
    have e2 : p = 0 := by
      rcases Nat.mul_eq_zero.1 e1 with h | h
      · have := Nat.pow_pos (n := f) (show 0 < 2 by omega); omega
      · exact h
    subst e2
    rw [stepN_zero]; simp
end Go.Proofs.Ytmanlogclbbgaaa
