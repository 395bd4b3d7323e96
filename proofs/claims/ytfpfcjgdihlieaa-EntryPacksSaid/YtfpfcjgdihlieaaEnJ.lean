/- Lists of names as bytes: what is read, written, is the bytes; plain. -/
import Derived.Test.YtfpfcjgdihlieaaEnU
namespace Go.Proofs.Ytfpfcjgdihlieaa
set_option linter.unusedVariables false

theorem cutL_add (s : ByteArray) (p a b : Nat) : cutL s p (a + b) = cutL s p a ++ cutL s (p + a) b := by
  unfold cutL
  rw [List.take_add, List.drop_drop]
theorem put_num (s : ByteArray) (p k : Nat) (h : p + k ≤ s.size) : putL (numA s p k).toNat k = cutL s p k := by
  unfold numA
  rw [Int.toNat_natCast]
  have := putL_getL (cutL s p k)
  rwa [cutL_length s p k h] at this
theorem verB_at (s : ByteArray) (p : Nat) (h : p + 10 ≤ s.size) : verB (vrAt s p) = cutL s p 10 := by
  have e : verB (vrAt s p) = putL (numA s p 2).toNat 2 ++ (putL (numA s (p + 2) 2).toNat 2 ++ (putL (numA s (p + 4) 2).toNat 2 ++ (putL (numA s (p + 6) 2).toNat 2 ++ putL (numA s (p + 8) 2).toNat 2))) := by
    simp [verB, fieldsL, vrAt]
  rw [e, put_num s p 2 (by omega), put_num s (p + 2) 2 (by omega), put_num s (p + 4) 2 (by omega), put_num s (p + 6) 2 (by omega), put_num s (p + 8) 2 (by omega)]
  rw [show (10 : Nat) = 2 + (2 + (2 + (2 + 2))) from rfl, cutL_add, cutL_add, cutL_add, cutL_add]
theorem versB_at (s : ByteArray) : ∀ (n p : Nat), p + 10 * n ≤ s.size → versB (versL s p n) = cutL s p (10 * n)
  | 0, p, _ => by simp [versL, versB, cutL]
  | n + 1, p, h => by
    rw [versL_cons, versB, List.flatMap_cons, ← versB, versB_at s n (p + 10) (by omega), verB_at s p (by omega), show 10 * (n + 1) = 10 + 10 * n by omega, cutL_add]
theorem textL_at (s : ByteArray) (p : Nat) (h : cutE s p = 0) : ∃ N, (cutT s p) = ((p + 2 + N : Nat) : Int) ∧ p + 2 + N ≤ s.size ∧ (textL (cutS s p)).data.toList = cutL s p (2 + N) := by
  have hE : getE s p 2 = 0 := by
    unfold cutE at h
    split at h
    · rename_i hh; exact absurd h hh
    · rename_i hh; simpa using hh
  have hok := getE_ok hE
  have hN : getN s p 2 = (getL (cutL s p 2) : Nat) := by
    unfold getN
    rw [if_pos hE, Int.toNat_natCast]; rfl
  have hfit : (p : Int) + 2 + getN s p 2 ≤ s.size := by
    unfold cutE at h
    rw [if_neg (by omega)] at h
    split at h
    · assumption
    · cases h
  rw [hN] at hfit
  refine ⟨getL (cutL s p 2), ?_, by omega, ?_⟩
  · unfold cutT
    rw [if_pos h, hN]; omega
  · have hS : (cutS s p).data.toList = cutL s (p + 2) (getL (cutL s p 2)) := by
      unfold cutS
      rw [if_pos h, Int.toNat_natCast]
    have hz : (cutS s p).size = getL (cutL s p 2) := by
      rw [← ba_len, hS, cutL_length _ _ _ (by omega)]
    have ht : (textL (cutS s p)).data.toList = putL (cutS s p).size 2 ++ (cutS s p).data.toList := by simp [textL]
    rw [ht, hz, hS, cutL_add]
    congr 1
    have := putL_getL (cutL s p 2)
    rwa [cutL_length s p 2 (by omega)] at this
theorem entB_at (s : ByteArray) (p q : Nat) (e : En) (h : prEnt s p = some (e, q)) : p ≤ q ∧ q ≤ s.size ∧ entB e = cutL s p (q - p) := by
  unfold prEnt at h
  split at h
  · rename_i hc
    obtain ⟨N, hT, hTs, hX⟩ := textL_at s p hc
    have hTn : (cutT s p).toNat = p + 2 + N := by rw [hT]; rfl
    rw [hTn] at h
    split at h
    · rename_i h5
      split at h
      · rename_i hq
        injection h with h
        injection h with h1 h2
        subst h1 h2
        refine ⟨by omega, hq, ?_⟩
        have hb := versB_at s (getL (cutL s (p + 2 + N + 4) 1)) (p + 2 + N + 5) hq
        have h1 := getL_lt (cutL s (p + 2 + N + 4) 1)
        have e2 : fieldsL 2 [numA s (p + 2 + N) 2, numA s (p + 2 + N + 2) 2] = cutL s (p + 2 + N) 4 := by
          have : fieldsL 2 [numA s (p + 2 + N) 2, numA s (p + 2 + N + 2) 2] = putL (numA s (p + 2 + N) 2).toNat 2 ++ putL (numA s (p + 2 + N + 2) 2).toNat 2 := by simp [fieldsL]
          rw [this, put_num s _ 2 (by omega), put_num s _ 2 (by omega), show (4 : Nat) = 2 + 2 from rfl, cutL_add]
        have e1 : fieldsL 1 [((getL (cutL s (p + 2 + N + 4) 1) : Nat) : Int)] = cutL s (p + 2 + N + 4) 1 := by
          have : fieldsL 1 [((getL (cutL s (p + 2 + N + 4) 1) : Nat) : Int)] = putL (numA s (p + 2 + N + 4) 1).toNat 1 := by simp [fieldsL, numA]
          rw [this, put_num s _ 1 (by omega)]
        unfold entB
        simp only
        have hvl : (versL s (p + 2 + N + 5) (getL (cutL s (p + 2 + N + 4) 1))).length = getL (cutL s (p + 2 + N + 4) 1) := by simp [versL]
        rw [hvl, hX, e2, e1, hb]
        generalize getL (cutL s (p + 2 + N + 4) 1) = c
        rw [show p + 2 + N + 5 + 10 * c - p = ((2 + N) + 4) + 1 + 10 * c by omega, cutL_add s p ((2 + N) + 4 + 1) (10 * c), cutL_add s p ((2 + N) + 4) 1, cutL_add s p (2 + N) 4]
        rw [show p + (2 + N) = p + 2 + N by omega, show p + (2 + N + 4) = p + 2 + N + 4 by omega, show p + (2 + N + 4 + 1) = p + 2 + N + 5 by omega]
      · cases h
    · cases h
  · cases h
theorem entsB_at (s : ByteArray) : ∀ (n p r : Nat) (l : List En), p ≤ s.size → prEnts s n p = some (l, r) → p ≤ r ∧ r ≤ s.size ∧ l.length = n ∧ l.flatMap entB = cutL s p (r - p)
  | 0, p, r, l, hp, h => by
    rw [prEnts] at h
    injection h with h
    injection h with h1 h2
    subst h1 h2
    exact ⟨Nat.le_refl _, hp, rfl, by simp [cutL]⟩
  | n + 1, p, r, l, hp, h => by
    rw [prEnts] at h
    cases he : prEnt s p with
    | none => rw [he] at h; cases h
    | some eq =>
      obtain ⟨e, q⟩ := eq
      rw [he] at h
      simp only at h
      obtain ⟨a, b, c⟩ := entB_at s p q e he
      cases hr : prEnts s n q with
      | none => rw [hr] at h; cases h
      | some lr =>
        obtain ⟨l', r'⟩ := lr
        rw [hr] at h
        injection h with h
        injection h with h1 h2
        subst h1 h2
        obtain ⟨a', b', c', d'⟩ := entsB_at s n q r' l' b hr
        refine ⟨by omega, b', by simp [c'], ?_⟩
        rw [List.flatMap_cons, c, d', show r' - p = (q - p) + (r' - q) by omega, cutL_add, show p + (q - p) = q by omega]
theorem pack_at (s : ByteArray) (r : Nat) (l : List En) (h : parseE s = some (l, r)) : r ≤ s.size ∧ packB l = cutL s 0 r := by
  unfold parseE at h
  split at h
  · rename_i h1
    obtain ⟨a, b, c, d⟩ := entsB_at s _ _ _ _ h1 h
    refine ⟨b, ?_⟩
    unfold packB
    rw [d, c]
    have e1 : fieldsL 1 [((getL (cutL s 0 1) : Nat) : Int)] = cutL s 0 1 := by
      have : fieldsL 1 [((getL (cutL s 0 1) : Nat) : Int)] = putL (numA s 0 1).toNat 1 := by simp [fieldsL, numA]
      rw [this, put_num s _ 1 (by omega)]
    rw [e1, show r = 1 + (r - 1) by omega, cutL_add]
    simp
  · cases h
/-- the bytes are those of the list just if they end with it -/
theorem pack_end (s : ByteArray) (r : Nat) (l : List En) (h : parseE s = some (l, r)) : (ByteArray.mk (packB l).toArray) = s ↔ r = s.size := by
  obtain ⟨hr, hp⟩ := pack_at s r l h
  constructor
  · intro he
    have := congrArg ByteArray.size he
    rw [ba_size, hp, cutL_length s 0 r (by omega)] at this
    exact this
  · intro he
    apply ba_ext
    show (packB l) = s.data.toList
    rw [hp, he]
    unfold cutL
    rw [List.drop_zero, List.take_of_length_le (by rw [ba_len]; omega)]
end Go.Proofs.Ytfpfcjgdihlieaa
