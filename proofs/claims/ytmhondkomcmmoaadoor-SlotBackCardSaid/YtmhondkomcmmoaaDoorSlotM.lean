/- What a sector's bytes tell: plain facts. -/
import Derived.Test.YtmhondkomcmmoaaDoorRef04A
namespace Go.Proofs.YtmhondkomcmmoaaDoor
set_option linter.unusedVariables false

theorem part_zeros (s : ByteArray) (m p k : Nat) : partN (s ++ zerosB m) p k = partN s p k := by
  unfold partN cutL
  rw [ba_append_list, zerosB_list, List.drop_append, List.take_append, getL_append]
  have : getL (List.take (k - (List.drop p s.data.toList).length) (List.drop (p - s.data.toList.length) (List.replicate m 0))) = 0 := by
    rw [List.drop_replicate, List.take_replicate, getL_zeros]
  rw [this]
  simp
theorem part_trim (s : ByteArray) (p k : Nat) : partN (trimS s) p k = partN s p k := by
  have h := part_zeros (trimS s) (s.size - (trimS s).size) p k
  rw [trimS_fill] at h
  exact h.symm
theorem lay_part (l : List UInt8) (p k : Nat) (h : p + k ≤ l.length) : partN (layS l) p k = getL ((l.drop p).take k) := by
  unfold layS
  rw [part_trim]
  unfold partN cutL
  rw [sealL_list]
  show getL (List.take k (List.drop p (l ++ _))) = _
  rw [List.drop_append_of_le_length (by omega), List.take_append_of_le_length (by rw [List.length_drop]; omega)]
theorem lay_size (l : List UInt8) : (layS l).size ≤ l.length + 4 := by
  unfold layS
  refine Nat.le_trans (trimS_le _) ?_
  rw [sealL_size, ba_size]
  exact Nat.le_refl _
theorem cut_mid (a b c : List UInt8) (p k : Nat) (hp : a.length = p) (hk : b.length = k) : ((a ++ (b ++ c)).drop p).take k = b := by
  rw [List.drop_left' hp, List.take_left' hk]
theorem get_put (n k : Nat) (h : n < 256 ^ k) : getL (putL n k) = n := by rw [getL_putL, Nat.mod_eq_of_lt h]
theorem super_part (n : Int) (h1 : 1 ≤ n) (h2 : n ≤ 1099511627776) : partN (layS (superL n)) 1 6 = n.toNat ∧ partN (layS (superL n)) 0 1 = 1 := by
  have hl : (superL n).length = 7 := by rw [superL_eq, List.length_append, putL_length]; rfl
  constructor
  · rw [lay_part _ 1 6 (by omega), superL_eq]
    have := cut_mid [1] (putL n.toNat 6) [] 1 6 rfl (putL_length _ _)
    rw [List.append_nil] at this
    rw [this, get_put _ _ (pow6 n h1 h2)]
  · rw [lay_part _ 0 1 (by omega), superL_eq]
    rfl
theorem commit_part (n s : Int) (h1 : 1 ≤ n ∧ n ≤ 1099511627776) (h2 : 0 ≤ s ∧ s < 6) :
    partN (layS (commitL n s)) 1 6 = n.toNat ∧ partN (layS (commitL n s)) 7 1 = s.toNat ∧ partN (layS (commitL n s)) 0 1 = 3 := by
  have hl : (commitL n s).length = 8 := by rw [commitL_eq, List.length_append, List.length_append, putL_length, putL_length]; rfl
  refine ⟨?_, ?_, ?_⟩
  · rw [lay_part _ 1 6 (by omega), commitL_eq, List.append_assoc, cut_mid [3] (putL n.toNat 6) _ 1 6 rfl (putL_length _ _), get_put _ _ (pow6 n h1.1 h1.2)]
  · rw [lay_part _ 7 1 (by omega), commitL_eq]
    have := cut_mid ([3] ++ putL n.toNat 6) (putL s.toNat 1) [] 7 1 (by rw [List.length_append, putL_length]; rfl) (putL_length _ _)
    rw [List.append_nil] at this
    rw [this, get_put _ _ (pow1 s (by omega) (by omega))]
  · rw [lay_part _ 0 1 (by omega), commitL_eq]
    rfl
theorem fields_get : ∀ (L : List Int) (i : Nat) (h : i < L.length), ((fieldsL 2 L).drop (2 * i)).take 2 = putL (L[i]).toNat 2
  | t :: L, 0, _ => by
    show (putL t.toNat 2 ++ fieldsL 2 L).take 2 = _
    rw [List.take_left' (putL_length _ _)]
    rfl
  | t :: L, i + 1, h => by
    have ih := fields_get L i (by simpa using h)
    show ((putL t.toNat 2 ++ fieldsL 2 L).drop (2 * (i + 1))).take 2 = _
    rw [show 2 * (i + 1) = 2 + 2 * i by omega, ← List.drop_drop, List.drop_left' (putL_length _ _), ih]
    rfl
end Go.Proofs.YtmhondkomcmmoaaDoor
