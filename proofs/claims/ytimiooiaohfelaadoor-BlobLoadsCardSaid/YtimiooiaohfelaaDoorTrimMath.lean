/- Trimmed and filled: plain facts. -/
import Derived.Test.YtimiooiaohfelaaDoorFill
namespace Go.Proofs.YtimiooiaohfelaaDoor
set_option linter.unusedVariables false

abbrev at0 (s : ByteArray) (i : Nat) : UInt8 := s.data.toList.getD i 0
theorem trimK_zero (s : ByteArray) : ∀ k i, trimK s k ≤ i → i < k → at0 s i = 0
  | 0, i, _, h => by omega
  | k + 1, i, h1, h2 => by
    unfold trimK at h1
    by_cases h : at0 s k = 0
    · rw [if_pos h] at h1
      by_cases e : i = k
      · rw [e]; exact h
      · exact trimK_zero s k i h1 (by omega)
    · rw [if_neg h] at h1
      omega
theorem trimK_last (s : ByteArray) : ∀ k, trimK s k = 0 ∨ at0 s (trimK s k - 1) ≠ 0
  | 0 => .inl rfl
  | k + 1 => by
    unfold trimK
    by_cases h : at0 s k = 0
    · rw [if_pos h]; exact trimK_last s k
    · rw [if_neg h]; exact .inr h
theorem trimK_uniq (s : ByteArray) (m : Nat) : ∀ k, m ≤ k → (∀ i, m ≤ i → i < k → at0 s i = 0) → (m = 0 ∨ at0 s (m - 1) ≠ 0) → trimK s k = m
  | 0, h, _, _ => by simp [trimK]; omega
  | k + 1, h, hz, hl => by
    by_cases e : m = k + 1
    · subst e
      have : at0 s k ≠ 0 := by rcases hl with h | h; · omega
                               · exact h
      rw [trimK, if_neg this]
    · have : at0 s k = 0 := hz k (by omega) (by omega)
      rw [trimK, if_pos this]
      exact trimK_uniq s m k (by omega) (fun i h1 h2 => hz i h1 (by omega)) hl
theorem at0_extract (s : ByteArray) (K i : Nat) (h : i < K) : at0 (s.extract 0 K) i = at0 s i := by
  unfold at0
  rw [ba_extract_list]
  simp [List.getD, h]
theorem at0_append (s t : ByteArray) (i : Nat) (h : i < s.size) : at0 (s ++ t) i = at0 s i := by
  unfold at0
  rw [ba_append_list]
  simp only [List.getD]
  rw [List.getElem?_append_left (by rw [ba_len]; exact h)]
theorem at0_append2 (s : ByteArray) (k i : Nat) (h : s.size ≤ i) : at0 (s ++ zerosB k) i = 0 := by
  unfold at0
  rw [ba_append_list, zerosB_list]
  simp only [List.getD]
  rw [List.getElem?_append_right (by rw [ba_len]; exact h), List.getElem?_replicate]
  split <;> rfl
theorem trimS_le (s : ByteArray) : (trimS s).size ≤ s.size := by rw [trimS_size]; exact trimK_le _ _
theorem trimS_pre (s : ByteArray) : s.extract 0 (trimS s).size = trimS s := by rw [trimS_size]; rfl
theorem trimS_last (s : ByteArray) : (trimS s).size = 0 ∨ at0 (trimS s) ((trimS s).size - 1) ≠ 0 := by
  rw [trimS_size]
  rcases trimK_last s s.size with h | h
  · exact .inl h
  · by_cases h0 : trimK s s.size = 0
    · exact .inl h0
    · refine .inr ?_
      rw [trimS, at0_extract _ _ _ (by omega)]
      exact h
theorem trimS_twice (s : ByteArray) : trimS (trimS s) = trimS s := by
  have h : trimK (trimS s) (trimS s).size = (trimS s).size := trimK_uniq _ _ _ (Nat.le_refl _) (fun i h1 h2 => by omega) (trimS_last s)
  rw [show trimS (trimS s) = (trimS s).extract 0 (trimK (trimS s) (trimS s).size) from rfl, h, extract_all]
theorem trimS_zeros (s : ByteArray) (k : Nat) : trimS (s ++ zerosB k) = trimS s := by
  have hle := trimK_le s s.size
  have hsz : (s ++ zerosB k).size = s.size + k := by rw [ByteArray.size_append, zerosB_size]
  have h : trimK (s ++ zerosB k) (s ++ zerosB k).size = trimK s s.size := by
    refine trimK_uniq _ _ _ (by omega) (fun i h1 h2 => ?_) ?_
    · rcases Nat.lt_or_ge i s.size with h | h
      · rw [at0_append _ _ _ h]; exact trimK_zero s s.size i h1 h
      · exact at0_append2 s k i h
    · rcases trimK_last s s.size with h | h
      · exact .inl h
      · by_cases h0 : trimK s s.size = 0
        · exact .inl h0
        · exact .inr (by rw [at0_append _ _ _ (by omega)]; exact h)
  unfold trimS
  rw [h]
  apply ba_ext
  rw [ba_extract_list, ba_extract_list, ba_append_list]
  simp only [List.drop_zero, Nat.sub_zero]
  rw [List.take_append_of_le_length (by rw [ba_len]; exact hle)]
theorem trimS_fill (s : ByteArray) : trimS s ++ zerosB (s.size - (trimS s).size) = s := by
  have hle := trimK_le s s.size
  rw [trimS_size]
  apply ba_ext
  rw [ba_append_list, zerosB_list, trimS, ba_extract_list]
  simp only [List.drop_zero, Nat.sub_zero]
  refine List.ext_getElem (by rw [List.length_append, List.length_take, List.length_replicate, ba_len]; omega) fun i h1 h2 => ?_
  rw [List.getElem_append]
  split
  · rw [List.getElem_take]
  · rename_i hn
    rw [List.length_take, ba_len] at hn
    rw [ba_len] at h2
    have := trimK_zero s s.size i (by omega) h2
    rw [List.getElem_replicate]
    have hg : at0 s i = s.data.toList[i] := by unfold at0; simp only [List.getD]; rw [List.getElem?_eq_getElem (by rw [ba_len]; exact h2)]; rfl
    rw [← hg, this]
end Go.Proofs.YtimiooiaohfelaaDoor
