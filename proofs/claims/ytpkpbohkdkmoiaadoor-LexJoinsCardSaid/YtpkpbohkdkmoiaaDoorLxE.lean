/- What Lex answers of two sources joined, and of one with blanks between two tokens; plain. -/
import Derived.Test.YtpkpbohkdkmoiaaDoorLxC
import Derived.Test.YtpkpbohkdkmoiaaDoorLxR
namespace Go.Proofs.YtpkpbohkdkmoiaaDoor
set_option linter.unusedVariables false

theorem lex_ok {s : ByteArray} {l : List Tk} (hs : s.size ≤ 2000) (h : lexS s = .ok l) : lexE s = 0 ∧ lexToks s = l ++ [endTk s] := by
  unfold lexE lexToks
  rw [if_neg (by omega), if_neg (by omega), h]
  exact ⟨rfl, rfl⟩
theorem lex_bad {s : ByteArray} {p : Nat} (hs : s.size ≤ 2000) (h : lexS s = .bad p) : lexE s = 60 ∧ lexToks s = [] ∧ lexAt s = p := by
  unfold lexE lexToks lexAt
  rw [if_neg (by omega), if_neg (by omega), if_neg (by omega), h]
  exact ⟨rfl, rfl, rfl⟩
theorem lex_of {s : ByteArray} (h : lexE s = 0) : ∃ l, lexS s = .ok l ∧ s.size ≤ 2000 := by
  unfold lexE at h
  by_cases h2 : 2000 < s.size
  · rw [if_pos h2] at h; cases h
  · rw [if_neg h2] at h
    cases hs : lexS s with
    | bad p => rw [hs] at h; cases h
    | ok l => exact ⟨l, rfl, by omega⟩
theorem lexE_cases {s : ByteArray} (hs : s.size ≤ 2000) : lexE s = 0 ∨ lexE s = 60 := by
  cases h : lexS s with
  | bad p => exact .inr (lex_bad hs h).1
  | ok l => exact .inl (lex_ok hs h).1
/-- a source with blanks or a remark ahead of a token -/
theorem lexBlank (s : ByteArray) (hs : s.size ≤ 900) (he : lexE s = 0) (i : Nat) (hi : i < (lexToks s).length) (put : List UInt8) (hp : put.length ≤ 102)
    (hw : (put = [32, 9] ∧ (lexToks s)[i].kind ≠ 4 ∧ (lexToks s)[i].kind ≠ 0) ∨ (∃ r, put = 32 :: 35 :: r ∧ (∀ c ∈ r, notLine c.toNat = true) ∧ ((lexToks s)[i].kind = 4 ∨ (lexToks s)[i].kind = 0))) :
    (lexToks s)[i].pos ≤ s.size ∧ lexE (s.extract 0 (lexToks s)[i].pos ++ ⟨put.toArray⟩ ++ s.extract (lexToks s)[i].pos s.size) = 0 ∧
      (lexToks (s.extract 0 (lexToks s)[i].pos ++ ⟨put.toArray⟩ ++ s.extract (lexToks s)[i].pos s.size)).map (fun t => (t.kind, t.text)) = (lexToks s).map (fun t => (t.kind, t.text)) := by
  have hl := ba_len s
  obtain ⟨l, hlex, _⟩ := lex_of he
  have hT := (lex_ok (by omega) hlex).2
  have hP := lexS_placed hlex
  have hil : i ≤ l.length := by rw [hT] at hi; simp at hi; omega
  have hplace : (lexToks s)[i].pos = placeOf l s.data.toList.length i := by
    unfold placeOf
    by_cases h : i < l.length
    · rw [List.getElem?_eq_getElem h]
      simp only [hT, List.getElem_append_left h]
      rfl
    · obtain rfl : i = l.length := by omega
      rw [List.getElem?_eq_none (Nat.le_refl _)]
      simp only [hT, List.getElem_append_right (Nat.le_refl _)]
      simp [endTk, hl]
  have hkind : ∀ K : Int, K ≠ 0 → ((lexToks s)[i].kind = K ↔ l[i]?.map (·.kind) = some K) := by
    intro K hK
    by_cases h : i < l.length
    · rw [List.getElem?_eq_getElem h]
      simp only [hT, List.getElem_append_left h]
      simp
    · obtain rfl : i = l.length := by omega
      rw [List.getElem?_eq_none (Nat.le_refl _)]
      simp only [hT, List.getElem_append_right (Nat.le_refl _)]
      simp [endTk]
      exact fun h => hK h.symm
  have hkz : (lexToks s)[i].kind = 0 ↔ i = l.length := by
    by_cases h : i < l.length
    · have : ∀ (p : Nat) (l : List Tk) (i : Nat) (h : i < l.length), Placed s p l → 1 ≤ l[i].kind := by
        intro p l
        induction l generalizing p with
        | nil => intro i h; simp at h
        | cons t r ih =>
          intro i h hp
          obtain ⟨_, _, _, _, ⟨h5, _⟩, h6⟩ := hp
          cases i with
          | zero => exact h5
          | succ i => exact ih _ i (by simpa using h) h6
      have h1 := this 0 l i h hP
      simp only [hT, List.getElem_append_left h]
      constructor
      · intro e; omega
      · intro e; omega
    · obtain rfl : i = l.length := by omega
      simp only [hT, List.getElem_append_right (Nat.le_refl _)]
      simp [endTk]
  rw [lexS_lexq] at hlex
  have hw' : (put = [32, 9] ∧ i < l.length ∧ (l[i]?.map (·.kind)) ≠ some 4) ∨ (∃ r, put = 32 :: 35 :: r ∧ (∀ c ∈ r, notLine c.toNat = true) ∧ (i = l.length ∨ l[i]?.map (·.kind) = some 4)) := by
    rcases hw with ⟨h1, h2, h3⟩ | ⟨r, h1, h2, h3⟩
    · refine .inl ⟨h1, ?_, fun e => h2 ((hkind 4 (by decide)).2 e)⟩
      have : i ≠ l.length := fun e => h3 (hkz.2 e)
      omega
    · refine .inr ⟨r, h1, h2, ?_⟩
      rcases h3 with h3 | h3
      · exact .inr ((hkind 4 (by decide)).1 h3)
      · exact .inl (hkz.1 h3)
  obtain ⟨hk, ts', h1, h2⟩ := lex_blanks hlex hil put hw'
  rw [← hplace] at hk h1
  generalize (lexToks s)[i].pos = k at *
  rw [hl] at hk
  have hM : (s.extract 0 k ++ ⟨put.toArray⟩ ++ s.extract k s.size).data.toList = s.data.toList.take k ++ (put ++ s.data.toList.drop k) := by
    simp only [ByteArray.data_append, Array.toList_append, ByteArray.data_extract, Array.toList_extract, List.extract_eq_take_drop, List.append_assoc]
    simp
    rw [List.take_of_length_le (by simp)]
  have hMs : (s.extract 0 k ++ ⟨put.toArray⟩ ++ s.extract k s.size).size = s.size + put.length := by
    rw [← ba_len, hM]; simp; omega
  have hMl := lexS_lexq (s.extract 0 k ++ ⟨put.toArray⟩ ++ s.extract k s.size)
  rw [hM, h1] at hMl
  obtain ⟨g1, g2⟩ := lex_ok (by rw [hMs]; omega) hMl
  refine ⟨hk, g1, ?_⟩
  rw [g2, hT, List.map_append, List.map_append, h2]
  rfl
/-- two sources, with an end of line between -/
theorem lexJoin (s t : ByteArray) (hs : s.size ≤ 900) (ht : t.size ≤ 900) :
    (lexE s = 0 → lexE t = 0 → lexE (s ++ ⟨#[10]⟩ ++ t) = 0 ∧ ∃ la lb, lexToks s = la ++ [endTk s] ∧ lexToks t = lb ++ [endTk t] ∧ lexToks (s ++ ⟨#[10]⟩ ++ t) = la ++ [⟨4, ⟨#[10]⟩, s.size⟩] ++ (lb ++ [endTk t]).map (·.at (s.size + 1))) ∧
    (¬ lexE s = 0 → lexE (s ++ ⟨#[10]⟩ ++ t) = lexE s ∧ lexE s = 60 ∧ lexAt (s ++ ⟨#[10]⟩ ++ t) ≤ s.size + 1 + t.size) ∧
    (lexE s = 0 → ¬ lexE t = 0 → lexE (s ++ ⟨#[10]⟩ ++ t) = 60 ∧ lexE t = 60 ∧ lexAt (s ++ ⟨#[10]⟩ ++ t) ≤ s.size + 1 + t.size) := by
  have hM : (s ++ ⟨#[10]⟩ ++ t).data.toList = s.data.toList ++ (10 :: t.data.toList) := by simp
  have hMs : (s ++ ⟨#[10]⟩ ++ t).size = s.size + 1 + t.size := by
    rw [← ba_len, hM, List.length_append, List.length_cons, ba_len, ba_len]; omega
  have hl := ba_len s
  have hJ := lexS_lexq (s ++ ⟨#[10]⟩ ++ t)
  rw [hM, lexq_join (10 :: t.data.toList) rfl _ s.data.toList 0 (Nat.le_refl _), lexq_ten, ← lexS_lexq, Nat.zero_add, hl, lexq_shift, ← lexS_lexq] at hJ
  have hle : lexAt (s ++ ⟨#[10]⟩ ++ t) ≤ s.size + 1 + t.size := by
    rw [← hMs]
    have hg := lexGood (s ++ ⟨#[10]⟩ ++ t)
    by_cases h0 : lexE (s ++ ⟨#[10]⟩ ++ t) = 0
    · obtain ⟨l, h1, h2⟩ := lex_of h0
      unfold lexAt
      rw [if_neg (by omega), h1]
      exact Nat.zero_le _
    · rw [if_neg h0] at hg
      exact hg.2
  generalize s ++ ⟨#[10]⟩ ++ t = M at *
  refine ⟨fun e1 e2 => ?_, fun e1 => ?_, fun e1 e2 => ?_⟩
  · obtain ⟨la, h1, _⟩ := lex_of e1
    obtain ⟨lb, h2, _⟩ := lex_of e2
    rw [h1, h2] at hJ
    obtain ⟨g1, g2⟩ := lex_ok (by omega) hJ
    refine ⟨g1, la, lb, (lex_ok (by omega) h1).2, (lex_ok (by omega) h2).2, ?_⟩
    rw [g2]
    simp [endTk, Tk.at, hMs]
  · cases h1 : lexS s with
    | ok la => exact absurd (lex_ok (by omega) h1).1 e1
    | bad p =>
      rw [h1] at hJ
      obtain ⟨g1, _, g2⟩ := lex_bad (by omega) hJ
      have := (lex_bad (by omega) h1).1
      exact ⟨by rw [g1, this], this, hle⟩
  · obtain ⟨la, h1, _⟩ := lex_of e1
    cases h2 : lexS t with
    | ok la => exact absurd (lex_ok (by omega) h2).1 e2
    | bad p =>
      rw [h1, h2] at hJ
      obtain ⟨g1, _, g2⟩ := lex_bad (by omega) hJ
      exact ⟨g1, (lex_bad (by omega) h2).1, hle⟩
end Go.Proofs.YtpkpbohkdkmoiaaDoor
