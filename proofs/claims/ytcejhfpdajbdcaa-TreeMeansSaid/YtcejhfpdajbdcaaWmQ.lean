/- Conditions as steps: what they tell, and how many they are. -/
import Derived.Test.YtcejhfpdajbdcaaWmP
namespace Go.Proofs.Ytcejhfpdajbdcaa
set_option linter.unusedVariables false

/-- the words of a record's arguments -/
def ArgWords (s : ByteArray) (args : List Nat) : Prop := ∀ j, j ≤ 5 → args.getD j 0 ≤ 18446744073709551615 ∧ getL (cutL s (16 + 8 * j + 4) 4) = args.getD j 0 / 4294967296 ∧ getL (cutL s (16 + 8 * j) 4) = args.getD j 0 % 4294967296
theorem arg_words (x : Cal) (hx : x.ok) : ArgWords (x.recB 6) x.args := by
  obtain ⟨nr, arch, ip, a0, a1, a2, a3, a4, a5, rfl⟩ := Cal.list6 hx
  obtain ⟨_, _, _, h4, h5⟩ := hx
  have hb : ∀ j, j ≤ 5 → [a0, a1, a2, a3, a4, a5].getD j 0 ≤ 18446744073709551615 := fun j hj => by
    rcases (by omega : j = 0 ∨ j = 1 ∨ j = 2 ∨ j = 3 ∨ j = 4 ∨ j = 5) with rfl | rfl | rfl | rfl | rfl | rfl <;> exact h5 _ (by simp)
  intro j hj
  refine ⟨hb j hj, ?_, ?_⟩
  · have h := Cal.word ⟨nr, arch, ip, [a0, a1, a2, a3, a4, a5]⟩ h4 (5 + 2 * j) (by omega)
    have hbj := hb j hj
    rw [show 4 * (5 + 2 * j) = 16 + 8 * j + 4 by omega] at h
    rw [h]
    have e : (Cal.words ⟨nr, arch, ip, [a0, a1, a2, a3, a4, a5]⟩).getD (5 + 2 * j) 0 = [a0, a1, a2, a3, a4, a5].getD j 0 / 4294967296 := by
      rcases (by omega : j = 0 ∨ j = 1 ∨ j = 2 ∨ j = 3 ∨ j = 4 ∨ j = 5) with rfl | rfl | rfl | rfl | rfl | rfl <;> rfl
    rw [e]
    generalize [a0, a1, a2, a3, a4, a5].getD j 0 = A at *
    omega
  · have h := Cal.word ⟨nr, arch, ip, [a0, a1, a2, a3, a4, a5]⟩ h4 (4 + 2 * j) (by omega)
    rw [show 4 * (4 + 2 * j) = 16 + 8 * j by omega] at h
    rw [h]
    have e : (Cal.words ⟨nr, arch, ip, [a0, a1, a2, a3, a4, a5]⟩).getD (4 + 2 * j) 0 = [a0, a1, a2, a3, a4, a5].getD j 0 := by
      rcases (by omega : j = 0 ∨ j = 1 ∨ j = 2 ∨ j = 3 ∨ j = 4 ∨ j = 5) with rfl | rfl | rfl | rfl | rfl | rfl <;> rfl
    rw [e]
theorem load_len (p m : Nat) : (loadS p m).length ≤ 2 := by unfold loadS; split <;> simp
theorem test_len (sg : ByteArray) (j mask value : Nat) (yes no n : Int) : (testS sg j mask value yes no n).1.length ≤ 9 ∧ n ≤ (testS sg j mask value yes no n).2 ∧ (testS sg j mask value yes no n).2 ≤ n + 2 := by
  have h1 := load_len (16 + 8 * j + 4) (mask / 4294967296)
  have h2 := load_len (16 + 8 * j) (mask % 4294967296)
  unfold testS
  dsimp only
  split
  · refine ⟨?_, by dsimp only; omega, by dsimp only; omega⟩
    simp [greatS]; omega
  · split
    · refine ⟨?_, by dsimp only; omega, by dsimp only; omega⟩
      simp [greatS]; omega
    · refine ⟨?_, by dsimp only; omega, by dsimp only; omega⟩
      simp [sameS]; omega
theorem alone_kinds (c : Cnd) (h : c.alone = true) : (c.kind = 4 ∧ 0 ≤ c.arg ∧ c.arg ≤ 5 ∧ signOk c.sign = true ∧ c.kids.length = 0) ∨ ((c.kind = 1 ∨ c.kind = 2) ∧ 2 ≤ c.kids.length) ∨ (c.kind = 3 ∧ c.kids.length = 1) := by
  unfold Cnd.alone at h
  split at h
  · simp only [Bool.and_eq_true, decide_eq_true_eq] at h
    exact .inl ⟨by assumption, h.1.1.1, h.1.1.2, h.1.2, h.2⟩
  · split at h
    · simp only [Bool.and_eq_true, decide_eq_true_eq] at h
      exact .inr (.inl ⟨by assumption, h.1.2⟩)
    · split at h
      · simp only [Bool.and_eq_true, decide_eq_true_eq] at h
        exact .inr (.inr ⟨by assumption, h.2⟩)
      · cases h
mutual
theorem cond_len : ∀ (c : Cnd), c.fine = true → ∀ yes no n, (condS c yes no n).1.length + 1 ≤ 9 * c.tests + c.size ∧ n ≤ (condS c yes no n).2 ∧ (condS c yes no n).2 + 1 ≤ n + 2 * c.tests + c.size
  | .mk kind kids arg mask sign value, hf, yes, no, n => by
    rw [Cnd.fine_eq, Bool.and_eq_true] at hf
    have hs : (Cnd.mk kind kids arg mask sign value).size = 1 + sizes kids := Cnd.size_eq _
    have ht : (Cnd.mk kind kids arg mask sign value).tests = if kind = 4 then 1 else testss kids := Cnd.tests_eq _
    generalize (Cnd.mk kind kids arg mask sign value).size = S at *
    generalize (Cnd.mk kind kids arg mask sign value).tests = T at *
    rw [condS]
    simp only [Cnd.kids] at hf
    rcases alone_kinds _ hf.1 with ⟨h, _⟩ | ⟨h, h2⟩ | ⟨h, h2⟩
    · simp only [Cnd.kind] at h
      subst h
      rw [if_pos rfl] at ht
      subst hs ht
      rw [if_neg (by decide), if_neg (by decide)]
      obtain ⟨a, b, c⟩ := test_len sign arg.toNat mask value yes no n
      refine ⟨by omega, b, by omega⟩
    · simp only [Cnd.kind, Cnd.kids] at h h2
      rw [if_neg (by omega)] at ht
      subst hs ht
      rw [if_neg (by omega), if_pos h]
      obtain ⟨a, b, c⟩ := ser_len (decide (kind = 1)) kids hf.2 (by omega) yes no n
      refine ⟨by omega, b, by omega⟩
    · simp only [Cnd.kind, Cnd.kids] at h h2
      rw [if_neg (by omega)] at ht
      subst hs ht
      rw [if_pos h]
      match kids, h2 with
      | [k], _ =>
        rw [notS, testss, testss, sizes, sizes]
        rw [fines, Bool.and_eq_true] at hf
        obtain ⟨a, b, c⟩ := cond_len k hf.2.1 no yes n
        refine ⟨by omega, b, by omega⟩
theorem ser_len (both : Bool) : ∀ (l : List Cnd), fines l = true → l.length ≠ 0 → ∀ yes no n, (serS both l yes no n).1.length + 1 ≤ 9 * testss l + sizes l ∧ n ≤ (serS both l yes no n).2 ∧ (serS both l yes no n).2 + 1 ≤ n + 2 * testss l + sizes l
  | [], _, h, yes, no, n => absurd rfl h
  | k :: ks, hf, _, yes, no, n => by
    rw [fines, Bool.and_eq_true] at hf
    rw [serS, testss, sizes]
    by_cases h : ks.length = 0
    · rw [if_pos h]
      obtain ⟨a, b, c⟩ := cond_len k hf.1 yes no n
      refine ⟨by omega, b, by omega⟩
    · rw [if_neg h]
      dsimp only
      obtain ⟨a, b, c⟩ := cond_len k hf.1 (if both = true then n else yes) (if both = true then no else n) (n + 1)
      obtain ⟨a2, b2, c2⟩ := ser_len both ks hf.2 h yes no (condS k (if both = true then n else yes) (if both = true then no else n) (n + 1)).2
      rw [List.length_append, List.length_cons]
      refine ⟨by omega, by omega, by omega⟩
end
mutual
theorem cond_runs (s : ByteArray) (args : List Nat) (H : ArgWords s args) : ∀ (c : Cnd), c.fine = true → ∀ yes no n, yes < n → no < n → Runs s (condS c yes no n).1 yes no n (c.holds args)
  | .mk kind kids arg mask sign value, hf, yes, no, n, hy, hn => by
    rw [Cnd.fine_eq, Bool.and_eq_true] at hf
    rw [condS, Cnd.holds]
    simp only [Cnd.kids] at hf
    rcases alone_kinds _ hf.1 with ⟨h, h0, h5, hsg, _⟩ | ⟨h, h2⟩ | ⟨h, h2⟩
    · simp only [Cnd.kind, Cnd.arg, Cnd.sign] at h h0 h5 hsg
      subst h
      rw [if_neg (by decide), if_neg (by decide), if_neg (by decide), if_neg (by decide), if_neg (by decide)]
      obtain ⟨g1, g2, g3⟩ := H arg.toNat (by omega)
      exact test_runs s sign arg.toNat mask value _ yes no n hsg (by omega) g2 g3 g1 hy hn
    · simp only [Cnd.kind, Cnd.kids] at h h2
      rw [if_neg (by omega), if_pos h]
      have := ser_runs s args H (decide (kind = 1)) kids hf.2 (by omega) yes no n hy hn
      rcases h with rfl | rfl
      · exact this
      · exact this
    · simp only [Cnd.kind, Cnd.kids] at h h2
      subst h
      rw [if_pos rfl, if_neg (by decide), if_neg (by decide), if_pos rfl]
      match kids, h2 with
      | [k], _ =>
        rw [notS]
        rw [fines, Bool.and_eq_true] at hf
        have := (cond_runs s args H k hf.2.1 no yes n hn hy).not
        rw [anyH, anyH, Bool.or_false]
        exact this
theorem ser_runs (s : ByteArray) (args : List Nat) (H : ArgWords s args) (both : Bool) : ∀ (l : List Cnd), fines l = true → l.length ≠ 0 → ∀ yes no n, yes < n → no < n → Runs s (serS both l yes no n).1 yes no n (if both = true then allH args l else anyH args l)
  | [], _, h, _, _, _, _, _ => absurd rfl h
  | k :: ks, hf, _, yes, no, n, hy, hn => by
    rw [fines, Bool.and_eq_true] at hf
    rw [serS]
    by_cases h : ks.length = 0
    · rw [if_pos h]
      obtain rfl := List.eq_nil_of_length_eq_zero h
      have := cond_runs s args H k hf.1 yes no n hy hn
      cases both
      · simpa [anyH] using this
      · simpa [allH] using this
    · rw [if_neg h]
      dsimp only
      cases both
      · have h1 := cond_runs s args H k hf.1 yes n (n + 1) (by omega) (by omega)
        have hm := (cond_len k hf.1 yes n (n + 1)).2.1
        have h2 := ser_runs s args H false ks hf.2 h yes no (condS k yes n (n + 1)).2 (by omega) (by omega)
        simp only [Bool.false_eq_true, if_false] at h1 h2 ⊢
        rw [anyH]
        constructor
        · intro rest a
          rw [List.append_assoc, List.cons_append]
          obtain ⟨a1, e1⟩ := h1.1 (stL n :: ((serS false ks yes no (condS k yes n (n + 1)).2).1 ++ rest)) a
          rw [e1]
          cases hh : k.holds args
          · rw [if_neg (by decide), seek_lab, Bool.false_or]
            exact h2.1 rest a1
          · rw [if_pos rfl, seek_ne _ _ _ _ _ (by omega), Bool.true_or, if_pos rfl]
            exact ⟨a1, h2.2 rest yes a1 (by omega)⟩
        · intro rest L a hL
          rw [List.append_assoc, List.cons_append, h1.2 _ L a (by omega), seek_ne _ _ _ _ _ (by omega)]
          exact h2.2 rest L a (by omega)
      · have h1 := cond_runs s args H k hf.1 n no (n + 1) (by omega) (by omega)
        have hm := (cond_len k hf.1 n no (n + 1)).2.1
        have h2 := ser_runs s args H true ks hf.2 h yes no (condS k n no (n + 1)).2 (by omega) (by omega)
        simp only [if_true] at h1 h2 ⊢
        rw [allH]
        constructor
        · intro rest a
          rw [List.append_assoc, List.cons_append]
          obtain ⟨a1, e1⟩ := h1.1 (stL n :: ((serS true ks yes no (condS k n no (n + 1)).2).1 ++ rest)) a
          rw [e1]
          cases hh : k.holds args
          · rw [if_neg (by decide), seek_ne _ _ _ _ _ (by omega), Bool.false_and, if_neg (by decide)]
            exact ⟨a1, h2.2 rest no a1 (by omega)⟩
          · rw [if_pos rfl, seek_lab, Bool.true_and]
            exact h2.1 rest a1
        · intro rest L a hL
          rw [List.append_assoc, List.cons_append, h1.2 _ L a (by omega), seek_ne _ _ _ _ _ (by omega)]
          exact h2.2 rest L a (by omega)
end
mutual
theorem tests_le_size : ∀ c : Cnd, c.tests ≤ c.size
  | .mk k kids _ _ _ _ => by
    rw [Cnd.tests, Cnd.size]
    have := testss_le_sizes kids
    split <;> omega
theorem testss_le_sizes : ∀ l : List Cnd, testss l ≤ sizes l
  | [] => Nat.le_refl _
  | k :: ks => by rw [testss, sizes]; have := tests_le_size k; have := testss_le_sizes ks; omega
end
end Go.Proofs.Ytcejhfpdajbdcaa
