/- Taking twice: plain facts. -/
import Derived.Test.YtimiooiaohfelaaDoorRoomT
namespace Go.Proofs.YtimiooiaohfelaaDoor
set_option linter.unusedVariables false

theorem tk_count (l : List Bool) (m k : Nat) (hk : k ≤ l.length) : (tk l m k).2.length = min m (freeN (l.take k)) := by
  induction k with
  | zero => simp [tk, freeN]
  | succ k ih =>
    have hkl : k < l.length := by omega
    have ih := ih (by omega)
    have hg : l.getD k true = l[k] := by simp [List.getD, hkl]
    rw [tk, freeN_snoc l k hkl, hg]
    cases hb : l[k]
    · by_cases h : (tk l m k).2.length < m
      · rw [if_pos ⟨h, rfl⟩]; simp; omega
      · rw [if_neg (fun x => h x.1)]; simp; omega
    · rw [if_neg (fun x => by cases x.2)]; simp; omega
theorem tk_step (l : List Bool) (m k : Nat) (hk : k < l.length) : tk l m (k + 1) = if freeN (l.take k) < m ∧ l.getD k true = false then ((tk l m k).1.set k true, (tk l m k).2 ++ [k]) else tk l m k := by
  rw [tk, tk_count l m k (by omega)]
  by_cases h : freeN (l.take k) < m
  · by_cases h2 : l.getD k true = false
    · rw [if_pos ⟨by omega, h2⟩, if_pos ⟨h, h2⟩]
    · rw [if_neg (fun x => h2 x.2), if_neg (fun x => h2 x.2)]
  · rw [if_neg (fun x => by omega), if_neg (fun x => h x.1)]
theorem tk_row (l : List Bool) (m k i : Nat) (hk : k ≤ l.length) (hi : i < l.length) : (tk l m k).1.getD i true = (l.getD i true || (decide (i < k) && decide (freeN (l.take i) < m))) := by
  induction k with
  | zero => simp [tk]
  | succ k ih =>
    have ih := ih (by omega)
    rw [tk_step l m k (by omega)]
    have hlen := tk_len l m k
    by_cases h : freeN (l.take k) < m ∧ l.getD k true = false
    · rw [if_pos h]
      by_cases hik : i = k
      · subst hik
        have : ((tk l m i).1.set i true).getD i true = true := by simp [List.getD, hlen, hi]
        rw [this, decide_eq_true (show i < i + 1 by omega), decide_eq_true h.1]
        simp
      · have : ((tk l m k).1.set k true).getD i true = (tk l m k).1.getD i true := by
          simp only [List.getD, List.getElem?_set]
          rw [if_neg (fun e => hik e.symm)]
        rw [this, ih]
        by_cases hlt : i < k
        · rw [decide_eq_true hlt, decide_eq_true (show i < k + 1 by omega)]
        · rw [decide_eq_false hlt, decide_eq_false (show ¬ i < k + 1 by omega)]
    · rw [if_neg h, ih]
      by_cases hik : i = k
      · subst hik
        rw [decide_eq_false (show ¬ i < i by omega), decide_eq_true (show i < i + 1 by omega)]
        cases hb : l.getD i true
        · rw [decide_eq_false (fun x => h ⟨x, hb⟩)]; rfl
        · rfl
      · by_cases hlt : i < k
        · rw [decide_eq_true hlt, decide_eq_true (show i < k + 1 by omega)]
        · rw [decide_eq_false hlt, decide_eq_false (show ¬ i < k + 1 by omega)]
/-- the row when all is looked at -/
def rowT (l : List Bool) (m : Nat) : List Bool := (tk l m l.length).1
theorem rowT_len (l : List Bool) (m : Nat) : (rowT l m).length = l.length := tk_len _ _ _
theorem rowT_get (l : List Bool) (m i : Nat) (hi : i < l.length) : (rowT l m).getD i true = (l.getD i true || decide (freeN (l.take i) < m)) := by
  rw [rowT, tk_row l m _ i (Nat.le_refl _) hi, decide_eq_true hi]; simp
theorem rowT_free (l : List Bool) (m i : Nat) (hi : i ≤ l.length) : freeN ((rowT l m).take i) = freeN (l.take i) - m := by
  induction i with
  | zero => simp [freeN]
  | succ i ih =>
    have h1 : i < l.length := by omega
    have h2 : i < (rowT l m).length := by rw [rowT_len]; exact h1
    have hg := rowT_get l m i h1
    have ih := ih (by omega)
    rw [freeN_snoc _ i h2, freeN_snoc l i h1, ih]
    rw [show (rowT l m).getD i true = (rowT l m)[i] from by simp [List.getD, h2], show l.getD i true = l[i] from by simp [List.getD, h1]] at hg
    rw [hg]
    cases hb : l[i]
    · by_cases h : freeN (l.take i) < m
      · rw [decide_eq_true h]; simp; omega
      · rw [decide_eq_false h]; simp; omega
    · simp
theorem rowT_free_all (l : List Bool) (m : Nat) : freeN (rowT l m) = freeN l - m := by
  have := rowT_free l m l.length (Nat.le_refl _)
  rwa [List.take_of_length_le (by rw [rowT_len]; exact Nat.le_refl _), List.take_of_length_le (Nat.le_refl _)] at this
theorem ext_getD {a b : List Bool} (h : a.length = b.length) (hg : ∀ i, i < a.length → a.getD i true = b.getD i true) : a = b := by
  apply List.ext_getElem h
  intro i h1 h2
  have := hg i h1
  simpa [List.getD, h1, h2] using this
theorem rowT_twice (l : List Bool) (a b : Nat) : rowT (rowT l a) b = rowT l (a + b) := by
  refine ext_getD (by simp only [rowT_len]) fun i hi => ?_
  have hi' : i < l.length := by simpa only [rowT_len] using hi
  rw [rowT_get _ b i (by rw [rowT_len]; exact hi'), rowT_get l a i hi', rowT_get l (a + b) i hi', rowT_free l a i (by omega)]
  cases l.getD i true
  · simp only [Bool.false_or]
    rw [Bool.eq_iff_iff]
    simp
    omega
  · simp
theorem got_twice (l : List Bool) (a b k : Nat) (hk : k ≤ l.length) : (tk l a k).2 ++ (tk (rowT l a) b k).2 = (tk l (a + b) k).2 := by
  induction k with
  | zero => rfl
  | succ k ih =>
    have hkl : k < l.length := by omega
    have ih := ih (by omega)
    have hx := rowT_get l a k hkl
    rw [tk_step l a k hkl, tk_step (rowT l a) b k (by rw [rowT_len]; exact hkl), tk_step l (a + b) k hkl, rowT_free l a k (by omega), hx]
    cases hb : l.getD k true
    · by_cases h : freeN (l.take k) < a
      · have hq : (tk (rowT l a) b k).2 = [] := by
          have := tk_count (rowT l a) b k (by rw [rowT_len]; omega)
          rw [rowT_free l a k (by omega)] at this
          exact List.eq_nil_of_length_eq_zero (by omega)
        rw [if_pos ⟨h, rfl⟩, if_neg (by rw [decide_eq_true h]; simp), if_pos ⟨by omega, rfl⟩]
        simp only [hq, List.append_nil] at ih ⊢
        rw [ih]
      · rw [if_neg (fun x => h x.1), decide_eq_false h]
        by_cases h2 : freeN (l.take k) < a + b
        · rw [if_pos ⟨by omega, rfl⟩, if_pos ⟨h2, rfl⟩]
          simp only
          rw [← List.append_assoc, ih]
        · rw [if_neg (fun x => by have := x.1; omega), if_neg (fun x => h2 x.1)]
          exact ih
    · rw [if_neg (fun x => by cases x.2), if_neg (fun x => by simp at x), if_neg (fun x => by cases x.2)]
      exact ih
theorem rowT_right (l : List Bool) (m : Nat) (h : rightB l = true) : rightB (rowT l m) = true := by
  have hl := rightB_len h
  unfold rightB at h ⊢
  rw [rowT_len, decide_eq_true hl]
  rw [decide_eq_true hl] at h
  simp only [Bool.true_and] at h ⊢
  rw [List.all_eq_true] at h ⊢
  intro x hx
  obtain ⟨i, hi, rfl⟩ := List.mem_iff_getElem.1 hx
  have hi2 : i < 54 ∧ i < l.length := by rw [List.length_take, rowT_len] at hi; omega
  have hg := rowT_get l m i hi2.2
  have hli : l.getD i true = true := by
    have := h l[i] (by rw [List.mem_iff_getElem]; exact ⟨i, by rw [List.length_take]; omega, by simp⟩)
    simpa [List.getD, hi2.2] using this
  rw [hli] at hg
  have : ((rowT l m).take 54)[i] = (rowT l m).getD i true := by
    simp [List.getD, rowT_len, hi2.2]
  rw [this, hg]
  simp
end Go.Proofs.YtimiooiaohfelaaDoor
