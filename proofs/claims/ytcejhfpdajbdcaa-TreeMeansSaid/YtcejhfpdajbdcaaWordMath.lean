/- Steps behind steps: plain facts. -/
import Derived.Test.YtcejhfpdajbdcaaWordWalk
namespace Go.Proofs.Ytcejhfpdajbdcaa
set_option linter.unusedVariables false

theorem getD_left (l m : List Stp) (i : Nat) (h : i < l.length) : (l ++ m).getD i stpZ = l.getD i stpZ := by
  simp [List.getD, List.getElem?_append_left h]
theorem behL_left (l m : List Stp) (label : Int) (j : Nat) : ∀ n i, i + n ≤ l.length → behL l i label n = some j → ∀ k, behL (l ++ m) i label (n + k) = some j := by
  intro n
  induction n with
  | zero => intro i _ h; cases h
  | succ n ih =>
    intro i hi h k
    rw [show n + 1 + k = (n + k) + 1 from by omega, behL, getD_left l m i (by omega)]
    rw [behL] at h
    split at h
    · rename_i hc; rw [if_pos hc]; exact h
    · rename_i hc; rw [if_neg hc]; exact ih (i + 1) (by omega) h k
theorem behL_none (l m : List Stp) (label : Int) : ∀ n i, i + n = l.length → behL l i label n = none → ∀ k, behL (l ++ m) i label (n + k) = behL (l ++ m) l.length label k := by
  intro n
  induction n with
  | zero => intro i hi _ k; rw [Nat.zero_add, show i = l.length from by omega]
  | succ n ih =>
    intro i hi h k
    rw [show n + 1 + k = (n + k) + 1 from by omega, behL, getD_left l m i (by omega)]
    rw [behL] at h
    split at h
    · cases h
    · rename_i hc; rw [if_neg hc]; exact ih (i + 1) (by omega) h k
theorem beh_left (l m : List Stp) (p : Nat) (label : Int) (j : Nat) (hp : p < l.length) (h : beh l p label = some j) : beh (l ++ m) p label = some j := by
  unfold beh at h ⊢
  rw [List.length_append, show l.length + m.length - (p + 1) = (l.length - (p + 1)) + m.length from by omega]
  exact behL_left l m label j _ _ (by omega) h _
theorem beh_none (l m : List Stp) (p : Nat) (label : Int) (hp : p < l.length) (h : beh l p label = none) : beh (l ++ m) p label = behL (l ++ m) l.length label m.length := by
  unfold beh at h ⊢
  rw [List.length_append, show l.length + m.length - (p + 1) = (l.length - (p + 1)) + m.length from by omega]
  exact behL_none l m label _ _ (by omega) h _

/-- how steps end, and what steps behind make of it -/
def Joins (l m : List Stp) (s : ByteArray) (p a : Nat) : Prop :=
  (((walkW l s p a).told = true ∨ (walkW l s p a).wrong = true) ∧ walkW (l ++ m) s p a = walkW l s p a) ∨
  (walkW l s p a = ⟨-1, 0, false, false⟩ ∧ ∃ a', walkW (l ++ m) s p a = walkW (l ++ m) s l.length a') ∨
  (∃ g q a', q < l.length ∧ beh l q g = none ∧ walkW l s p a = ⟨g, 0, false, false⟩ ∧
    walkW (l ++ m) s p a = match beh (l ++ m) q g with | none => ⟨g, 0, false, false⟩ | some j => walkW (l ++ m) s (j + 1) a')
theorem joins (l m : List Stp) (s : ByteArray) : ∀ n p a, l.length - p = n → p ≤ l.length → Joins l m s p a := by
  intro n
  induction n using Nat.strongRecOn with
  | _ n ih =>
    intro p a hn hp
    have step : ∀ p' a', p < p' → p' ≤ l.length → walkW l s p a = walkW l s p' a' → walkW (l ++ m) s p a = walkW (l ++ m) s p' a' → Joins l m s p a := by
      intro p' a' h1 h2 e1 e2
      have := ih (l.length - p') (by omega) p' a' rfl h2
      unfold Joins at this ⊢
      rw [e1, e2]
      exact this
    have stop : ∀ E : Fin4, (E.told = true ∨ E.wrong = true) → walkW l s p a = E → walkW (l ++ m) s p a = E → Joins l m s p a := by
      intro E hE e1 e2
      left
      rw [e1, e2]
      exact ⟨hE, rfl⟩
    by_cases hlt : p < l.length
    · have hlt2 : p < (l ++ m).length := by rw [List.length_append]; omega
      have hg := getD_left l m p hlt
      obtain ⟨o, ho⟩ : ∃ o, o = l.getD p stpZ := ⟨_, rfl⟩
      have ho2 : o = (l ++ m).getD p stpZ := by rw [hg]; exact ho
      have u1 := walkW.eq_1 l s p a
      have u2 := walkW.eq_1 (l ++ m) s p a
      rw [dif_pos hlt, ← ho] at u1
      rw [dif_pos hlt2, ← ho2] at u2
      by_cases h1 : o.kind = 1
      · rw [if_pos h1] at u1 u2
        cases hw : wordOk o.k
        · rw [hw] at u1 u2
          exact stop wrongF (.inr rfl) u1 u2
        · rw [hw] at u1 u2
          exact step (p + 1) _ (by omega) (by omega) u1 u2
      · rw [if_neg h1] at u1 u2
        by_cases h2 : o.kind = 2
        · rw [if_pos h2] at u1 u2
          exact step (p + 1) _ (by omega) (by omega) u1 u2
        · rw [if_neg h2] at u1 u2
          by_cases h6 : o.kind = 6
          · rw [if_pos h6] at u1 u2
            exact step (p + 1) _ (by omega) (by omega) u1 u2
          · rw [if_neg h6] at u1 u2
            by_cases h8 : o.kind = 8
            · rw [if_pos h8] at u1 u2
              exact stop _ (.inl rfl) u1 u2
            · rw [if_neg h8] at u1 u2
              by_cases hj : isJump o.kind = true
              · have j1 := walkW_jump l s p a hlt o ho hj
                have j2 := walkW_jump (l ++ m) s p a hlt2 o ho2 hj
                cases hb : beh l p (o.goal a) with
                | none =>
                  rw [hb] at j1
                  exact .inr (.inr ⟨o.goal a, p, a, hlt, hb, j1, j2⟩)
                | some j =>
                  rw [hb] at j1
                  rw [beh_left l m p _ j hlt hb] at j2
                  have := beh_bound l p _ j hb
                  exact step (j + 1) a (by omega) (by omega) j1 j2
              · rw [if_neg hj] at u1 u2
                exact stop wrongF (.inr rfl) u1 u2
    · have : p = l.length := by omega
      subst this
      exact .inr (.inl ⟨walkW_end _ _ _ _ (by omega), a, rfl⟩)

theorem join_stop (l m : List Stp) (s : ByteArray) (h : (walkR l s).told = true ∨ (walkR l s).wrong = true) : walkR (l ++ m) s = walkR l s := by
  unfold walkR at h ⊢
  by_cases hs : s.size = 64
  · rw [if_pos hs] at h ⊢
    rw [if_pos hs]
    rcases joins l m s _ 0 0 rfl (by omega) with ⟨_, e⟩ | ⟨e, _⟩ | ⟨g, q, a', _, _, e, _⟩
    · exact e
    · rw [e] at h; rcases h with h | h <;> cases h
    · rw [e] at h; rcases h with h | h <;> cases h
  · rw [if_neg hs, if_neg hs]
theorem walk_ret (l : List Stp) (s : ByteArray) (p a k : Nat) (hp : p < l.length) (h : l.getD p stpZ = ⟨8, k, 0, 0⟩) : walkW l s p a = ⟨0, k, true, false⟩ := by
  rw [walkW, dif_pos hp, h]
  simp
theorem join_end (l : List Stp) (s : ByteArray) (h : walkR l s = ⟨-1, 0, false, false⟩) :
    walkR (l ++ [⟨8, 5, 0, 0⟩]) s = ⟨0, 5, true, false⟩ ∨ walkR (l ++ [⟨8, 5, 0, 0⟩]) s = ⟨-1, 0, false, false⟩ := by
  unfold walkR at h ⊢
  by_cases hs : s.size = 64
  · rw [if_pos hs] at h ⊢
    rcases joins l [⟨8, 5, 0, 0⟩] s _ 0 0 rfl (by omega) with ⟨h1, _⟩ | ⟨_, a', e⟩ | ⟨g, q, a', hq, hn, e, e2⟩
    · rw [h] at h1; rcases h1 with h1 | h1 <;> cases h1
    · left
      rw [e]
      exact walk_ret _ _ _ _ _ (by simp) (by simp [List.getD])
    · right
      rw [beh_none l _ q g hq hn] at e2
      have hb : behL (l ++ [⟨8, 5, 0, 0⟩]) l.length g [(⟨8, 5, 0, 0⟩ : Stp)].length = none := by
        simp [behL]
      rw [hb] at e2
      rw [e2, ← e, h]
  · rw [if_neg hs] at h
    cases h
theorem join_label (l : List Stp) (s : ByteArray) (L : Int) (h : walkR l s = ⟨L, 0, false, false⟩) (hL : L ≠ -1) :
    walkR (l ++ [⟨6, 0, L, 0⟩, ⟨8, 6, 0, 0⟩]) s = ⟨0, 6, true, false⟩ := by
  unfold walkR at h ⊢
  by_cases hs : s.size = 64
  · rw [if_pos hs] at h ⊢
    rcases joins l [⟨6, 0, L, 0⟩, ⟨8, 6, 0, 0⟩] s _ 0 0 rfl (by omega) with ⟨h1, _⟩ | ⟨e, _⟩ | ⟨g, q, a', hq, hn, e, e2⟩
    · rw [h] at h1; rcases h1 with h1 | h1 <;> cases h1
    · rw [h] at e
      injection e with e
      exact absurd e hL
    · rw [h] at e
      injection e with e
      subst e
      rw [beh_none l _ q L hq hn] at e2
      have h0 : (l ++ [(⟨6, 0, L, 0⟩ : Stp), ⟨8, 6, 0, 0⟩]).getD l.length stpZ = ⟨6, 0, L, 0⟩ := by simp [List.getD]
      have hb : behL (l ++ [⟨6, 0, L, 0⟩, ⟨8, 6, 0, 0⟩]) l.length L [(⟨6, 0, L, 0⟩ : Stp), ⟨8, 6, 0, 0⟩].length = some l.length := by
        simp only [List.length_cons, List.length_nil, behL, h0, and_self, if_true]
      rw [hb] at e2
      rw [e2]
      exact walk_ret _ _ _ _ _ (by simp) (by simp [List.getD])
  · rw [if_neg hs] at h
    cases h
/-- what steps answer, if they don't answer -/
theorem walk_plain (l : List Stp) (s : ByteArray) (h1 : (walkR l s).told = false) (h2 : (walkR l s).wrong = false) : walkR l s = ⟨(walkR l s).label, 0, false, false⟩ := by
  by_cases hs : s.size = 64
  · have e0 : walkR l s = walkW l s 0 0 := by unfold walkR; rw [if_pos hs]
    rw [e0] at h1 h2 ⊢
    rcases joins l [] s _ 0 0 rfl (by omega) with ⟨h, _⟩ | ⟨e, _⟩ | ⟨g, q, a', _, _, e, _⟩
    · rw [h1, h2] at h; rcases h with h | h <;> cases h
    · rw [e]
    · rw [e]
  · have e0 : walkR l s = wrongF := by unfold walkR; rw [if_neg hs]
    rw [e0] at h2
    cases h2
end Go.Proofs.Ytcejhfpdajbdcaa
