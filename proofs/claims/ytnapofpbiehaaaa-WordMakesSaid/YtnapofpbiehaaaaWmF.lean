/- The labels of a condition's steps: where they stand, and where jumps go. -/
import Derived.Test.YtnapofpbiehaaaaWmQ
namespace Go.Proofs.Ytnapofpbiehaaaa
set_option linter.unusedVariables false

def labIn (r : List Stp) (L : Int) : Prop := ∃ x ∈ r, x.kind = 6 ∧ x.t = L
/-- one step, ahead of the others -/
def fitS (yes no n n' : Int) (o : Stp) (r : List Stp) : Prop :=
  o.kind ≠ 8 ∧ (o.kind = 6 → n ≤ o.t ∧ o.t < n' ∧ ¬ labIn r o.t) ∧ (isJump o.kind = true → (o.t = yes ∨ o.t = no ∨ labIn r o.t) ∧ (o.kind ≠ 7 → o.f = yes ∨ o.f = no ∨ labIn r o.f))
def FitsL (yes no n n' : Int) : List Stp → Prop
  | [] => True
  | o :: r => fitS yes no n n' o r ∧ FitsL yes no n n' r
theorem FitsL.labs {yes no n n' : Int} : ∀ {l : List Stp}, FitsL yes no n n' l → ∀ L, labIn l L → n ≤ L ∧ L < n'
  | [], _, L, ⟨x, hx, _⟩ => by cases hx
  | o :: r, h, L, ⟨x, hx, hk, ht⟩ => by
    rcases List.mem_cons.1 hx with rfl | hx
    · have := h.1.2.1 hk
      rw [ht] at this
      exact ⟨this.1, this.2.1⟩
    · exact FitsL.labs h.2 L ⟨x, hx, hk, ht⟩
theorem labIn_app (a b : List Stp) (L : Int) : labIn (a ++ b) L ↔ labIn a L ∨ labIn b L := by
  constructor
  · rintro ⟨x, hx, h⟩
    rcases List.mem_append.1 hx with hx | hx
    · exact .inl ⟨x, hx, h⟩
    · exact .inr ⟨x, hx, h⟩
  · rintro (⟨x, hx, h⟩ | ⟨x, hx, h⟩)
    · exact ⟨x, List.mem_append_left _ hx, h⟩
    · exact ⟨x, List.mem_append_right _ hx, h⟩
/-- steps behind one another: the first ones go to labels of their own, or to ones that the others allow -/
theorem FitsL.app {yes no n n' y z a a' : Int} {B : List Stp} (hB : FitsL yes no n n' B) (hn : n ≤ a) (hn' : a' ≤ n') (hB2 : ∀ L, labIn B L → L < a ∨ a' ≤ L) (hy : y = yes ∨ y = no ∨ labIn B y) (hz : z = yes ∨ z = no ∨ labIn B z) :
    ∀ {A : List Stp}, FitsL y z a a' A → FitsL yes no n n' (A ++ B)
  | [], _ => hB
  | o :: r, h => by
    have go : ∀ L, (L = y ∨ L = z ∨ labIn r L) → (L = yes ∨ L = no ∨ labIn (r ++ B) L) := by
      rintro L (rfl | rfl | h)
      · exact hy.imp id (·.imp id fun h => (labIn_app _ _ _).2 (.inr h))
      · exact hz.imp id (·.imp id fun h => (labIn_app _ _ _).2 (.inr h))
      · exact .inr (.inr ((labIn_app _ _ _).2 (.inl h)))
    refine ⟨⟨h.1.1, fun hk => ?_, fun hj => ⟨go _ (h.1.2.2 hj).1, fun h7 => go _ ((h.1.2.2 hj).2 h7)⟩⟩, FitsL.app hB hn hn' hB2 hy hz h.2⟩
    obtain ⟨h1, h2, h3⟩ := h.1.2.1 hk
    refine ⟨by omega, by omega, fun hl => ?_⟩
    rcases (labIn_app _ _ _).1 hl with hl | hl
    · exact h3 hl
    · rcases hB2 _ hl with h | h <;> omega
theorem FitsL.one {yes no n n' : Int} {o : Stp} {r : List Stp} (h : FitsL yes no n n' r) (ho : fitS yes no n n' o r) : FitsL yes no n n' (o :: r) := ⟨ho, h⟩
theorem fit_load {yes no n n' : Int} (p m : Nat) {r : List Stp} (h : FitsL yes no n n' r) : FitsL yes no n n' (loadS p m ++ r) := by
  unfold loadS
  refine ⟨⟨by simp, fun e => absurd e (by simp), fun e => absurd e (by simp [isJump])⟩, ?_⟩
  split
  · exact h
  · exact ⟨⟨by simp, fun e => absurd e (by simp), fun e => absurd e (by simp [isJump])⟩, h⟩
theorem lab_load (p m : Nat) (r : List Stp) (L : Int) : labIn (loadS p m ++ r) L ↔ labIn r L := by
  rw [labIn_app]
  constructor
  · rintro (⟨x, hx, hk, _⟩ | h)
    · exfalso
      unfold loadS at hx
      rcases List.mem_cons.1 hx with rfl | hx
      · exact absurd hk (by simp)
      · split at hx
        · cases hx
        · rw [List.mem_singleton.1 hx] at hk
          exact absurd hk (by simp)
    · exact h
  · exact .inr
theorem lab_cons (o : Stp) (r : List Stp) (L : Int) : labIn (o :: r) L ↔ (o.kind = 6 ∧ o.t = L) ∨ labIn r L := by
  constructor
  · rintro ⟨x, hx, h⟩
    rcases List.mem_cons.1 hx with rfl | hx
    · exact .inl h
    · exact .inr ⟨x, hx, h⟩
  · rintro (h | ⟨x, hx, h⟩)
    · exact ⟨o, List.mem_cons_self, h⟩
    · exact ⟨x, List.mem_cons_of_mem _ hx, h⟩
theorem lab_nil (L : Int) : ¬ labIn [] L := fun ⟨x, hx, _⟩ => by cases hx
theorem fit_jump {yes no n n' : Int} {k : Nat} {kind y z : Int} {r : List Stp} (hk : kind = 3 ∨ kind = 4 ∨ kind = 5) (hy : y = yes ∨ y = no ∨ labIn r y) (hz : z = yes ∨ z = no ∨ labIn r z) : fitS yes no n n' ⟨kind, k, y, z⟩ r :=
  ⟨by rcases hk with rfl | rfl | rfl <;> simp, fun e => by rcases hk with rfl | rfl | rfl <;> exact absurd e (by simp), fun _ => ⟨hy, fun _ => hz⟩⟩
theorem fit_lab {yes no n n' L : Int} {r : List Stp} (h1 : n ≤ L) (h2 : L < n') (h3 : ¬ labIn r L) : fitS yes no n n' (stL L) r :=
  ⟨by simp [stL], fun _ => ⟨h1, h2, h3⟩, fun e => absurd e (by simp [stL, isJump])⟩
theorem same_fits (j mask value : Nat) (yes no n : Int) : FitsL yes no n (n + 1) (sameS j mask value yes no n) := by
  have l1 : FitsL yes no n (n + 1) [(⟨3, value % 4294967296, yes, no⟩ : Stp)] := ⟨fit_jump (.inl rfl) (.inl rfl) (.inr (.inl rfl)), trivial⟩
  have hn1 : ∀ L, ¬ labIn (loadS (16 + 8 * j) (mask % 4294967296) ++ [(⟨3, value % 4294967296, yes, no⟩ : Stp)]) L := fun L h => by
    rw [lab_load, lab_cons] at h
    rcases h with ⟨h, _⟩ | h
    · exact absurd h (by simp)
    · exact lab_nil _ h
  have l2 := FitsL.one (fit_load (16 + 8 * j) (mask % 4294967296) l1) (fit_lab (Int.le_refl n) (by omega) (hn1 n))
  exact fit_load _ _ (l2.one (fit_jump (.inl rfl) (.inr (.inr ((lab_cons _ _ _).2 (.inl ⟨rfl, rfl⟩)))) (.inr (.inl rfl))))
theorem great_fits (kind : Int) (hk : kind = 4 ∨ kind = 5) (j mask value : Nat) (yes no n : Int) : FitsL yes no n (n + 2) (greatS kind j mask value yes no n) := by
  have hk3 : kind = 3 ∨ kind = 4 ∨ kind = 5 := .inr hk
  have l1 : FitsL yes no n (n + 2) [(⟨kind, value % 4294967296, yes, no⟩ : Stp)] := ⟨fit_jump hk3 (.inl rfl) (.inr (.inl rfl)), trivial⟩
  have hn1 : ∀ L, ¬ labIn (loadS (16 + 8 * j) (mask % 4294967296) ++ [(⟨kind, value % 4294967296, yes, no⟩ : Stp)]) L := fun L h => by
    rw [lab_load, lab_cons] at h
    rcases h with ⟨h, _⟩ | h
    · rcases hk with rfl | rfl <;> exact absurd h (by simp)
    · exact lab_nil _ h
  have l2 := FitsL.one (fit_load (16 + 8 * j) (mask % 4294967296) l1) (fit_lab (L := n + 1) (by omega) (by omega) (hn1 _))
  have l3 := l2.one (o := ⟨3, value / 4294967296, n + 1, no⟩) (fit_jump (.inl rfl) (.inr (.inr ((lab_cons _ _ _).2 (.inl ⟨rfl, rfl⟩)))) (.inr (.inl rfl)))
  have l4 := l3.one (o := stL n) (fit_lab (Int.le_refl n) (by omega) (fun h => by
    rw [lab_cons, lab_cons] at h
    rcases h with ⟨h, _⟩ | ⟨_, h⟩ | h
    · exact absurd h (by simp)
    · have h : n + 1 = n := h
      omega
    · exact hn1 _ h))
  exact fit_load _ _ (l4.one (fit_jump (.inr (.inl rfl)) (.inl rfl) (.inr (.inr ((lab_cons _ _ _).2 (.inl ⟨rfl, rfl⟩))))))
theorem FitsL.swap {yes no n n' : Int} : ∀ {l : List Stp}, FitsL yes no n n' l → FitsL no yes n n' l
  | [], _ => trivial
  | o :: r, h => ⟨⟨h.1.1, h.1.2.1, fun hj => ⟨by rcases (h.1.2.2 hj).1 with h | h | h; exact .inr (.inl h); exact .inl h; exact .inr (.inr h), fun h7 => by rcases (h.1.2.2 hj).2 h7 with h | h | h; exact .inr (.inl h); exact .inl h; exact .inr (.inr h)⟩⟩, FitsL.swap h.2⟩
theorem test_fits (sg : ByteArray) (j mask value : Nat) (yes no n : Int) : FitsL yes no n (testS sg j mask value yes no n).2 (testS sg j mask value yes no n).1 := by
  unfold testS
  dsimp only
  by_cases ht : turnsS sg = true
  · rw [if_pos ht, if_pos ht]
    split
    · exact (great_fits 4 (.inl rfl) j mask value no yes n).swap
    · split
      · exact (great_fits 5 (.inr rfl) j mask value no yes n).swap
      · exact (same_fits j mask value no yes n).swap
  · rw [if_neg ht, if_neg ht]
    split
    · exact great_fits 4 (.inl rfl) j mask value yes no n
    · split
      · exact great_fits 5 (.inr rfl) j mask value yes no n
      · exact same_fits j mask value yes no n
theorem FitsL.mono {yes no n n' m : Int} (hm : m ≤ n) : ∀ {l : List Stp}, FitsL yes no n n' l → FitsL yes no m n' l
  | [], _ => trivial
  | o :: r, h => ⟨⟨h.1.1, fun hk => ⟨by have := (h.1.2.1 hk).1; omega, (h.1.2.1 hk).2⟩, h.1.2.2⟩, FitsL.mono hm h.2⟩
mutual
theorem cond_fits : ∀ (c : Cnd), c.fine = true → ∀ yes no n, FitsL yes no n (condS c yes no n).2 (condS c yes no n).1
  | .mk kind kids arg mask sign value, hf, yes, no, n => by
    rw [Cnd.fine_eq, Bool.and_eq_true] at hf
    rw [condS]
    simp only [Cnd.kids] at hf
    rcases alone_kinds _ hf.1 with ⟨h, _⟩ | ⟨h, h2⟩ | ⟨h, h2⟩
    · simp only [Cnd.kind] at h
      subst h
      rw [if_neg (by decide), if_neg (by decide)]
      exact test_fits sign arg.toNat mask value yes no n
    · simp only [Cnd.kind, Cnd.kids] at h h2
      rw [if_neg (by omega), if_pos h]
      exact ser_fits (decide (kind = 1)) kids hf.2 (by omega) yes no n
    · simp only [Cnd.kind, Cnd.kids] at h h2
      rw [if_pos h]
      match kids, h2 with
      | [k], _ =>
        rw [notS]
        rw [fines, Bool.and_eq_true] at hf
        exact (cond_fits k hf.2.1 no yes n).swap
theorem ser_fits (both : Bool) : ∀ (l : List Cnd), fines l = true → l.length ≠ 0 → ∀ yes no n, FitsL yes no n (serS both l yes no n).2 (serS both l yes no n).1
  | [], _, h, yes, no, n => absurd rfl h
  | k :: ks, hf, _, yes, no, n => by
    rw [fines, Bool.and_eq_true] at hf
    rw [serS]
    by_cases h : ks.length = 0
    · rw [if_pos h]
      exact cond_fits k hf.1 yes no n
    · rw [if_neg h]
      dsimp only
      have h1 := cond_fits k hf.1 (if both = true then n else yes) (if both = true then no else n) (n + 1)
      have hm := (cond_len k hf.1 (if both = true then n else yes) (if both = true then no else n) (n + 1)).2.1
      generalize condS k (if both = true then n else yes) (if both = true then no else n) (n + 1) = P at *
      have h2 := ser_fits both ks hf.2 h yes no P.2
      have hm2 := (ser_len both ks hf.2 h yes no P.2).2.1
      generalize serS both ks yes no P.2 = Q at *
      have hB : FitsL yes no n Q.2 (stL n :: Q.1) := (h2.mono (by omega)).one (fit_lab (Int.le_refl n) (by omega) (fun hl => by have := h2.labs _ hl; omega))
      have hn : labIn (stL n :: Q.1) n := (lab_cons _ _ _).2 (.inl ⟨rfl, rfl⟩)
      refine FitsL.app hB (a := n + 1) (a' := P.2) (by omega) hm2 (fun L hl => ?_) ?_ ?_ h1
      · rcases (lab_cons _ _ _).1 hl with ⟨_, h⟩ | h
        · have h : n = L := h
          exact .inl (by omega)
        · exact .inr (h2.labs _ h).1
      · cases both
        · exact .inl rfl
        · exact .inr (.inr hn)
      · cases both
        · exact .inr (.inr hn)
        · exact .inr (.inl rfl)
end
end Go.Proofs.Ytnapofpbiehaaaa
