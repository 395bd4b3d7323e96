/- Steps behind steps, and steps with other labels: plain facts. -/
import Derived.Test.YtnlmdajoifjddaaEm4
namespace Go.Proofs.Ytnlmdajoifjddaa
open Go.RowKit
set_option linter.unusedVariables false

theorem asmA_app_none (l m : List Stp) (h : asmA m = none) : asmA (l ++ m) = none := by
  induction l with
  | nil => exact h
  | cons o l ih =>
    show (asmA (l ++ m)).bind _ = none
    rw [ih]; rfl
/-- a state with another one's behind it -/
structure Behind (s t u : Asm) : Prop where
  c : u.c = s.c ++ t.c
  env : ∀ T e, s.env T = some e → u.env T = some (e + t.c.length)
theorem Behind.way {s t u s' : Asm} (h : Behind s t u) (hok : s.ok) {T : Int} (hw : s.way T = some s') : ∃ u', u.way T = some u' ∧ Behind s' t u' := by
  unfold Asm.way at hw ⊢
  cases he : s.env T with
  | none => rw [he] at hw; cases hw
  | some e =>
    rw [he] at hw
    have : s' = s.add ⟨5, 0, 0, ((s.c.length - e : Nat) : Int)⟩ := by injection hw with hw; exact hw.symm
    subst this
    rw [h.env T e he]
    have hel := hok.1 T e he
    refine ⟨_, rfl, ⟨?_, h.env⟩⟩
    show _ :: u.c = (_ :: s.c) ++ t.c
    rw [h.c, List.length_append, show s.c.length + t.c.length - (e + t.c.length) = s.c.length - e by omega]
    rfl
theorem Behind.add {s t u : Asm} (h : Behind s t u) (i : Ins) : Behind (s.add i) t (u.add i) := ⟨by show i :: u.c = (i :: s.c) ++ t.c; rw [h.c]; rfl, h.env⟩
theorem Behind.test {s t u s' : Asm} (h : Behind s t u) (hok : s.ok) (hl : s.c.length ≤ 4294967290) {code : Int} {o : Stp} (hw : s.test code o = some s') : ∃ u', u.test code o = some u' ∧ Behind s' t u' := by
  unfold Asm.test at hw ⊢
  cases h1 : s.way o.f with
  | none => rw [h1] at hw; cases hw
  | some s1 =>
    rw [h1] at hw
    have hw : (s1.way o.t).map (fun s2 => s2.add ⟨code, 0, 1, (o.k : Int)⟩) = some s' := hw
    obtain ⟨u1, e1, b1⟩ := h.way hok h1
    obtain ⟨a1, a2, _⟩ := Asm.way_ok hok (by omega) h1
    cases h2 : s1.way o.t with
    | none => rw [h2] at hw; cases hw
    | some s2 =>
      rw [h2] at hw
      have : s' = s2.add ⟨code, 0, 1, (o.k : Int)⟩ := by injection hw with hw; exact hw.symm
      subst this
      obtain ⟨u2, e2, b2⟩ := b1.way a1 h2
      refine ⟨u2.add ⟨code, 0, 1, (o.k : Int)⟩, ?_, b2.add _⟩
      rw [e1]
      show (u1.way o.t).map _ = _
      rw [e2]
      rfl
theorem Behind.step {s t u s' : Asm} (h : Behind s t u) (hok : s.ok) (hl : s.c.length ≤ 4294967290) {o : Stp} (hw : s.step o = some s') : ∃ u', u.step o = some u' ∧ Behind s' t u' := by
  unfold Asm.step at hw ⊢
  by_cases k6 : o.kind = 6
  · rw [if_pos k6] at hw ⊢
    injection hw with hw; subst hw
    refine ⟨_, rfl, ⟨h.c, fun T e he => ?_⟩⟩
    have he : (if T = o.t then some s.c.length else s.env T) = some e := he
    show (if T = o.t then some u.c.length else u.env T) = _
    by_cases hT : T = o.t
    · rw [if_pos hT] at he ⊢
      injection he with he
      rw [h.c, List.length_append, ← he]
    · rw [if_neg hT] at he ⊢
      exact h.env T e he
  rw [if_neg k6] at hw ⊢
  by_cases k1 : o.kind = 1
  · rw [if_pos k1] at hw ⊢
    injection hw with hw; subst hw
    exact ⟨_, rfl, h.add _⟩
  rw [if_neg k1] at hw ⊢
  by_cases k2 : o.kind = 2
  · rw [if_pos k2] at hw ⊢
    injection hw with hw; subst hw
    exact ⟨_, rfl, h.add _⟩
  rw [if_neg k2] at hw ⊢
  by_cases k8 : o.kind = 8
  · rw [if_pos k8] at hw ⊢
    injection hw with hw; subst hw
    exact ⟨_, rfl, h.add _⟩
  rw [if_neg k8] at hw ⊢
  by_cases k7 : o.kind = 7
  · rw [if_pos k7] at hw ⊢
    exact h.way hok hw
  rw [if_neg k7] at hw ⊢
  by_cases k3 : o.kind = 3
  · rw [if_pos k3] at hw ⊢
    exact h.test hok hl hw
  rw [if_neg k3] at hw ⊢
  by_cases k4 : o.kind = 4
  · rw [if_pos k4] at hw ⊢
    exact h.test hok hl hw
  rw [if_neg k4] at hw ⊢
  by_cases k5 : o.kind = 5
  · rw [if_pos k5] at hw ⊢
    exact h.test hok hl hw
  rw [if_neg k5] at hw
  cases hw
theorem asmA_app (l m : List Stp) (t : Asm) (hm : asmA m = some t) (hk : ∀ o ∈ l, o.k ≤ 4294967295) (hlen : l.length ≤ 100000) : ∀ s, asmA l = some s → ∃ u, asmA (l ++ m) = some u ∧ Behind s t u := by
  induction l with
  | nil =>
    intro s h
    injection h with h
    subst h
    exact ⟨t, hm, ⟨rfl, fun T e he => (by cases he)⟩⟩
  | cons o l ih =>
    intro s h
    have h : (asmA l).bind (fun s => s.step o) = some s := h
    cases h1 : asmA l with
    | none => rw [h1] at h; cases h
    | some s1 =>
      rw [h1] at h
      have hl2 : l.length ≤ 100000 := by simp at hlen; omega
      obtain ⟨u1, e1, b1⟩ := ih (fun o ho => hk o (List.mem_cons_of_mem _ ho)) hl2 s1 h1
      obtain ⟨a1, a2⟩ := asmA_ok l s1 (fun o ho => hk o (List.mem_cons_of_mem _ ho)) hl2 h1
      have hs := sizeL_le l
      obtain ⟨u, e2, b2⟩ := b1.step a1 (by omega) h
      refine ⟨u, ?_, b2⟩
      show (asmA (l ++ m)).bind _ = _
      rw [e1]
      exact e2
/-- labels by other names -/
def renT (r : Int → Int) (o : Stp) : Stp := ⟨o.kind, o.k, r o.t, r o.f⟩
structure Named (r : Int → Int) (s u : Asm) : Prop where
  c : u.c = s.c
  env : ∀ T, u.env (r T) = s.env T
theorem Named.way {r : Int → Int} {s u : Asm} (h : Named r s u) (T : Int) : (s.way T = none ∧ u.way (r T) = none) ∨ ∃ s' u', s.way T = some s' ∧ u.way (r T) = some u' ∧ Named r s' u' := by
  unfold Asm.way
  rw [h.env T, h.c]
  cases s.env T with
  | none => exact .inl ⟨rfl, rfl⟩
  | some e => exact .inr ⟨_, _, rfl, rfl, ⟨by show _ :: u.c = _ :: s.c; rw [h.c], h.env⟩⟩
theorem Named.add {r : Int → Int} {s u : Asm} (h : Named r s u) (i : Ins) : Named r (s.add i) (u.add i) := ⟨by show i :: u.c = i :: s.c; rw [h.c], h.env⟩
def Both (r : Int → Int) (x y : Option Asm) : Prop := (x = none ∧ y = none) ∨ ∃ s u, x = some s ∧ y = some u ∧ Named r s u
theorem Named.test {r : Int → Int} {s u : Asm} (h : Named r s u) (code : Int) (o : Stp) : Both r (s.test code o) (u.test code (renT r o)) := by
  unfold Asm.test
  rcases h.way o.f with ⟨a, b⟩ | ⟨s1, u1, a, b, c⟩
  · exact .inl ⟨by rw [a]; rfl, by show (u.way (r o.f)).bind _ = _; rw [b]; rfl⟩
  · rcases c.way o.t with ⟨d, e⟩ | ⟨s2, u2, d, e, f⟩
    · refine .inl ⟨by rw [a]; show (s1.way o.t).map _ = _; rw [d]; rfl, ?_⟩
      show (u.way (r o.f)).bind _ = _
      rw [b]
      show (u1.way (r o.t)).map _ = _
      rw [e]; rfl
    · refine .inr ⟨s2.add ⟨code, 0, 1, (o.k : Int)⟩, u2.add ⟨code, 0, 1, (o.k : Int)⟩, by rw [a]; show (s1.way o.t).map _ = _; rw [d]; rfl, ?_, f.add _⟩
      show (u.way (r o.f)).bind _ = _
      rw [b]
      show (u1.way (r o.t)).map _ = _
      rw [e]; rfl
theorem Named.step {r : Int → Int} (hr : ∀ a b, r a = r b → a = b) {s u : Asm} (h : Named r s u) (o : Stp) : Both r (s.step o) (u.step (renT r o)) := by
  unfold Asm.step
  show Both r _ (if o.kind = 6 then some { u with env := fun T => if T = r o.t then some u.c.length else u.env T } else if o.kind = 1 then some (u.add ⟨32, 0, 0, (o.k : Int)⟩) else if o.kind = 2 then some (u.add ⟨84, 0, 0, (o.k : Int)⟩) else if o.kind = 8 then some (u.add ⟨6, 0, 0, (o.k : Int)⟩) else if o.kind = 7 then u.way (r o.t) else if o.kind = 3 then u.test 21 (renT r o) else if o.kind = 4 then u.test 37 (renT r o) else if o.kind = 5 then u.test 53 (renT r o) else none)
  by_cases k6 : o.kind = 6
  · rw [if_pos k6, if_pos k6]
    refine .inr ⟨_, _, rfl, rfl, ⟨h.c, fun T => ?_⟩⟩
    show (if r T = r o.t then some u.c.length else u.env (r T)) = (if T = o.t then some s.c.length else s.env T)
    by_cases e : T = o.t
    · rw [if_pos e, if_pos (by rw [e]), h.c]
    · rw [if_neg e, if_neg (fun h => e (hr _ _ h)), h.env]
  rw [if_neg k6, if_neg k6]
  by_cases k1 : o.kind = 1
  · rw [if_pos k1, if_pos k1]; exact .inr ⟨_, _, rfl, rfl, h.add _⟩
  rw [if_neg k1, if_neg k1]
  by_cases k2 : o.kind = 2
  · rw [if_pos k2, if_pos k2]; exact .inr ⟨_, _, rfl, rfl, h.add _⟩
  rw [if_neg k2, if_neg k2]
  by_cases k8 : o.kind = 8
  · rw [if_pos k8, if_pos k8]; exact .inr ⟨_, _, rfl, rfl, h.add _⟩
  rw [if_neg k8, if_neg k8]
  by_cases k7 : o.kind = 7
  · rw [if_pos k7, if_pos k7]; exact h.way o.t
  rw [if_neg k7, if_neg k7]
  by_cases k3 : o.kind = 3
  · rw [if_pos k3, if_pos k3]; exact h.test 21 o
  rw [if_neg k3, if_neg k3]
  by_cases k4 : o.kind = 4
  · rw [if_pos k4, if_pos k4]; exact h.test 37 o
  rw [if_neg k4, if_neg k4]
  by_cases k5 : o.kind = 5
  · rw [if_pos k5, if_pos k5]; exact h.test 53 o
  rw [if_neg k5, if_neg k5]
  exact .inl ⟨rfl, rfl⟩
theorem asmA_ren (r : Int → Int) (hr : ∀ a b, r a = r b → a = b) (l : List Stp) : Both r (asmA l) (asmA (l.map (renT r))) := by
  induction l with
  | nil => exact .inr ⟨asm0, asm0, rfl, rfl, ⟨rfl, fun _ => rfl⟩⟩
  | cons o l ih =>
    show Both r ((asmA l).bind _) ((asmA (l.map (renT r))).bind _)
    rcases ih with ⟨a, b⟩ | ⟨s, u, a, b, c⟩
    · rw [a, b]; exact .inl ⟨rfl, rfl⟩
    · rw [a, b]; exact c.step hr o
end Go.Proofs.Ytnlmdajoifjddaa
