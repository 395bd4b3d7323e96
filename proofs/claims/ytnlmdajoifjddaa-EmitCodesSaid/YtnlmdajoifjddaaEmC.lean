/- All instructions that are made are known: plain facts. -/
import Derived.Test.YtnlmdajoifjddaaEm4
namespace Go.Proofs.Ytnlmdajoifjddaa
open Go.RowKit
set_option linter.unusedVariables false

/-- an instruction behind which so many stand -/
def codeOk (i : Ins) (r : Nat) : Prop :=
  ((i.code = 32 ∨ i.code = 84 ∨ i.code = 6) ∧ i.jt = 0 ∧ i.jf = 0) ∨ (i.code = 5 ∧ i.jt = 0 ∧ i.jf = 0 ∧ i.k ≤ r) ∨ ((i.code = 21 ∨ i.code = 37 ∨ i.code = 53) ∧ i.jt = 0 ∧ i.jf = 1 ∧ 1 ≤ r)
def codesOk : List Ins → Prop
  | [] => True
  | i :: l => codeOk i l.length ∧ codesOk l
theorem way_codes {s s' : Asm} (h : codesOk s.c) {T : Int} (hw : s.way T = some s') : codesOk s'.c ∧ s'.c.length = s.c.length + 1 := by
  unfold Asm.way at hw
  cases he : s.env T with
  | none => rw [he] at hw; cases hw
  | some e =>
    rw [he] at hw
    have : s' = s.add ⟨5, 0, 0, ((s.c.length - e : Nat) : Int)⟩ := by injection hw with hw; exact hw.symm
    subst this
    exact ⟨⟨.inr (.inl ⟨rfl, rfl, rfl, by dsimp only; omega⟩), h⟩, rfl⟩
theorem test_codes {s s' : Asm} (h : codesOk s.c) {code : Int} (hc : code = 21 ∨ code = 37 ∨ code = 53) {o : Stp} (hw : s.test code o = some s') : codesOk s'.c := by
  unfold Asm.test at hw
  cases h1 : s.way o.f with
  | none => rw [h1] at hw; cases hw
  | some s1 =>
    rw [h1] at hw
    obtain ⟨a1, a2⟩ := way_codes h h1
    have hw : (s1.way o.t).map (fun s2 => s2.add ⟨code, 0, 1, (o.k : Int)⟩) = some s' := hw
    cases h2 : s1.way o.t with
    | none => rw [h2] at hw; cases hw
    | some s2 =>
      rw [h2] at hw
      obtain ⟨b1, b2⟩ := way_codes a1 h2
      have : s' = s2.add ⟨code, 0, 1, (o.k : Int)⟩ := by injection hw with hw; exact hw.symm
      subst this
      exact ⟨.inr (.inr ⟨hc, rfl, rfl, by omega⟩), b1⟩
theorem step_codes {s s' : Asm} (h : codesOk s.c) {o : Stp} (hw : s.step o = some s') : codesOk s'.c := by
  unfold Asm.step at hw
  split at hw
  · injection hw with hw; subst hw; exact h
  split at hw
  · injection hw with hw; subst hw; exact ⟨.inl ⟨.inl rfl, rfl, rfl⟩, h⟩
  split at hw
  · injection hw with hw; subst hw; exact ⟨.inl ⟨.inr (.inl rfl), rfl, rfl⟩, h⟩
  split at hw
  · injection hw with hw; subst hw; exact ⟨.inl ⟨.inr (.inr rfl), rfl, rfl⟩, h⟩
  split at hw
  · exact (way_codes h hw).1
  split at hw
  · exact test_codes h (.inl rfl) hw
  split at hw
  · exact test_codes h (.inr (.inl rfl)) hw
  split at hw
  · exact test_codes h (.inr (.inr rfl)) hw
  cases hw
theorem asmA_codes : ∀ (l : List Stp) (s : Asm), asmA l = some s → codesOk s.c
  | [], s, h => by injection h with h; subst h; trivial
  | o :: l, s, h => by
    have h : (asmA l).bind (fun s => s.step o) = some s := h
    cases h1 : asmA l with
    | none => rw [h1] at h; cases h
    | some s1 => rw [h1] at h; exact step_codes (asmA_codes l s1 h1) h
theorem codesOk_at : ∀ (c : List Ins) (i : Nat), codesOk c → i < c.length → codeOk (c.getD i insZ) (c.length - i - 1)
  | [], i, _, h => by simp at h
  | x :: c, 0, h, _ => h.1
  | x :: c, i + 1, h, hi => by
    have := codesOk_at c i h.2 (by simpa using hi)
    rw [show (x :: c).length - (i + 1) - 1 = c.length - i - 1 by simp]
    exact this
end Go.Proofs.Ytnlmdajoifjddaa
