/- Steps as instructions: plain facts. -/
import Derived.Test.YtnlmdajoifjddaaOp
import Derived.Test.YtnlmdajoifjddaaInsnRow
import Derived.Test.YtnlmdajoifjddaaMaps
namespace Go.Proofs.Ytnlmdajoifjddaa
open Go.RowKit
set_option linter.unusedVariables false

def i64Keys : KeyKind Int where
  key := Value.int .i64
  desc := .int .i64
  is := fun _ => rfl
  inj := fun _ _ h => by injection h
  same := fun k => by simp [Instr.sameBits]
/-- how many instructions a step becomes -/
def szI (kind : Int) : Nat := if kind = 1 ∨ kind = 2 ∨ kind = 7 ∨ kind = 8 then 1 else if kind = 3 ∨ kind = 4 ∨ kind = 5 then 3 else 0
def sizeL (l : List Stp) : Nat := (l.map fun o => szI o.kind).sum
theorem szI_le (k : Int) : szI k ≤ 3 := by unfold szI; split; omega; split <;> omega
theorem sizeL_cons (o : Stp) (l : List Stp) : sizeL (o :: l) = szI o.kind + sizeL l := by simp [sizeL]
theorem sizeL_append (l m : List Stp) : sizeL (l ++ m) = sizeL l + sizeL m := by simp [sizeL]
theorem sizeL_le (l : List Stp) : sizeL l ≤ 3 * l.length := by
  induction l with
  | nil => simp [sizeL]
  | cons o l ih => rw [sizeL_cons, List.length_cons]; have := szI_le o.kind; omega
theorem sizeL_drop (l : List Stp) (n : Nat) : sizeL (l.drop n) ≤ sizeL l := by
  have := sizeL_append (l.take n) (l.drop n)
  rw [List.take_append_drop] at this
  omega
/-- what stands behind so far, and, of each label, how much stands behind it -/
structure Asm where
  c : List Ins
  env : Int → Option Nat
def asm0 : Asm := ⟨[], fun _ => none⟩
def Asm.add (s : Asm) (i : Ins) : Asm := { s with c := i :: s.c }
def Asm.way (s : Asm) (label : Int) : Option Asm := (s.env label).map fun e => s.add ⟨5, 0, 0, ((s.c.length - e : Nat) : Int)⟩
def Asm.test (s : Asm) (code : Int) (o : Stp) : Option Asm := (s.way o.f).bind fun s1 => (s1.way o.t).map fun s2 => s2.add ⟨code, 0, 1, (o.k : Int)⟩
def Asm.step (s : Asm) (o : Stp) : Option Asm :=
  if o.kind = 6 then some { s with env := fun T => if T = o.t then some s.c.length else s.env T }
  else if o.kind = 1 then some (s.add ⟨32, 0, 0, (o.k : Int)⟩)
  else if o.kind = 2 then some (s.add ⟨84, 0, 0, (o.k : Int)⟩)
  else if o.kind = 8 then some (s.add ⟨6, 0, 0, (o.k : Int)⟩)
  else if o.kind = 7 then s.way o.t
  else if o.kind = 3 then s.test 21 o
  else if o.kind = 4 then s.test 37 o
  else if o.kind = 5 then s.test 53 o
  else none
def asmA : List Stp → Option Asm
  | [] => some asm0
  | o :: l => (asmA l).bind fun s => s.step o
/-- each label's rest is no more than all -/
def Asm.ok (s : Asm) : Prop := (∀ T e, s.env T = some e → e ≤ s.c.length) ∧ (∀ i ∈ s.c, i.bounded)
theorem asm0_ok : asm0.ok := ⟨fun T e h => (by cases h), fun i hi => (by cases hi)⟩
theorem Asm.add_ok {s : Asm} (h : s.ok) {i : Ins} (hi : i.bounded) : (s.add i).ok := ⟨fun T e he => Nat.le_succ_of_le (h.1 T e he), fun j hj => by
  rcases List.mem_cons.1 hj with rfl | hj
  · exact hi
  · exact h.2 j hj⟩
theorem bnd_k (c jf : Int) (k : Nat) (hc : -9223372036854775808 ≤ c ∧ c ≤ 9223372036854775807) (hj : -9223372036854775808 ≤ jf ∧ jf ≤ 9223372036854775807) (hk : k ≤ 4294967295) : (⟨c, 0, jf, (k : Int)⟩ : Ins).bounded := by
  unfold Ins.bounded; simp only; omega
theorem Asm.way_ok {s s' : Asm} (h : s.ok) (hl : s.c.length ≤ 4294967295) {T : Int} (hw : s.way T = some s') : s'.ok ∧ s'.c.length = s.c.length + 1 ∧ s'.env = s.env := by
  unfold Asm.way at hw
  cases he : s.env T with
  | none => rw [he] at hw; cases hw
  | some e =>
    rw [he] at hw
    have : s' = s.add ⟨5, 0, 0, ((s.c.length - e : Nat) : Int)⟩ := by injection hw with hw; exact hw.symm
    subst this
    exact ⟨Asm.add_ok h (bnd_k 5 0 _ (by omega) (by omega) (by omega)), rfl, rfl⟩
theorem Asm.test_ok {s s' : Asm} (h : s.ok) (hl : s.c.length ≤ 4294967290) {code : Int} (hcode : -9223372036854775808 ≤ code ∧ code ≤ 9223372036854775807) {o : Stp} (hk : o.k ≤ 4294967295) (hw : s.test code o = some s') : s'.ok ∧ s'.c.length = s.c.length + 3 ∧ s'.env = s.env := by
  unfold Asm.test at hw
  cases h1 : s.way o.f with
  | none => rw [h1] at hw; cases hw
  | some s1 =>
    rw [h1] at hw
    obtain ⟨a1, a2, a3⟩ := Asm.way_ok h (by omega) h1
    have hw : (s1.way o.t).map (fun s2 => s2.add ⟨code, 0, 1, (o.k : Int)⟩) = some s' := hw
    cases h2 : s1.way o.t with
    | none => rw [h2] at hw; cases hw
    | some s2 =>
      rw [h2] at hw
      obtain ⟨b1, b2, b3⟩ := Asm.way_ok a1 (by omega) h2
      have : s' = s2.add ⟨code, 0, 1, (o.k : Int)⟩ := by injection hw with hw; exact hw.symm
      subst this
      exact ⟨Asm.add_ok b1 (bnd_k code 1 _ hcode (by omega) hk), by show s2.c.length + 1 = _; omega, by show s2.env = _; rw [b3, a3]⟩
theorem Asm.step_ok {s s' : Asm} (h : s.ok) (hl : s.c.length ≤ 4294967290) {o : Stp} (hk : o.k ≤ 4294967295) (hw : s.step o = some s') : s'.ok ∧ s'.c.length = s.c.length + szI o.kind := by
  unfold Asm.step at hw
  by_cases k6 : o.kind = 6
  · rw [if_pos k6] at hw
    injection hw with hw
    subst hw
    refine ⟨⟨fun T e he => ?_, h.2⟩, by rw [k6]; rfl⟩
    have he : (if T = o.t then some s.c.length else s.env T) = some e := he
    by_cases hT : T = o.t
    · rw [if_pos hT] at he
      injection he with he
      exact Nat.le_of_eq he.symm
    · rw [if_neg hT] at he
      exact h.1 T e he
  rw [if_neg k6] at hw
  by_cases k1 : o.kind = 1
  · rw [if_pos k1] at hw
    injection hw with hw; subst hw
    exact ⟨Asm.add_ok h (bnd_k 32 0 _ (by omega) (by omega) hk), by rw [k1]; rfl⟩
  rw [if_neg k1] at hw
  by_cases k2 : o.kind = 2
  · rw [if_pos k2] at hw
    injection hw with hw; subst hw
    exact ⟨Asm.add_ok h (bnd_k 84 0 _ (by omega) (by omega) hk), by rw [k2]; rfl⟩
  rw [if_neg k2] at hw
  by_cases k8 : o.kind = 8
  · rw [if_pos k8] at hw
    injection hw with hw; subst hw
    exact ⟨Asm.add_ok h (bnd_k 6 0 _ (by omega) (by omega) hk), by rw [k8]; rfl⟩
  rw [if_neg k8] at hw
  by_cases k7 : o.kind = 7
  · rw [if_pos k7] at hw
    obtain ⟨a, b, _⟩ := Asm.way_ok h (by omega) hw
    exact ⟨a, by rw [b, k7]; rfl⟩
  rw [if_neg k7] at hw
  by_cases k3 : o.kind = 3
  · rw [if_pos k3] at hw
    obtain ⟨a, b, _⟩ := Asm.test_ok h hl (by omega) hk hw
    exact ⟨a, by rw [b, k3]; rfl⟩
  rw [if_neg k3] at hw
  by_cases k4 : o.kind = 4
  · rw [if_pos k4] at hw
    obtain ⟨a, b, _⟩ := Asm.test_ok h hl (by omega) hk hw
    exact ⟨a, by rw [b, k4]; rfl⟩
  rw [if_neg k4] at hw
  by_cases k5 : o.kind = 5
  · rw [if_pos k5] at hw
    obtain ⟨a, b, _⟩ := Asm.test_ok h hl (by omega) hk hw
    exact ⟨a, by rw [b, k5]; rfl⟩
  rw [if_neg k5] at hw
  cases hw
theorem asmA_ok : ∀ (l : List Stp) (s : Asm), (∀ o ∈ l, o.k ≤ 4294967295) → l.length ≤ 100000 → asmA l = some s → s.ok ∧ s.c.length = sizeL l
  | [], s, _, _, h => by injection h with h; subst h; exact ⟨asm0_ok, rfl⟩
  | o :: l, s, hk, hl, h => by
    have h : (asmA l).bind (fun s => s.step o) = some s := h
    cases h1 : asmA l with
    | none => rw [h1] at h; cases h
    | some s1 =>
      rw [h1] at h
      obtain ⟨a, b⟩ := asmA_ok l s1 (fun o ho => hk o (List.mem_cons_of_mem _ ho)) (by simp at hl; omega) h1
      have hs := sizeL_le l
      have hl2 : l.length ≤ 100000 := by simp at hl; omega
      obtain ⟨c, d⟩ := Asm.step_ok a (by omega) (hk o (List.mem_cons_self ..)) h
      exact ⟨c, by rw [d, b, sizeL_cons]; omega⟩
end Go.Proofs.Ytnlmdajoifjddaa
