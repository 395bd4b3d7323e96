/- What a source's tokens are: plain. -/
import Derived.Test.YtpkpbohkdkmoiaaDoorLx4
namespace Go.Proofs.YtpkpbohkdkmoiaaDoor
set_option linter.unusedVariables false

/-! numbers -/
def decN (l : List UInt8) : Nat := l.foldl (fun n c => 10 * n + (c.toNat - 48)) 0
def isHex (l : List UInt8) : Bool := ([48, 120] : List UInt8).isPrefixOf l
/-- a number's text: the number, if it is one -/
def numL (l : List UInt8) : Option Nat :=
  if isHex l = true then
    (if 0 < (l.drop 2).length ∧ (l.drop 2).length ≤ 16 ∧ (l.drop 2).all (fun c => hexB c.toNat) = true then some (hexN (l.drop 2)) else none)
  else
    (if l ≠ [] ∧ ¬ (1 < l.length ∧ l.head? = some 48) ∧ l.all (fun c => digB c.toNat) = true ∧ decN l ≤ 18446744073709551615 then some (decN l) else none)
def numS' (s : ByteArray) : Option Nat := numL s.data.toList

/-! what stands at the beginning -/
def fst0 (c : Nat) (s : ByteArray) : Int × Nat :=
  if c = 32 ∨ c = 9 ∨ c = 13 then (-1, 1)
  else if c = 35 then (-1, runN s notLine)
  else if c = 10 then (4, 1)
  else if letB c = true then (1, runN s wrdB)
  else if digB c = true then (2, if (numS' (s.extract 0 (runN s wrdB))).isSome = true then runN s wrdB else 0)
  else (3, signN s)
def headN (s : ByteArray) : Nat := (s.data.toList.headD 0).toNat
def fstL (s : ByteArray) : Int × Nat := fst0 (headN s) s

structure Tk where
  kind : Int
  text : ByteArray
  pos : Nat
inductive Lx where
  | bad (pos : Nat)
  | ok (l : List Tk)
def Lx.pre (l : List Tk) : Lx → Lx
  | .bad p => .bad p
  | .ok r => .ok (l ++ r)
/-- the tokens from a place on, the end left out -/
def lexR (s : ByteArray) (p : Nat) : Lx :=
  if h : p < s.size then
    (if h2 : (fstL (s.extract p s.size)).2 = 0 then .bad p
     else (lexR s (p + (fstL (s.extract p s.size)).2)).pre (if (fstL (s.extract p s.size)).1 = -1 then [] else [⟨(fstL (s.extract p s.size)).1, s.extract p (p + (fstL (s.extract p s.size)).2), p⟩]))
  else .ok []
termination_by s.size - p
decreasing_by omega
theorem Lx.pre_pre (a b : List Tk) (r : Lx) : (r.pre b).pre a = r.pre (a ++ b) := by
  cases r <;> simp [Lx.pre]
theorem Lx.pre_nil (r : Lx) : r.pre [] = r := by cases r <;> rfl
theorem lexR_end (s : ByteArray) (p : Nat) (h : s.size ≤ p) : lexR s p = .ok [] := by
  unfold lexR; rw [dif_neg (by omega)]
theorem lexR_bad (s : ByteArray) (p : Nat) (h : p < s.size) {k : Int} (hf : fstL (s.extract p s.size) = (k, 0)) : lexR s p = .bad p := by
  unfold lexR; rw [dif_pos h, dif_pos (by rw [hf])]
theorem lexR_step (s : ByteArray) (p : Nat) (h : p < s.size) {k : Int} {z : Nat} (hf : fstL (s.extract p s.size) = (k, z)) (hz : z ≠ 0) :
    lexR s p = (lexR s (p + z)).pre (if k = -1 then [] else [⟨k, s.extract p (p + z), p⟩]) := by
  rw [lexR, dif_pos h, dif_neg (by rw [hf]; exact hz), hf]
/-- a source's tokens, or the error and its place -/
def lexS (s : ByteArray) : Lx := lexR s 0

theorem runN_pos (s : ByteArray) (p : Nat → Bool) (h : 0 < s.size) (h1 : p (headN s) = true) : 0 < runN s p := by
  have hl := ba_len s
  unfold runN headN at *
  cases hx : s.data.toList with
  | nil => rw [hx] at hl; simp at hl; omega
  | cons a l =>
    rw [hx] at h1
    simp only [List.headD_cons] at h1
    rw [List.takeWhile_cons, if_pos h1]; simp
theorem signN_le (s : ByteArray) : signN s ≤ s.size := by
  have hl := ba_len s
  unfold signN
  split
  · omega
  · rename_i t ht
    have := List.find?_some ht
    unfold atHead at this
    have h2 := (List.isPrefixOf_iff_prefix.1 this).length_le
    simp at h2
    rw [← hl]
    simpa using h2
theorem fstL_le (s : ByteArray) (h : 0 < s.size) : (fstL s).2 ≤ s.size := by
  have h1 := runN_le s notLine
  have h2 := runN_le s wrdB
  have h3 := signN_le s
  unfold fstL fst0
  repeat' split
  all_goals simp only
  all_goals omega
theorem fstL_kind (s : ByteArray) : (fstL s).1 = -1 ∨ ((fstL s).1 = 1 ∨ (fstL s).1 = 2 ∨ (fstL s).1 = 3 ∨ (fstL s).1 = 4) := by
  unfold fstL fst0
  repeat' split
  all_goals simp
/-- tokens that stand at their places, behind a place -/
def Placed (s : ByteArray) : Nat → List Tk → Prop
  | _, [] => True
  | p, t :: r => p ≤ t.pos ∧ 0 < t.text.size ∧ t.pos + t.text.size ≤ s.size ∧ t.text = s.extract t.pos (t.pos + t.text.size) ∧ (1 ≤ t.kind ∧ t.kind ≤ 4) ∧ Placed s (t.pos + t.text.size) r
theorem Placed.mono {s : ByteArray} {p q : Nat} {l : List Tk} (h : Placed s p l) (hq : q ≤ p) : Placed s q l := by
  cases l with
  | nil => trivial
  | cons t r => exact ⟨by have := h.1; omega, h.2⟩
theorem lexR_placed (s : ByteArray) : ∀ n p l, s.size - p ≤ n → lexR s p = .ok l → Placed s p l := by
  intro n
  induction n with
  | zero =>
    intro p l hn h
    rw [lexR_end s p (by omega)] at h
    injection h with h
    subst h
    trivial
  | succ n ih =>
    intro p l hn h
    by_cases hp : p < s.size
    case neg =>
      rw [lexR_end s p (by omega)] at h
      injection h with h
      subst h
      trivial
    obtain ⟨k, hk⟩ : ∃ k, (fstL (s.extract p s.size)).1 = k := ⟨_, rfl⟩
    obtain ⟨z, hz⟩ : ∃ z, (fstL (s.extract p s.size)).2 = z := ⟨_, rfl⟩
    have hle := fstL_le (s.extract p s.size) (by rw [ByteArray.size_extract]; omega)
    have hkd := fstL_kind (s.extract p s.size)
    have hf : fstL (s.extract p s.size) = (k, z) := by rw [← hk, ← hz]
    rw [hz, ByteArray.size_extract] at hle
    rw [hk] at hkd
    by_cases hz0 : z = 0
    · subst hz0
      rw [lexR_bad s p hp hf] at h
      cases h
    rw [lexR_step s p hp hf hz0] at h
    cases hr : lexR s (p + z) with
    | bad q => rw [hr] at h; cases h
    | ok r =>
      rw [hr] at h
      have hP := ih (p + z) r (by omega) hr
      injection h with h
      subst h
      by_cases hk1 : k = -1
      · rw [if_pos hk1]
        exact hP.mono (by omega)
      · rw [if_neg hk1]
        have hsz : (s.extract p (p + z)).size = z := by rw [ByteArray.size_extract]; omega
        refine ⟨Nat.le_refl _, by show 0 < (s.extract p (p + z)).size; omega, by show p + (s.extract p (p + z)).size ≤ _; omega, by show s.extract p (p + z) = s.extract p (p + (s.extract p (p + z)).size); rw [hsz], by show 1 ≤ k ∧ k ≤ 4; omega, ?_⟩
        show Placed s (p + (s.extract p (p + z)).size) r
        rw [hsz]
        exact hP
theorem lexS_placed {s : ByteArray} {l : List Tk} (h : lexS s = .ok l) : Placed s 0 l := lexR_placed s _ 0 l (Nat.le_refl _) h
theorem lexR_bad_le (s : ByteArray) : ∀ n p q, s.size - p ≤ n → lexR s p = .bad q → q < s.size := by
  intro n
  induction n with
  | zero =>
    intro p q hn h
    rw [lexR_end s p (by omega)] at h
    cases h
  | succ n ih =>
    intro p q hn h
    by_cases hp : p < s.size
    case neg =>
      rw [lexR_end s p (by omega)] at h
      cases h
    obtain ⟨k, hk⟩ : ∃ k, (fstL (s.extract p s.size)).1 = k := ⟨_, rfl⟩
    obtain ⟨z, hz⟩ : ∃ z, (fstL (s.extract p s.size)).2 = z := ⟨_, rfl⟩
    have hf : fstL (s.extract p s.size) = (k, z) := by rw [← hk, ← hz]
    by_cases hz0 : z = 0
    · subst hz0
      rw [lexR_bad s p hp hf] at h
      injection h with h
      omega
    rw [lexR_step s p hp hf hz0] at h
    cases hr : lexR s (p + z) with
    | bad q' =>
      rw [hr] at h
      injection h with h
      subst h
      exact ih (p + z) _ (by omega) hr
    | ok r => rw [hr] at h; cases h

theorem dropWhile_nil_iff (l : List UInt8) (p : UInt8 → Bool) : l.dropWhile p = [] ↔ ∀ c ∈ l, p c = true := by
  induction l with
  | nil => simp
  | cons a l ih =>
    rw [List.dropWhile_cons]
    by_cases h : p a = true
    · rw [if_pos h, ih]; simp [h]
    · rw [if_neg h]; simp [h]
theorem dropWhile_head (l : List UInt8) (p : UInt8 → Bool) (a : UInt8) (t : List UInt8) (h : l.dropWhile p = a :: t) : p a = false := by
  induction l with
  | nil => cases h
  | cons b l ih =>
    rw [List.dropWhile_cons] at h
    by_cases hb : p b = true
    · rw [if_pos hb] at h; exact ih h
    · rw [if_neg hb] at h
      injection h with h1 h2
      subst h1
      simpa using hb
theorem trimAll (l : List UInt8) (p : UInt8 → Bool) : (((l.reverse.dropWhile p).reverse).dropWhile p = []) ↔ ∀ c ∈ l, p c = true := by
  rw [dropWhile_nil_iff]
  constructor
  · intro h
    have h2 : l.reverse.dropWhile p = [] := by
      cases hx : l.reverse.dropWhile p with
      | nil => rfl
      | cons a t =>
        have h3 := h a (by rw [hx]; simp)
        rw [dropWhile_head _ _ _ _ hx] at h3
        cases h3
    rw [dropWhile_nil_iff] at h2
    intro c hc
    exact h2 c (by simpa using hc)
  · intro h
    intro c hc
    have : c ∈ l.reverse.dropWhile p := by simpa using hc
    exact h c (by simpa using (List.dropWhile_sublist p).mem this)
end Go.Proofs.YtpkpbohkdkmoiaaDoor
