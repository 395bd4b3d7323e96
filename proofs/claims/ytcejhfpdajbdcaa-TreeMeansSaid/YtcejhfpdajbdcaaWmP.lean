/- Conditions as steps: the plain side. -/
import Derived.Test.YtcejhfpdajbdcaaWordMath
import Derived.Test.YtcejhfpdajbdcaaHold
import Derived.Test.YtcejhfpdajbdcaaRecB
namespace Go.Proofs.Ytcejhfpdajbdcaa
set_option linter.unusedVariables false

/-! ### Where steps end, over what is left of them -/
mutual
def runS (s : ByteArray) : List Stp → Nat → Fin4
  | [], _ => ⟨-1, 0, false, false⟩
  | o :: l, a =>
    if o.kind = 1 then (if wordOk o.k then runS s l (getL (cutL s o.k 4)) else wrongF)
    else if o.kind = 2 then runS s l (a &&& o.k)
    else if o.kind = 6 then runS s l a
    else if o.kind = 8 then ⟨0, o.k, true, false⟩
    else if isJump o.kind then seekS s l (o.goal a) a
    else wrongF
def seekS (s : ByteArray) : List Stp → Int → Nat → Fin4
  | [], L, _ => ⟨L, 0, false, false⟩
  | o :: l, L, a => if o.kind = 6 ∧ o.t = L then runS s l a else seekS s l L a
end
theorem walk_run (l : List Stp) (s : ByteArray) : ∀ n p a, l.length - p = n → p ≤ l.length → walkW l s p a = runS s (l.drop p) a := by
  intro n
  induction n using Nat.strongRecOn with
  | _ n ih =>
    intro p a hn hp
    by_cases hlt : p < l.length
    · rw [List.drop_eq_getElem_cons hlt, runS]
      have hg : l.getD p stpZ = l[p] := by simp [List.getD, hlt]
      have hone : ∀ a, walkW l s (p + 1) a = runS s (l.drop (p + 1)) a := fun a => ih (l.length - (p + 1)) (by omega) (p + 1) a rfl (by omega)
      by_cases hj : isJump l[p].kind = true
      · have hk : l[p].kind = 3 ∨ l[p].kind = 4 ∨ l[p].kind = 5 ∨ l[p].kind = 7 := by simpa [isJump, or_assoc] using hj
        rw [if_neg (by omega), if_neg (by omega), if_neg (by omega), if_neg (by omega), if_pos hj, walkW_jump l s p a hlt l[p] hg.symm hj]
        unfold beh
        have hH : ∀ j, p < j → j < l.length → walkW l s (j + 1) a = runS s (l.drop (j + 1)) a := fun j h1 h2 => ih (l.length - (j + 1)) (by omega) (j + 1) a rfl (by omega)
        have hs : ∀ n q, q + n = l.length → p < q → (match behL l q (l[p].goal a) n with | none => (⟨l[p].goal a, 0, false, false⟩ : Fin4) | some j => walkW l s (j + 1) a) = seekS s (l.drop q) (l[p].goal a) a := by
          intro n
          induction n with
          | zero =>
            intro q hq _
            rw [List.drop_eq_nil_of_le (by omega)]
            simp only [behL, seekS]
          | succ n ihn =>
            intro q hq hpq
            have hql : q < l.length := by omega
            rw [List.drop_eq_getElem_cons hql, seekS, behL]
            rw [show l.getD q stpZ = l[q] by simp [List.getD, hql]]
            by_cases h : l[q].kind = 6 ∧ l[q].t = l[p].goal a
            · rw [if_pos h, if_pos h]
              exact hH q hpq hql
            · rw [if_neg h, if_neg h]
              exact ihn (q + 1) (by omega) (by omega)
        exact hs (l.length - (p + 1)) (p + 1) (by omega) (by omega)
      · rw [walkW, dif_pos hlt, hg]
        by_cases h1 : l[p].kind = 1
        · rw [if_pos h1, if_pos h1]
          by_cases h2 : wordOk l[p].k = true
          · rw [if_pos h2, if_pos h2]; exact hone _
          · rw [if_neg h2, if_neg h2]
        · rw [if_neg h1, if_neg h1]
          by_cases h2 : l[p].kind = 2
          · rw [if_pos h2, if_pos h2]; exact hone _
          · rw [if_neg h2, if_neg h2]
            by_cases h3 : l[p].kind = 6
            · rw [if_pos h3, if_pos h3]; exact hone _
            · rw [if_neg h3, if_neg h3]
              by_cases h4 : l[p].kind = 8
              · rw [if_pos h4, if_pos h4]
              · rw [if_neg h4, if_neg h4, if_neg hj, if_neg hj]
    · rw [walkW_end _ _ _ _ hlt, List.drop_eq_nil_of_le (by omega)]; rfl
theorem walkR_run (l : List Stp) (s : ByteArray) (h : s.size = 64) : walkR l s = runS s l 0 := by
  unfold walkR
  rw [if_pos h]
  exact walk_run l s _ 0 0 rfl (by omega)

/-! ### The steps of a condition -/
def stL (L : Int) : Stp := ⟨6, 0, L, 0⟩
def loadS (at' mask : Nat) : List Stp := ⟨1, at', 0, 0⟩ :: (if mask = 4294967295 then [] else [⟨2, mask, 0, 0⟩])
def sameS (j mask value : Nat) (yes no n : Int) : List Stp :=
  loadS (16 + 8 * j + 4) (mask / 4294967296) ++ (⟨3, value / 4294967296, n, no⟩ :: stL n :: (loadS (16 + 8 * j) (mask % 4294967296) ++ [⟨3, value % 4294967296, yes, no⟩]))
def greatS (kind : Int) (j mask value : Nat) (yes no n : Int) : List Stp :=
  loadS (16 + 8 * j + 4) (mask / 4294967296) ++ (⟨4, value / 4294967296, yes, n⟩ :: stL n :: ⟨3, value / 4294967296, n + 1, no⟩ :: stL (n + 1) :: (loadS (16 + 8 * j) (mask % 4294967296) ++ [⟨kind, value % 4294967296, yes, no⟩]))
def turnsS (s : ByteArray) : Bool := decide (s = sNe) || decide (s = sLt) || decide (s = sLe)
def testS (s : ByteArray) (j mask value : Nat) (yes no n : Int) : List Stp × Int :=
  let y := if turnsS s then no else yes
  let z := if turnsS s then yes else no
  if s = sGt ∨ s = sLe then (greatS 4 j mask value y z n, n + 2) else if s = sGe ∨ s = sLt then (greatS 5 j mask value y z n, n + 2) else (sameS j mask value y z n, n + 1)
mutual
def condS : Cnd → Int → Int → Int → List Stp × Int
  | .mk kind kids arg mask sign value, yes, no, n =>
    if kind = 3 then notS kids yes no n else if kind = 1 ∨ kind = 2 then serS (decide (kind = 1)) kids yes no n else testS sign arg.toNat mask value yes no n
def notS : List Cnd → Int → Int → Int → List Stp × Int
  | [], _, _, n => ([], n)
  | k :: _, yes, no, n => condS k no yes n
def serS (both : Bool) : List Cnd → Int → Int → Int → List Stp × Int
  | [], _, _, n => ([], n)
  | k :: ks, yes, no, n =>
    if ks.length = 0 then condS k yes no n
    else
      let p := condS k (if both then n else yes) (if both then no else n) (n + 1)
      let q := serS both ks yes no p.2
      (p.1 ++ (stL n :: q.1), q.2)
end

/-! ### They tell what holds -/
theorem seek_skip (s : ByteArray) (o : Stp) (l : List Stp) (L : Int) (a : Nat) (h : ¬ (o.kind = 6 ∧ o.t = L)) : seekS s (o :: l) L a = seekS s l L a := by rw [seekS, if_neg h]
theorem seek_lab (s : ByteArray) (l : List Stp) (L : Int) (a : Nat) : seekS s (stL L :: l) L a = runS s l a := by rw [seekS, if_pos ⟨rfl, rfl⟩]
theorem seek_ne (s : ByteArray) (l : List Stp) (L M : Int) (a : Nat) (h : M ≠ L) : seekS s (stL M :: l) L a = seekS s l L a := seek_skip _ _ _ _ _ (fun e => h e.2)
theorem seek_load (s : ByteArray) (p m : Nat) (l : List Stp) (L : Int) (a : Nat) : seekS s (loadS p m ++ l) L a = seekS s l L a := by
  unfold loadS
  rw [List.cons_append, seek_skip _ _ _ _ _ (fun e => absurd e.1 (by simp))]
  split
  · rfl
  · rw [List.cons_append, seek_skip _ _ _ _ _ (fun e => absurd e.1 (by simp))]; rfl
theorem run_lab (s : ByteArray) (l : List Stp) (L : Int) (a : Nat) : runS s (stL L :: l) a = runS s l a := rfl
theorem run_load (s : ByteArray) (p m : Nat) (l : List Stp) (a x : Nat) (hp : wordOk p = true) (hx : getL (cutL s p 4) = x) (hlt : x < 4294967296) : runS s (loadS p m ++ l) a = runS s l (x &&& m) := by
  unfold loadS
  rw [List.cons_append, runS, if_pos rfl, if_pos hp, hx]
  split
  · rename_i h
    rw [h, show (4294967295 : Nat) = 2 ^ 32 - 1 from rfl, Nat.and_two_pow_sub_one_eq_mod, Nat.mod_eq_of_lt hlt]; rfl
  · rw [List.cons_append, runS, if_neg (by simp), if_pos rfl]; rfl
theorem run_eq (s : ByteArray) (l : List Stp) (k a : Nat) (y z : Int) : runS s (⟨3, k, y, z⟩ :: l) a = seekS s l (if a = k then y else z) a := by
  rw [runS, if_neg (by simp), if_neg (by simp), if_neg (by simp), if_neg (by simp), if_pos (by rfl)]
  congr 1
  simp [Stp.goal, Stp.yes]
theorem run_gt (s : ByteArray) (l : List Stp) (k a : Nat) (y z : Int) : runS s (⟨4, k, y, z⟩ :: l) a = seekS s l (if k < a then y else z) a := by
  rw [runS, if_neg (by simp), if_neg (by simp), if_neg (by simp), if_neg (by simp), if_pos (by rfl)]
  congr 1
  simp [Stp.goal, Stp.yes]
theorem run_ge (s : ByteArray) (l : List Stp) (k a : Nat) (y z : Int) : runS s (⟨5, k, y, z⟩ :: l) a = seekS s l (if k ≤ a then y else z) a := by
  rw [runS, if_neg (by simp), if_neg (by simp), if_neg (by simp), if_neg (by simp), if_pos (by rfl)]
  congr 1
  simp [Stp.goal, Stp.yes]
/-- steps that end at one of two labels, and that are passed over by who looks for a label below theirs -/
def Runs (s : ByteArray) (C : List Stp) (yes no n : Int) (b : Bool) : Prop :=
  (∀ rest a, ∃ a', runS s (C ++ rest) a = seekS s rest (if b = true then yes else no) a') ∧ (∀ rest L a, L < n → seekS s (C ++ rest) L a = seekS s rest L a)
theorem and_hi (a m : Nat) : (a &&& m) / 4294967296 = a / 4294967296 &&& m / 4294967296 := by
  rw [show (4294967296 : Nat) = 2 ^ 32 from rfl, Nat.and_div_two_pow]
theorem and_lo (a m : Nat) : (a &&& m) % 4294967296 = a % 4294967296 &&& m % 4294967296 := by
  rw [show (4294967296 : Nat) = 2 ^ 32 from rfl, Nat.and_mod_two_pow]
theorem same_runs (s : ByteArray) (j mask value A : Nat) (yes no n : Int) (hj : j ≤ 5) (hh : getL (cutL s (16 + 8 * j + 4) 4) = A / 4294967296) (hl : getL (cutL s (16 + 8 * j) 4) = A % 4294967296) (hA : A ≤ 18446744073709551615)
    (hy : yes < n) (hn : no < n) : Runs s (sameS j mask value yes no n) yes no n (decide (A &&& mask = value)) := by
  have ok1 : wordOk (16 + 8 * j + 4) = true := by rw [wordOk_iff]; omega
  have ok2 : wordOk (16 + 8 * j) = true := by rw [wordOk_iff]; omega
  constructor
  · intro rest a
    unfold sameS
    rw [List.append_assoc, run_load _ _ _ _ _ _ ok1 hh (by omega), List.cons_append, run_eq, ← and_hi, List.cons_append]
    by_cases h : (A &&& mask) / 4294967296 = value / 4294967296
    · rw [if_pos h, seek_lab, List.append_assoc, run_load _ _ _ _ _ _ ok2 hl (by omega), ← and_lo]
      rw [List.cons_append, run_eq]
      refine ⟨(A &&& mask) % 4294967296, ?_⟩
      by_cases h2 : (A &&& mask) % 4294967296 = value % 4294967296
      · rw [if_pos h2, if_pos (decide_eq_true (by omega))]; rfl
      · rw [if_neg h2, if_neg (by rw [decide_eq_true_eq]; intro e; apply h2; rw [e])]; rfl
    · refine ⟨(A &&& mask) / 4294967296, ?_⟩
      rw [if_neg h, seek_ne _ _ _ _ _ (by omega), List.append_assoc, seek_load, List.cons_append, seek_skip _ _ _ _ _ (fun e => absurd e.1 (by simp)), if_neg (by rw [decide_eq_true_eq]; intro e; apply h; rw [e])]; rfl
  · intro rest L a hL
    unfold sameS
    rw [List.append_assoc, seek_load, List.cons_append, seek_skip _ _ _ _ _ (fun e => absurd e.1 (by simp)), List.cons_append, seek_ne _ _ _ _ _ (by omega), List.append_assoc, seek_load, List.cons_append, seek_skip _ _ _ _ _ (fun e => absurd e.1 (by simp))]; rfl
theorem great_runs (s : ByteArray) (kind : Int) (j mask value A : Nat) (yes no n : Int) (hk : kind = 4 ∨ kind = 5) (hj : j ≤ 5) (hh : getL (cutL s (16 + 8 * j + 4) 4) = A / 4294967296) (hl : getL (cutL s (16 + 8 * j) 4) = A % 4294967296) (hA : A ≤ 18446744073709551615)
    (hy : yes < n) (hn : no < n) : Runs s (greatS kind j mask value yes no n) yes no n (if kind = 4 then decide (value < A &&& mask) else decide (value ≤ A &&& mask)) := by
  have ok1 : wordOk (16 + 8 * j + 4) = true := by rw [wordOk_iff]; omega
  have ok2 : wordOk (16 + 8 * j) = true := by rw [wordOk_iff]; omega
  constructor
  · intro rest a
    unfold greatS
    rw [List.append_assoc, run_load _ _ _ _ _ _ ok1 hh (by omega), List.cons_append, run_gt, ← and_hi, List.cons_append]
    by_cases h : value / 4294967296 < (A &&& mask) / 4294967296
    · refine ⟨(A &&& mask) / 4294967296, ?_⟩
      rw [if_pos h, seek_ne _ _ _ _ _ (by omega), List.cons_append, seek_skip _ _ _ _ _ (fun e => absurd e.1 (by simp)), List.cons_append, seek_ne _ _ _ _ _ (by omega), List.append_assoc, seek_load, List.cons_append,
        seek_skip _ _ _ _ _ (fun e => by rcases hk with rfl | rfl <;> exact absurd e.1 (by simp))]
      have hb : (if kind = 4 then decide (value < A &&& mask) else decide (value ≤ A &&& mask)) = true := by split <;> exact decide_eq_true (by omega)
      rw [if_pos hb]; rfl
    · rw [if_neg h, seek_lab, List.cons_append, run_eq, List.cons_append]
      by_cases h2 : (A &&& mask) / 4294967296 = value / 4294967296
      · rw [if_pos h2, seek_lab, List.append_assoc, run_load _ _ _ _ _ _ ok2 hl (by omega), ← and_lo, List.cons_append]
        refine ⟨(A &&& mask) % 4294967296, ?_⟩
        rcases hk with rfl | rfl
        · rw [run_gt, if_pos rfl]
          by_cases h3 : value % 4294967296 < (A &&& mask) % 4294967296
          · rw [if_pos h3, if_pos (decide_eq_true (by omega))]; rfl
          · rw [if_neg h3, if_neg (by rw [decide_eq_true_eq]; omega)]; rfl
        · rw [run_ge, if_neg (show ¬ (5 : Int) = 4 by decide)]
          by_cases h3 : value % 4294967296 ≤ (A &&& mask) % 4294967296
          · rw [if_pos h3, if_pos (decide_eq_true (by omega))]; rfl
          · rw [if_neg h3, if_neg (by rw [decide_eq_true_eq]; omega)]; rfl
      · refine ⟨(A &&& mask) / 4294967296, ?_⟩
        rw [if_neg h2, seek_ne _ _ _ _ _ (by omega), List.append_assoc, seek_load, List.cons_append, seek_skip _ _ _ _ _ (fun e => by rcases hk with rfl | rfl <;> exact absurd e.1 (by simp))]
        have hb : ¬ (if kind = 4 then decide (value < A &&& mask) else decide (value ≤ A &&& mask)) = true := by split <;> (rw [decide_eq_true_eq]; omega)
        rw [if_neg hb]; rfl
  · intro rest L a hL
    unfold greatS
    rw [List.append_assoc, seek_load, List.cons_append, seek_skip _ _ _ _ _ (fun e => absurd e.1 (by simp)), List.cons_append, seek_ne _ _ _ _ _ (by omega), List.cons_append, seek_skip _ _ _ _ _ (fun e => absurd e.1 (by simp)), List.cons_append, seek_ne _ _ _ _ _ (by omega),
      List.append_assoc, seek_load, List.cons_append, seek_skip _ _ _ _ _ (fun e => by rcases hk with rfl | rfl <;> exact absurd e.1 (by simp))]; rfl
theorem Runs.not {s : ByteArray} {C : List Stp} {yes no n : Int} {b : Bool} (h : Runs s C yes no n b) : Runs s C no yes n (!b) := by
  refine ⟨fun rest a => ?_, h.2⟩
  obtain ⟨a', e⟩ := h.1 rest a
  exact ⟨a', by rw [e]; cases b <;> rfl⟩
theorem test_runs (s : ByteArray) (sg : ByteArray) (j mask value A : Nat) (yes no n : Int) (hsg : signOk sg = true) (hj : j ≤ 5) (hh : getL (cutL s (16 + 8 * j + 4) 4) = A / 4294967296) (hl : getL (cutL s (16 + 8 * j) 4) = A % 4294967296) (hA : A ≤ 18446744073709551615)
    (hy : yes < n) (hn : no < n) : Runs s (testS sg j mask value yes no n).1 yes no n (signV sg (A &&& mask) value) := by
  have g4 := fun y z hy hn => great_runs s 4 j mask value A y z n (.inl rfl) hj hh hl hA hy hn
  have g5 := fun y z hy hn => great_runs s 5 j mask value A y z n (.inr rfl) hj hh hl hA hy hn
  have g3 := fun y z hy hn => same_runs s j mask value A y z n hj hh hl hA hy hn
  rcases signs6 sg hsg with ⟨rfl, h⟩ | ⟨rfl, h⟩ | ⟨rfl, h⟩ | ⟨rfl, h⟩ | ⟨rfl, h⟩ | ⟨rfl, h⟩
  · rw [h]; exact g5 yes no hy hn
  · rw [h]; exact g4 yes no hy hn
  · rw [h]
    have := (g4 no yes hn hy).not
    rw [if_pos rfl] at this
    rw [show decide (A &&& mask ≤ value) = !decide (value < A &&& mask) by rw [← decide_not]; congr 1; simp]
    exact this
  · rw [h]
    have := (g5 no yes hn hy).not
    rw [if_neg (by decide)] at this
    rw [show decide (A &&& mask < value) = !decide (value ≤ A &&& mask) by rw [← decide_not]; congr 1; simp]
    exact this
  · rw [h]
    have := (g3 no yes hn hy).not
    rw [show decide (A &&& mask ≠ value) = !decide (A &&& mask = value) by rw [← decide_not]]
    exact this
  · rw [h]; exact g3 yes no hy hn
end Go.Proofs.Ytcejhfpdajbdcaa
