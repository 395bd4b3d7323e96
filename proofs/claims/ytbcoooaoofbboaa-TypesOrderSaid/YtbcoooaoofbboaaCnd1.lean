/- Which conditions may be: the plain side, and the tests of one alone. -/
import Derived.Test.YtbcoooaoofbboaaCnd
import Derived.Test.YtbcoooaoofbboaaResRow
import Derived.Outline
namespace Go.Proofs.Ytbcoooaoofbboaa
open Go.RowKit Go.ChangeShapes
set_option linter.unusedVariables false

def sEq : ByteArray := ⟨#[61, 61]⟩
def sNe : ByteArray := ⟨#[33, 61]⟩
def sLt : ByteArray := ⟨#[60]⟩
def sLe : ByteArray := ⟨#[60, 61]⟩
def sGt : ByteArray := ⟨#[62]⟩
def sGe : ByteArray := ⟨#[62, 61]⟩
def signOk (s : ByteArray) : Bool := decide (s = sEq) || decide (s = sNe) || decide (s = sLt) || decide (s = sLe) || decide (s = sGt) || decide (s = sGe)
def Cnd.bare (c : Cnd) : Bool := decide (c.arg = 0) && decide (c.mask = 0) && decide (c.sign = ⟨#[]⟩) && decide (c.value = 0)
/-- may it be, as far as it alone is asked? -/
def Cnd.alone (c : Cnd) : Bool :=
  if c.kind = 4 then decide (0 ≤ c.arg) && decide (c.arg ≤ 5) && signOk c.sign && decide (c.kids.length = 0)
  else if c.kind = 1 ∨ c.kind = 2 then c.bare && decide (2 ≤ c.kids.length) && decide (c.kids.length < 100)
  else if c.kind = 3 then c.bare && decide (c.kids.length = 1)
  else false
mutual
def Cnd.size : Cnd → Nat
  | .mk _ kids _ _ _ _ => 1 + sizes kids
def sizes : List Cnd → Nat
  | [] => 0
  | k :: ks => k.size + sizes ks
end
mutual
/-- may all of it be? -/
def Cnd.fine : Cnd → Bool
  | .mk k kids a m s v => (Cnd.mk k kids a m s v).alone && fines kids
def fines : List Cnd → Bool
  | [] => true
  | k :: ks => k.fine && fines ks
end
mutual
def Cnd.tests : Cnd → Nat
  | .mk k kids _ _ _ _ => if k = 4 then 1 else testss kids
def testss : List Cnd → Nat
  | [] => 0
  | k :: ks => k.tests + testss ks
end
theorem Cnd.size_eq (c : Cnd) : c.size = 1 + sizes c.kids := by cases c; rw [Cnd.size]; rfl
theorem Cnd.fine_eq (c : Cnd) : c.fine = (c.alone && fines c.kids) := by cases c; rw [Cnd.fine]; rfl
theorem Cnd.tests_eq (c : Cnd) : c.tests = if c.kind = 4 then 1 else testss c.kids := by cases c; rw [Cnd.tests]; rfl
theorem sizes_app (l m : List Cnd) : sizes (l ++ m) = sizes l + sizes m := by
  induction l with
  | nil => simp [sizes]
  | cons a l ih => rw [List.cons_append, sizes, sizes, ih]; omega
theorem fines_app (l m : List Cnd) : fines (l ++ m) = (fines l && fines m) := by
  induction l with
  | nil => simp [fines]
  | cons a l ih => rw [List.cons_append, fines, fines, ih, Bool.and_assoc]
theorem testss_app (l m : List Cnd) : testss (l ++ m) = testss l + testss m := by
  induction l with
  | nil => simp [testss]
  | cons a l ih => rw [List.cons_append, testss, testss, ih]; omega
theorem sizes_len (l : List Cnd) : l.length ≤ sizes l := by
  induction l with
  | nil => simp
  | cons a l ih => rw [sizes, a.size_eq, List.length_cons]; omega
def Cnd.right (c : Cnd) : Bool := decide (c.size ≤ 100) && c.fine
def Cnd.testN (c : Cnd) : Nat := if c.right then c.tests else 0
def tst (k : Int) : Nat := if k = 4 then 1 else 0
/-- the count, one condition at a time; the last one first -/
def cntF : Nat → List Cnd → Nat → Nat × Bool
  | 0, st, t => if st.length = 0 then (t, true) else (0, false)
  | f + 1, st, t => if st.length = 0 then (t, true) else
      if (st.getD (st.length - 1) cndZ).alone then cntF f (st.take (st.length - 1) ++ (st.getD (st.length - 1) cndZ).kids) (t + tst (st.getD (st.length - 1) cndZ).kind) else (0, false)
theorem split_last (st : List Cnd) (h : st.length ≠ 0) : st = st.take (st.length - 1) ++ [st.getD (st.length - 1) cndZ] := by
  have h1 : st.length - 1 < st.length := by omega
  conv => lhs; rw [← List.take_append_drop (st.length - 1) st, List.drop_eq_getElem_cons h1, List.drop_of_length_le (by omega)]
  simp [List.getD, h1]
theorem cntF_eq : ∀ (f : Nat) (st : List Cnd) (t : Nat), cntF f st t = if sizes st ≤ f ∧ fines st = true then (t + testss st, true) else (0, false) := by
  intro f
  induction f with
  | zero =>
    intro st t
    rw [cntF]
    by_cases h : st.length = 0
    · obtain rfl := List.eq_nil_of_length_eq_zero h
      simp [sizes, fines, testss]
    · have := sizes_len st
      rw [if_neg h, if_neg (by omega)]
  | succ f ih =>
    intro st t
    rw [cntF]
    by_cases h : st.length = 0
    · obtain rfl := List.eq_nil_of_length_eq_zero h
      simp [sizes, fines, testss]
    · rw [if_neg h]
      have hs := split_last st h
      generalize st.take (st.length - 1) = st' at *
      generalize st.getD (st.length - 1) cndZ = c at *
      rw [hs, sizes_app, fines_app, testss_app]
      simp only [sizes, fines, testss, Nat.add_zero, Bool.and_true]
      rw [c.size_eq, c.fine_eq, c.tests_eq]
      cases ha : c.alone
      · rw [if_neg (by decide), if_neg (by simp)]
      · rw [if_pos rfl, ih, sizes_app, fines_app, testss_app]
        unfold tst
        have hk4 : c.kind = 4 → testss c.kids = 0 := by
          intro hk
          unfold Cnd.alone at ha
          rw [if_pos hk] at ha
          simp only [Bool.and_eq_true, decide_eq_true_eq] at ha
          rw [List.eq_nil_of_length_eq_zero ha.2]; rfl
        by_cases hp : sizes st' + sizes c.kids ≤ f ∧ (fines st' && fines c.kids) = true
        · have hq : sizes st' + (1 + sizes c.kids) ≤ f + 1 ∧ (fines st' && (true && fines c.kids)) = true := ⟨by omega, by simpa using hp.2⟩
          rw [if_pos hp, if_pos hq]
          by_cases hk : c.kind = 4
          · have := hk4 hk
            simp only [if_pos hk]
            congr 1
            omega
          · simp only [if_neg hk]
            congr 1 <;> omega
        · rw [if_neg hp, if_neg]
          rintro ⟨h1, h2⟩
          exact hp ⟨by omega, by simpa using h2⟩
theorem count_eq (c : Cnd) : cntF 100 [c] 0 = (c.testN, c.right) := by
  rw [cntF_eq]
  simp only [sizes, fines, testss, Nat.add_zero, Nat.zero_add, Bool.and_true]
  unfold Cnd.testN Cnd.right
  by_cases h : c.size ≤ 100 ∧ c.fine = true
  · rw [if_pos h]; simp [h.1, h.2]
  · rw [if_neg h]
    have : (decide (c.size ≤ 100) && c.fine) = false := by
      cases hf : c.fine
      · simp
      · simp only [Bool.and_true, decide_eq_false_iff_not]; exact fun hs => h ⟨hs, hf⟩
    rw [this]; rfl
theorem alone_few (c : Cnd) (h : c.alone = true) : c.kids.length < 100 := by
  unfold Cnd.alone at h
  split at h
  · simp only [Bool.and_eq_true, decide_eq_true_eq] at h; omega
  split at h
  · simp only [Bool.and_eq_true, decide_eq_true_eq] at h; omega
  split at h
  · simp only [Bool.and_eq_true, decide_eq_true_eq] at h; omega
  · cases h
theorem str_tests : sEq.toList = [61, 61] ∧ sNe.toList = [33, 61] ∧ sLt.toList = [60] ∧ sLe.toList = [60, 61] ∧ sGt.toList = [62] ∧ sGe.toList = [62, 61] := by decide +kernel
/-! ### the walks -/
set_option maxRecDepth 100000 in
theorem tySign_any (s : ByteArray) (w : World) : Calls Try.prog 45 #[.string s] w fun e w' => e = .returned (.bool (signOk s)) ∧ w = w' := by
  by_cases h1 : s = sEq
  · subst h1
    rw [show signOk sEq = true from rfl, sEq]
    go_enter Try.func45, Try.ntmps45
    go_wp2_with fail
    go_ret
    exact ⟨rfl, rfl⟩
  by_cases h2 : s = sNe
  · subst h2
    rw [show signOk sNe = true from rfl, sNe]
    go_enter Try.func45, Try.ntmps45
    go_wp2_with fail
    go_ret
    exact ⟨rfl, rfl⟩
  by_cases h3 : s = sLt
  · subst h3
    rw [show signOk sLt = true from rfl, sLt]
    go_enter Try.func45, Try.ntmps45
    go_wp2_with fail
    go_ret
    exact ⟨rfl, rfl⟩
  by_cases h4 : s = sLe
  · subst h4
    rw [show signOk sLe = true from rfl, sLe]
    go_enter Try.func45, Try.ntmps45
    go_wp2_with fail
    go_ret
    exact ⟨rfl, rfl⟩
  by_cases h5 : s = sGt
  · subst h5
    rw [show signOk sGt = true from rfl, sGt]
    go_enter Try.func45, Try.ntmps45
    go_wp2_with fail
    go_ret
    exact ⟨rfl, rfl⟩
  by_cases h6 : s = sGe
  · subst h6
    rw [show signOk sGe = true from rfl, sGe]
    go_enter Try.func45, Try.ntmps45
    go_wp2_with fail
    go_ret
    exact ⟨rfl, rfl⟩
  have hs : Hid (signOk s = false) := Lib.hid (by unfold signOk; simp [h1, h2, h3, h4, h5, h6])
  have t1 : (s.toList == [61, 61]) = false := by rw [← str_tests.1]; exact ba_tne h1
  have t2 : (s.toList == [33, 61]) = false := by rw [← str_tests.2.1]; exact ba_tne h2
  have t3 : (s.toList == [60]) = false := by rw [← str_tests.2.2.1]; exact ba_tne h3
  have t4 : (s.toList == [60, 61]) = false := by rw [← str_tests.2.2.2.1]; exact ba_tne h4
  have t5 : (s.toList == [62]) = false := by rw [← str_tests.2.2.2.2.1]; exact ba_tne h5
  have t6 : (s.toList == [62, 61]) = false := by rw [← str_tests.2.2.2.2.2]; exact ba_tne h6
  clear h1 h2 h3 h4 h5 h6
  go_enter Try.func45, Try.ntmps45
  go_wp2_with fail
  go_ret
  exact ⟨by rw [hs.out]; rfl, rfl⟩
end Go.Proofs.Ytbcoooaoofbboaa
