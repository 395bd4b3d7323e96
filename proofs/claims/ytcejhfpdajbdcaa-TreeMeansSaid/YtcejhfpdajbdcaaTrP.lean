/- A policy as steps: the plain side. -/
import Derived.Test.YtcejhfpdajbdcaaWmQ
import Derived.Test.YtcejhfpdajbdcaaTyp
namespace Go.Proofs.Ytcejhfpdajbdcaa
set_option linter.unusedVariables false

def retS (k : Nat) : Stp := ⟨8, k, 0, 0⟩
/-- may a rule's condition be asked? -/
def Mtc.askable (m : Mtc) : Bool := m.cnd.zero || m.cnd.right
/-- the steps for calls of one number, and the next label -/
def rulesS (d nr : Nat) : List Mtc → Int → List Stp × Int
  | [], n => ([retS d], n)
  | m :: l, n =>
    if m.nrs.contains nr = false then rulesS d nr l n
    else if m.cnd.zero = true then ([retS m.act], n)
    else
      let p := condS m.cnd n (n + 1) (n + 2)
      let q := rulesS d nr l p.2
      (p.1 ++ (stL n :: retS m.act :: stL (n + 1) :: q.1), q.2)
/-- what the rules answer a number -/
def ansR (d nr : Nat) (args : List Nat) : List Mtc → Nat
  | [] => d
  | m :: l => if (m.nrs.contains nr && m.cnd.does args) = true then m.act else ansR d nr args l
/-- steps that answer, whatever stands behind them -/
def Ends (s : ByteArray) (C : List Stp) (n : Int) (A : Nat → Nat) (a : Nat) : Prop :=
  (∀ rest, runS s (C ++ rest) a = ⟨0, A a, true, false⟩) ∧ ∀ rest L b, L < n → seekS s (C ++ rest) L b = seekS s rest L b
theorem run_ret (s : ByteArray) (l : List Stp) (k a : Nat) : runS s (retS k :: l) a = ⟨0, k, true, false⟩ := rfl
theorem seek_ret (s : ByteArray) (l : List Stp) (k : Nat) (L : Int) (a : Nat) : seekS s (retS k :: l) L a = seekS s l L a := seek_skip _ _ _ _ _ (fun e => absurd e.1 (by simp [retS]))
theorem rules_run (s : ByteArray) (args : List Nat) (H : ArgWords s args) (d nr : Nat) : ∀ (l : List Mtc), (∀ m ∈ l, m.askable = true) → ∀ n, 0 ≤ n →
    (∀ rest a, runS s ((rulesS d nr l n).1 ++ rest) a = ⟨0, ansR d nr args l, true, false⟩) ∧ (∀ rest L b, L < n → seekS s ((rulesS d nr l n).1 ++ rest) L b = seekS s rest L b) ∧ n ≤ (rulesS d nr l n).2
  | [], _, n, _ => ⟨fun rest a => rfl, fun rest L b _ => by rw [rulesS]; exact seek_ret _ _ _ _ _, Int.le_refl _⟩
  | m :: l, hl, n, hn => by
    have ih := fun n hn => rules_run s args H d nr l (fun m hm => hl m (List.mem_cons_of_mem _ hm)) n hn
    rw [rulesS, ansR]
    by_cases hc : m.nrs.contains nr = false
    · rw [if_pos hc, hc, Bool.false_and, if_neg (by decide)]
      exact ih n hn
    · have hc' : m.nrs.contains nr = true := by simpa using hc
      rw [if_neg hc, hc', Bool.true_and]
      by_cases hz : m.cnd.zero = true
      · have hd : m.cnd.does args = true := by unfold Cnd.does; rw [hz]; rfl
        rw [if_pos hz, hd, if_pos rfl]
        exact ⟨fun rest a => rfl, fun rest L b _ => seek_ret _ _ _ _ _, Int.le_refl _⟩
      · rw [if_neg hz]
        dsimp only
        have hr : m.cnd.right = true := by
          have := hl m List.mem_cons_self
          unfold Mtc.askable at this
          simpa [hz] using this
        have hf : m.cnd.fine = true := by unfold Cnd.right at hr; rw [Bool.and_eq_true] at hr; exact hr.2
        have hc1 := cond_runs s args H m.cnd hf n (n + 1) (n + 2) (by omega) (by omega)
        have hm := (cond_len m.cnd hf n (n + 1) (n + 2)).2.1
        rw [does_right _ _ hr]
        generalize condS m.cnd n (n + 1) (n + 2) = P at *
        obtain ⟨i1, i2, i3⟩ := ih P.2 (by omega)
        refine ⟨fun rest a => ?_, fun rest L b hL => ?_, by omega⟩
        · rw [List.append_assoc, List.cons_append, List.cons_append, List.cons_append]
          obtain ⟨a', e⟩ := hc1.1 (stL n :: retS m.act :: stL (n + 1) :: ((rulesS d nr l P.2).1 ++ rest)) a
          rw [e]
          cases hh : m.cnd.holds args
          · rw [if_neg (by decide), if_neg (by decide), seek_ne _ _ _ _ _ (by omega), seek_ret, seek_lab]
            exact i1 rest a'
          · rw [if_pos rfl, if_pos rfl, seek_lab, run_ret]
        · rw [List.append_assoc, List.cons_append, List.cons_append, List.cons_append, hc1.2 _ L b (by omega), seek_ne _ _ _ _ _ (by omega), seek_ret, seek_ne _ _ _ _ _ (by omega)]
          exact i2 rest L b (by omega)
/-- the tree over some numbers; the fuel is how many they may be -/
def branchS (d : Nat) (l : List Mtc) (missed : Int) : Nat → List Nat → Int → List Stp × Int
  | 0, _, n => ([], n)
  | f + 1, nums, n =>
    if nums.length = 1 then
      let q := rulesS d (nums.getD 0 0) l (n + 1)
      (⟨3, nums.getD 0 0, n, missed⟩ :: stL n :: q.1, q.2)
    else
      let p := branchS d l missed f (nums.take (nums.length / 2)) (n + 2)
      let q := branchS d l missed f (nums.drop (nums.length / 2)) p.2
      (⟨5, nums.getD (nums.length / 2) 0, n, n + 1⟩ :: stL (n + 1) :: (p.1 ++ (stL n :: q.1)), q.2)
theorem branch_run (s : ByteArray) (args : List Nat) (H : ArgWords s args) (d : Nat) (l : List Mtc) (hl : ∀ m ∈ l, m.askable = true) (missed : Int) (nr : Nat) : ∀ (f : Nat) (nums : List Nat), nums.length ≤ f → nums ≠ [] → nums.Pairwise (· < ·) → ∀ n, 0 ≤ n → missed < n →
    (∀ rest, runS s ((branchS d l missed f nums n).1 ++ rest) nr = if nr ∈ nums then ⟨0, ansR d nr args l, true, false⟩ else seekS s rest missed nr) ∧ (∀ rest L b, L < n → seekS s ((branchS d l missed f nums n).1 ++ rest) L b = seekS s rest L b) ∧ n ≤ (branchS d l missed f nums n).2 := by
  intro f
  induction f with
  | zero => intro nums h1 h2; exact absurd (List.eq_nil_of_length_eq_zero (by omega)) h2
  | succ f ih =>
    intro nums hlen hne hsort n hn hmn
    rw [branchS]
    by_cases h1 : nums.length = 1
    · rw [if_pos h1]
      dsimp only
      match nums, h1 with
      | [x], _ =>
        simp only [List.getD_cons_zero]
        obtain ⟨i1, i2, i3⟩ := rules_run s args H d x l hl (n + 1) (by omega)
        refine ⟨fun rest => ?_, fun rest L b hL => ?_, by omega⟩
        · rw [List.cons_append, run_eq, List.cons_append]
          by_cases hx : nr = x
          · subst hx
            rw [if_pos rfl, seek_lab, i1, if_pos (by simp)]
          · rw [if_neg hx, seek_ne _ _ _ _ _ (by omega), i2 _ _ _ (by omega), if_neg (by simpa using hx)]
        · rw [List.cons_append, seek_skip _ _ _ _ _ (fun e => absurd e.1 (by simp)), List.cons_append, seek_ne _ _ _ _ _ (by omega), i2 _ _ _ (by omega)]
    · rw [if_neg h1]
      dsimp only
      have hl2 : 2 ≤ nums.length := by
        have : nums.length ≠ 0 := fun e => hne (List.eq_nil_of_length_eq_zero e)
        omega
      have hh : nums.length / 2 < nums.length := by omega
      have hh1 : 1 ≤ nums.length / 2 := by omega
      obtain ⟨p1, p2, p3⟩ := ih (nums.take (nums.length / 2)) (by rw [List.length_take]; omega) (fun e => by have := congrArg List.length e; rw [List.length_take, List.length_nil] at this; omega) (hsort.sublist (List.take_sublist _ _)) (n + 2) (by omega) (by omega)
      generalize branchS d l missed f (nums.take (nums.length / 2)) (n + 2) = P at *
      obtain ⟨q1, q2, q3⟩ := ih (nums.drop (nums.length / 2)) (by rw [List.length_drop]; omega) (fun e => by have := congrArg List.length e; rw [List.length_drop, List.length_nil] at this; omega) (hsort.sublist (List.drop_sublist _ _)) P.2 (by omega) (by omega)
      generalize branchS d l missed f (nums.drop (nums.length / 2)) P.2 = Q at *
      have hsplit : nums = nums.take (nums.length / 2) ++ nums.drop (nums.length / 2) := (List.take_append_drop _ _).symm
      obtain ⟨mid, hmid⟩ : ∃ mid, nums.getD (nums.length / 2) 0 = mid := ⟨_, rfl⟩
      have hdrop : nums.drop (nums.length / 2) = mid :: nums.drop (nums.length / 2 + 1) := by
        rw [List.drop_eq_getElem_cons hh, ← hmid]; simp [List.getD, hh]
      rw [hmid]
      have hs2 := hsort
      rw [hsplit, List.pairwise_append] at hs2
      have hlo : ∀ y ∈ nums.take (nums.length / 2), y < mid := fun y hy => hs2.2.2 y hy mid (by rw [hdrop]; exact List.mem_cons_self)
      have hhi : ∀ y ∈ nums.drop (nums.length / 2), mid ≤ y := fun y hy => by
        have h3 := hs2.2.1
        rw [hdrop] at hy h3
        rcases List.mem_cons.1 hy with rfl | hy
        · exact Nat.le_refl _
        · exact Nat.le_of_lt (List.rel_of_pairwise_cons h3 hy)
      have hmem : nr ∈ nums ↔ nr ∈ nums.take (nums.length / 2) ∨ nr ∈ nums.drop (nums.length / 2) := by
        conv => lhs; rw [hsplit]
        exact List.mem_append
      refine ⟨fun rest => ?_, fun rest L b hL => ?_, by omega⟩
      · rw [List.cons_append, run_ge, List.cons_append, List.append_assoc, List.cons_append]
        by_cases hge : mid ≤ nr
        · have hno : nr ∉ nums.take (nums.length / 2) := fun h => by have := hlo nr h; omega
          rw [if_pos hge, seek_ne _ _ _ _ _ (by omega), p2 _ _ _ (by omega), seek_lab, q1]
          by_cases hm : nr ∈ nums.drop (nums.length / 2)
          · rw [if_pos hm, if_pos (hmem.2 (.inr hm))]
          · rw [if_neg hm, if_neg (fun h => (hmem.1 h).elim hno hm)]
        · have hno : nr ∉ nums.drop (nums.length / 2) := fun h => by have := hhi nr h; omega
          rw [if_neg hge, seek_lab, p1]
          by_cases hm : nr ∈ nums.take (nums.length / 2)
          · rw [if_pos hm, if_pos (hmem.2 (.inl hm))]
          · rw [if_neg hm, if_neg (fun h => (hmem.1 h).elim hm hno), seek_ne _ _ _ _ _ (by omega), q2 _ _ _ (by omega)]
      · rw [List.cons_append, seek_skip _ _ _ _ _ (fun e => absurd e.1 (by simp)), List.cons_append, seek_ne _ _ _ _ _ (by omega), List.append_assoc, List.cons_append, p2 _ _ _ (by omega), seek_ne _ _ _ _ _ (by omega), q2 _ _ _ (by omega)]
/-- all of a policy's steps, its numbers being these -/
def stepsS (t : Typ) (nums : List Nat) : List Stp :=
  ⟨1, 4, 0, 0⟩ :: ⟨3, t.arch, 0, 1⟩ :: stL 1 :: retS 2147483648 :: stL 0 :: ((if nums.length = 0 then [] else ⟨1, 0, 0, 0⟩ :: ((branchS t.dflt t.rules 2 nums.length nums 3).1 ++ [stL 2])) ++ [retS t.dflt])
/-- what a policy answers -/
def Typ.ans (t : Typ) (x : Cal) : Nat := if x.arch = t.arch then ansR t.dflt x.nr x.args t.rules else 2147483648
theorem ans_none (d nr : Nat) (args : List Nat) : ∀ (l : List Mtc), (∀ m ∈ l, nr ∉ m.nrs) → ansR d nr args l = d
  | [], _ => rfl
  | m :: l, h => by
    have h1 : m.nrs.contains nr = false := by
      rw [Bool.eq_false_iff, ne_eq, List.contains_iff_mem]
      exact h m List.mem_cons_self
    rw [ansR, h1, Bool.false_and, if_neg (by decide)]
    exact ans_none d nr args l (fun m hm => h m (List.mem_cons_of_mem _ hm))
theorem head_words (x : Cal) (hx : x.ok) : getL (cutL (x.recB 6) 0 4) = x.nr ∧ getL (cutL (x.recB 6) 4 4) = x.arch := by
  have h4 := hx.2.2.2.1
  have a := Cal.word x h4 0 (by omega)
  have b := Cal.word x h4 1 (by omega)
  have n1 := hx.1
  have n2 := hx.2.1
  refine ⟨?_, ?_⟩
  · rw [show 4 * 0 = 0 from rfl] at a
    rw [a, show x.words.getD 0 0 = x.nr from rfl, Nat.mod_eq_of_lt (by omega)]
  · rw [show 4 * 1 = 4 from rfl] at b
    rw [b, show x.words.getD 1 0 = x.arch from rfl, Nat.mod_eq_of_lt (by omega)]
theorem steps_run (t : Typ) (nums : List Nat) (x : Cal) (hx : x.ok) (hl : ∀ m ∈ t.rules, m.askable = true) (hsort : nums.Pairwise (· < ·)) (hall : ∀ n, n ∈ nums ↔ ∃ m ∈ t.rules, n ∈ m.nrs) :
    walkR (stepsS t nums) (x.recB 6) = ⟨0, t.ans x, true, false⟩ := by
  have hs : (x.recB 6).size = 64 := by rw [Cal.recB_size _ _ (by have := hx.2.2.2.1; omega)]
  obtain ⟨w0, w1⟩ := head_words x hx
  have H := arg_words x hx
  rw [walkR_run _ _ hs]
  generalize x.recB 6 = s at *
  unfold stepsS Typ.ans
  rw [runS, if_pos rfl, if_pos (by decide), w1, run_eq]
  by_cases ha : x.arch = t.arch
  · rw [if_pos ha, if_pos ha, seek_ne _ _ _ _ _ (by decide), seek_ret, seek_lab]
    by_cases h0 : nums.length = 0
    · obtain rfl := List.eq_nil_of_length_eq_zero h0
      rw [if_pos h0, List.nil_append, run_ret, ans_none _ _ _ _ (fun m hm h => by have := (hall x.nr).2 ⟨m, hm, h⟩; cases this)]
    · rw [if_neg h0, List.cons_append, runS, if_pos rfl, if_pos (by decide), w0, List.append_assoc]
      obtain ⟨b1, _, _⟩ := branch_run s x.args H t.dflt t.rules hl 2 x.nr nums.length nums (Nat.le_refl _) (fun e => h0 (by rw [e]; rfl)) hsort 3 (by omega) (by omega)
      rw [b1]
      by_cases hm : x.nr ∈ nums
      · rw [if_pos hm]
      · rw [if_neg hm, List.cons_append, seek_lab, List.nil_append, run_ret, ans_none _ _ _ _ (fun m hm2 h => hm ((hall x.nr).2 ⟨m, hm2, h⟩))]
  · rw [if_neg ha, if_neg ha, seek_lab, run_ret]
end Go.Proofs.Ytcejhfpdajbdcaa
