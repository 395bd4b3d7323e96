/- Tn4, Tt1, Tt2, in one text. -/
import Derived.Test.YtcejhfpdajbdcaaSr10
import Derived.Test.YtcejhfpdajbdcaaTrP
import Derived.Test.YtcejhfpdajbdcaaWordMath
import Derived.Test.YtcejhfpdajbdcaaPkU
import Derived.Test.YtcejhfpdajbdcaaWordWalk
namespace Go.Proofs.Ytcejhfpdajbdcaa
section STn4
open Go.RowKit Go.Sort
set_option linter.unusedVariables false
set_option linter.unusedSimpArgs false

def deepN (n : Int) : Nat := if n < 1 then 0 else bitsLen (n - 1).toNat + 1
set_option maxRecDepth 100000 in
theorem tmDeep (n : Int) (w : World) (hn : -9223372036854775808 ≤ n ∧ n ≤ 9223372036854775807) :
    Calls Try.prog 11 #[.int .i64 n] w fun e w' => e = .returned (.int .i64 (deepN n : Nat)) ∧ w' = w := by
  obtain ⟨hn1, hn2⟩ := hn
  by_cases h1 : n < 1
  · have hd : deepN n = 0 := by unfold deepN; rw [if_pos h1]
    rw [hd]
    clear hd
    go_enter Try.func11, Try.ntmps11
    go_wp2_with fail
    first
    | (go_ret; exact ⟨rfl, rfl⟩)
    | (refine bodyPost_ret (results_tmp rfl _ _ _) rfl ?_; exact ⟨rfl, rfl⟩)
  · have hd : deepN n = bitsLen (n - 1).toNat + 1 := by unfold deepN; rw [if_neg h1]
    rw [hd]
    obtain ⟨N, hN⟩ : ∃ N : Nat, n = (N : Int) + 1 := ⟨(n - 1).toNat, by omega⟩
    subst hN
    have hN1 : (N : Int) ≤ 9223372036854775806 := by omega
    have hLen : ∀ w, Calls Try.prog 23 #[.int .u64 (N : Int)] w fun e w' => e = .returned (.int .i64 (bitsLen N : Nat)) ∧ w' = w := fun w => by
      have h := Try.bits_Len (N : Int) w (by omega) (by omega)
      rwa [Int.toNat_natCast, bitLen_eq _ (by omega)] at h
    rw [show ((N : Int) + 1 - 1).toNat = N by omega]
    have hl : bitsLen N ≤ 63 := (bitsLen_le_iff N 63).2 (by omega)
    generalize bitsLen N = K at *
    have hs : (N : Int) + 1 - 1 = (N : Nat) := by omega
    have hkI : (K : Int) ≤ 63 := by omega
    clear hd
    go_enter Try.func11, Try.ntmps11
    go_wp2_with (first | (go_at_call 23; refine (hLen _).mono ?_; rintro e w' ⟨rfl, rfl⟩))
    go_ret
    exact ⟨by first | rfl | simp, rfl⟩
set_option maxRecDepth 100000 in
set_option maxHeartbeats 1000000 in
theorem refDeep (n : Int) (w : World) (hn : -9223372036854775808 ≤ n ∧ n ≤ 9223372036854775807) :
    Calls Try.prog 12 #[.int .i64 n] w fun e w' => e = .returned (.int .i64 (deepN n : Nat)) ∧ w' = w := by
  obtain ⟨hn1, hn2⟩ := hn
  by_cases h1 : n < 1
  · have hd : deepN n = 0 := by unfold deepN; rw [if_pos h1]
    rw [hd]
    clear hd
    go_enter Try.func12, Try.ntmps12
    go_wp2_with fail
    first
    | (go_ret; exact ⟨rfl, rfl⟩)
    | (refine bodyPost_ret (results_tmp rfl _ _ _) rfl ?_; exact ⟨rfl, rfl⟩)
  · have hd : deepN n = bitsLen (n - 1).toNat + 1 := by unfold deepN; rw [if_neg h1]
    rw [hd]
    obtain ⟨N, hN⟩ : ∃ N : Nat, n = (N : Nat) := ⟨n.toNat, by omega⟩
    subst hN
    have hN1 : (N : Int) ≤ 9223372036854775807 := by omega
    have hl : bitsLen ((N : Int) - 1).toNat ≤ 63 := (bitsLen_le_iff _ 63).2 (by omega)
    have hle := fun j => bitsLen_le_iff ((N : Int) - 1).toNat j
    generalize bitsLen ((N : Int) - 1).toNat = K at *
    have HLE := Lib.hid hle; have HL := Lib.hid hl
    clear hd hle hl
    go_enter Try.func12, Try.ntmps12
    go_wp2_with fail
    go_loopw [3, 4] (fun z3 z4 wr => ∃ (j P : Nat), z3 = .int .i64 (j : Nat) ∧ z4 = .int .u64 (P : Nat) ∧ j ≤ K ∧ Hid (P = 2 ^ j) ∧ wr = w) (fun z _ _ => K - (intOf z).toNat)
    case atStart => exact ⟨0, 1, rfl, rfl, by omega, Lib.hid rfl, rfl⟩
    case round =>
      obtain ⟨j, P, rfl, rfl, hj, HP, rfl⟩ := hrel
      have hj63 : (j : Int) ≤ 63 := by have := HL.out; omega
      by_cases hlt : j < K
      · have hPN : P < N := by
          have := HLE.out j
          rw [← HP.out] at this
          by_cases h : ((N : Int) - 1).toNat < P
          · exact absurd (this.2 h) (by omega)
          · omega
        have hP62 : P ≤ 4611686018427387904 := by
          rw [HP.out]
          exact Nat.le_trans (Nat.pow_le_pow_right (by decide) (show j ≤ 62 by have := HL.out; omega)) (by decide)
        have hPI : (P : Int) < N := by omega
        have hP62I : (P : Int) ≤ 4611686018427387904 := by omega
        have HLT := Lib.hid hlt
        clear hPN hP62 hlt
        go_wp2_with fail
        go_roundw
        case rel => exact ⟨j + 1, 2 * P, by go_num, by go_num, by have := HLT.out; omega, Lib.hid (by rw [HP.out, Nat.pow_succ, Nat.mul_comm]), by first | trivial | rfl⟩
        case measure => have := HLT.out; simp [intOf]; omega
      · obtain rfl : j = K := by omega
        have hPN : ¬ (P : Int) < N := by
          have := (HLE.out j).1 (Nat.le_refl _)
          rw [← HP.out] at this
          omega
        clear hlt
        go_wp2_with fail
        first
        | (go_ret; exact ⟨by first | rfl | simp, rfl⟩)
        | (refine bodyPost_ret (results_tmp rfl _ _ _) rfl ?_; exact ⟨by first | rfl | simp, rfl⟩)
end STn4
section STt1
open Go.RowKit Go.Sort
set_option linter.unusedVariables false

mutual
def tstS (s : ByteArray) : List Stp → Nat → Bool → Nat
  | [], _, _ => 0
  | o :: l, a, q =>
    if o.kind = 8 then 0
    else if o.kind = 1 then tstS s l (if wordOk o.k then getL (cutL s o.k 4) else 0) (decide (o.k = 0))
    else if o.kind = 2 then tstS s l (a &&& o.k) q
    else if o.kind = 3 ∨ o.kind = 4 ∨ o.kind = 5 then (if q = true then 1 else 0) + tskS s l (o.goal a) a q
    else if o.kind = 7 then tskS s l (o.goal a) a q
    else tstS s l a q
def tskS (s : ByteArray) : List Stp → Int → Nat → Bool → Nat
  | [], _, _, _ => 0
  | o :: l, L, a, q => if o.kind = 6 ∧ o.t = L then tstS s l a q else tskS s l L a q
end
/-! the most that any way has -/
mutual
def mxS : List Stp → Bool → Nat
  | [], _ => 0
  | o :: l, q =>
    if o.kind = 8 then 0
    else if o.kind = 1 then mxS l (decide (o.k = 0))
    else if o.kind = 2 then mxS l q
    else if o.kind = 3 ∨ o.kind = 4 ∨ o.kind = 5 then (if q = true then 1 else 0) + max (mxk l o.t q) (mxk l o.f q)
    else if o.kind = 7 then max (mxk l o.t q) (mxk l o.f q)
    else mxS l q
def mxk : List Stp → Int → Bool → Nat
  | [], _, _ => 0
  | o :: l, L, q => if o.kind = 6 ∧ o.t = L then mxS l q else mxk l L q
end
theorem goal_tf (o : Stp) (a : Nat) : o.goal a = o.t ∨ o.goal a = o.f := by
  unfold Stp.goal
  split
  · exact .inl rfl
  · exact .inr rfl
theorem tst_mx (s : ByteArray) : ∀ l : List Stp, (∀ a q, tstS s l a q ≤ mxS l q) ∧ ∀ L a q, tskS s l L a q ≤ mxk l L q
  | [] => ⟨fun a q => by rw [tstS]; omega, fun L a q => by rw [tskS]; omega⟩
  | o :: l => by
    obtain ⟨h1, h2⟩ := tst_mx s l
    have h3 : ∀ a q, tskS s l (o.goal a) a q ≤ max (mxk l o.t q) (mxk l o.f q) := fun a q => by
      have := h2 (o.goal a) a q
      rcases goal_tf o a with e | e
      · rw [e] at this ⊢; exact Nat.le_trans this (Nat.le_max_left _ _)
      · rw [e] at this ⊢; exact Nat.le_trans this (Nat.le_max_right _ _)
    constructor
    · intro a q
      rw [tstS, mxS]
      split
      · exact Nat.le_refl _
      · split
        · exact h1 _ _
        · split
          · exact h1 _ _
          · split
            · exact Nat.add_le_add_left (h3 a q) _
            · split
              · exact h3 a q
              · exact h1 _ _
    · intro L a q
      rw [tskS, mxk]
      split
      · exact h1 _ _
      · exact h2 _ _ _
theorem mx_lab (l : List Stp) (L : Int) (q : Bool) : mxS (stL L :: l) q = mxS l q := by rw [mxS]; simp [stL]
theorem mx_ret (l : List Stp) (k : Nat) (q : Bool) : mxS (retS k :: l) q = 0 := by rw [mxS]; simp [retS]
theorem mxk_skip (o : Stp) (l : List Stp) (L : Int) (q : Bool) (h : ¬ (o.kind = 6 ∧ o.t = L)) : mxk (o :: l) L q = mxk l L q := by rw [mxk, if_neg h]
theorem mxk_lab (l : List Stp) (L : Int) (q : Bool) : mxk (stL L :: l) L q = mxS l q := by rw [mxk, if_pos ⟨rfl, rfl⟩]
theorem mxk_ne (l : List Stp) (L M : Int) (q : Bool) (h : M ≠ L) : mxk (stL M :: l) L q = mxk l L q := mxk_skip _ _ _ _ (fun e => h e.2)
theorem mxk_ret (l : List Stp) (k : Nat) (L : Int) (q : Bool) : mxk (retS k :: l) L q = mxk l L q := mxk_skip _ _ _ _ (fun e => absurd e.1 (by simp [retS]))
theorem mxk_op (kind : Int) (k : Nat) (y z : Int) (l : List Stp) (L : Int) (q : Bool) (h : kind ≠ 6) : mxk (⟨kind, k, y, z⟩ :: l) L q = mxk l L q := mxk_skip _ _ _ _ (fun e => h e.1)
theorem mxk_load (p m : Nat) (l : List Stp) (L : Int) (q : Bool) : mxk (loadS p m ++ l) L q = mxk l L q := by
  unfold loadS
  rw [List.cons_append, mxk_op _ _ _ _ _ _ _ (by decide)]
  split
  · rfl
  · rw [List.cons_append, mxk_op _ _ _ _ _ _ _ (by decide)]; rfl
theorem mx_load (p m : Nat) (l : List Stp) (q : Bool) (hp : p ≠ 0) : mxS (loadS p m ++ l) q = mxS l false := by
  unfold loadS
  rw [List.cons_append, mxS, if_neg (by simp), if_pos rfl]
  rw [show decide (p = 0) = false from decide_eq_false hp]
  split
  · rfl
  · rw [List.cons_append, mxS, if_neg (by simp), if_neg (by simp), if_pos rfl]; rfl
theorem mx_jump (kind : Int) (k : Nat) (y z : Int) (l : List Stp) (q : Bool) (h : kind = 3 ∨ kind = 4 ∨ kind = 5) : mxS (⟨kind, k, y, z⟩ :: l) q = (if q = true then 1 else 0) + max (mxk l y q) (mxk l z q) := by
  rw [mxS, if_neg (by dsimp only; omega), if_neg (by dsimp only; omega), if_neg (by dsimp only; omega), if_pos h]
theorem mx_jumpF (kind : Int) (k : Nat) (y z : Int) (l : List Stp) (h : kind = 3 ∨ kind = 4 ∨ kind = 5) : mxS (⟨kind, k, y, z⟩ :: l) false = max (mxk l y false) (mxk l z false) := by
  rw [mx_jump _ _ _ _ _ _ h, if_neg (by decide), Nat.zero_add]
/-- steps that test no word at 0 but go on at one of two labels -/
def NoTests (C : List Stp) (yes no n : Int) : Prop :=
  (∀ rest q, mxS (C ++ rest) q ≤ max (mxk rest yes false) (mxk rest no false)) ∧ (∀ rest L q, L < n → mxk (C ++ rest) L q = mxk rest L q)
theorem same_no (j mask value : Nat) (yes no n : Int) (hy : yes < n) (hn : no < n) : NoTests (sameS j mask value yes no n) yes no n := by
  constructor
  · intro rest q
    unfold sameS
    rw [List.append_assoc, mx_load _ _ _ _ (by omega), List.cons_append, mx_jumpF _ _ _ _ _ (by omega), List.cons_append, mxk_lab, mxk_ne _ _ _ _ (by omega), List.append_assoc, mx_load _ _ _ _ (by omega), mxk_load, List.cons_append, mx_jumpF _ _ _ _ _ (by omega),
      mxk_op _ _ _ _ _ _ _ (by decide), List.nil_append]
    omega
  · intro rest L q hL
    unfold sameS
    rw [List.append_assoc, mxk_load, List.cons_append, mxk_op _ _ _ _ _ _ _ (by decide), List.cons_append, mxk_ne _ _ _ _ (by omega), List.append_assoc, mxk_load, List.cons_append, mxk_op _ _ _ _ _ _ _ (by decide)]; rfl
theorem great_no (kind : Int) (j mask value : Nat) (yes no n : Int) (hk : kind = 4 ∨ kind = 5) (hy : yes < n) (hn : no < n) : NoTests (greatS kind j mask value yes no n) yes no n := by
  have hk6 : kind ≠ 6 := by omega
  constructor
  · intro rest q
    unfold greatS
    rw [List.append_assoc, mx_load _ _ _ _ (by omega), List.cons_append, mx_jumpF _ _ _ _ _ (by omega), List.cons_append, mxk_lab, mxk_ne _ _ _ _ (by omega), List.cons_append, mx_jumpF _ _ _ _ _ (by omega), mxk_op _ _ _ _ _ _ _ (by decide), List.cons_append, mxk_lab, mxk_ne _ _ _ _ (by omega), mxk_ne _ _ _ _ (by omega),
      List.append_assoc, mx_load _ _ _ _ (by omega), mxk_load, mxk_load, List.cons_append, mx_jumpF _ _ _ _ _ (by omega), mxk_op _ _ _ _ _ _ _ hk6, mxk_op _ _ _ _ _ _ _ hk6, List.nil_append]
    omega
  · intro rest L q hL
    unfold greatS
    rw [List.append_assoc, mxk_load, List.cons_append, mxk_op _ _ _ _ _ _ _ (by decide), List.cons_append, mxk_ne _ _ _ _ (by omega), List.cons_append, mxk_op _ _ _ _ _ _ _ (by decide), List.cons_append, mxk_ne _ _ _ _ (by omega), List.append_assoc, mxk_load, List.cons_append, mxk_op _ _ _ _ _ _ _ hk6]; rfl
theorem NoTests.not {C : List Stp} {yes no n : Int} (h : NoTests C yes no n) : NoTests C no yes n := ⟨fun rest q => by have := h.1 rest q; omega, h.2⟩
theorem test_no (sg : ByteArray) (j mask value : Nat) (yes no n : Int) (hy : yes < n) (hn : no < n) : NoTests (testS sg j mask value yes no n).1 yes no n := by
  have g4 := fun y z hy hn => great_no 4 j mask value y z n (.inl rfl) hy hn
  have g5 := fun y z hy hn => great_no 5 j mask value y z n (.inr rfl) hy hn
  have g3 := fun y z hy hn => same_no j mask value y z n hy hn
  unfold testS
  cases turnsS sg
  · simp only [Bool.false_eq_true, if_false]
    split
    · exact g4 yes no hy hn
    · split
      · exact g5 yes no hy hn
      · exact g3 yes no hy hn
  · simp only [if_true]
    split
    · exact (g4 no yes hn hy).not
    · split
      · exact (g5 no yes hn hy).not
      · exact (g3 no yes hn hy).not
mutual
theorem cond_no : ∀ (c : Cnd), c.fine = true → ∀ yes no n, yes < n → no < n → NoTests (condS c yes no n).1 yes no n
  | .mk kind kids arg mask sign value, hf, yes, no, n, hy, hn => by
    rw [Cnd.fine_eq, Bool.and_eq_true] at hf
    rw [condS]
    simp only [Cnd.kids] at hf
    rcases alone_kinds _ hf.1 with ⟨h, h0, h5, hsg, _⟩ | ⟨h, h2⟩ | ⟨h, h2⟩
    · simp only [Cnd.kind] at h
      subst h
      rw [if_neg (by decide), if_neg (by decide)]
      exact test_no sign arg.toNat mask value yes no n hy hn
    · simp only [Cnd.kind, Cnd.kids] at h h2
      rw [if_neg (by omega), if_pos h]
      exact ser_no (decide (kind = 1)) kids hf.2 (by omega) yes no n hy hn
    · simp only [Cnd.kind, Cnd.kids] at h h2
      rw [if_pos h]
      match kids, h2 with
      | [k], _ =>
        rw [notS]
        rw [fines, Bool.and_eq_true] at hf
        exact (cond_no k hf.2.1 no yes n hn hy).not
theorem ser_no (both : Bool) : ∀ (l : List Cnd), fines l = true → l.length ≠ 0 → ∀ yes no n, yes < n → no < n → NoTests (serS both l yes no n).1 yes no n
  | [], _, h, _, _, _, _, _ => absurd rfl h
  | k :: ks, hf, _, yes, no, n, hy, hn => by
    rw [fines, Bool.and_eq_true] at hf
    rw [serS]
    by_cases h : ks.length = 0
    · rw [if_pos h]
      exact cond_no k hf.1 yes no n hy hn
    · rw [if_neg h]
      dsimp only
      have h1 := cond_no k hf.1 (if both = true then n else yes) (if both = true then no else n) (n + 1) (by split <;> omega) (by split <;> omega)
      have hm := (cond_len k hf.1 (if both = true then n else yes) (if both = true then no else n) (n + 1)).2.1
      generalize condS k (if both = true then n else yes) (if both = true then no else n) (n + 1) = P at *
      have h2 := ser_no both ks hf.2 h yes no P.2 (by omega) (by omega)
      generalize serS both ks yes no P.2 = Q at *
      constructor
      · intro rest q
        have a1 := h1.1 (stL n :: (Q.1 ++ rest)) q
        have a2 := h2.1 rest false
        rw [List.append_assoc, List.cons_append]
        cases both
        · simp only [Bool.false_eq_true, if_false] at a1
          rw [mxk_lab, mxk_ne _ _ _ _ (by omega), h2.2 _ _ _ (by omega)] at a1
          omega
        · simp only [if_true] at a1
          rw [mxk_lab, mxk_ne _ _ _ _ (by omega), h2.2 _ _ _ (by omega)] at a1
          omega
      · intro rest L q hL
        rw [List.append_assoc, List.cons_append, h1.2 _ _ _ (by omega), mxk_ne _ _ _ _ (by omega), h2.2 _ _ _ (by omega)]
end
theorem rules_no (d nr : Nat) : ∀ (l : List Mtc), (∀ m ∈ l, m.askable = true) → ∀ n, 0 ≤ n →
    (∀ rest q, mxS ((rulesS d nr l n).1 ++ rest) q = 0) ∧ (∀ rest L q, L < n → mxk ((rulesS d nr l n).1 ++ rest) L q = mxk rest L q) ∧ n ≤ (rulesS d nr l n).2
  | [], _, n, _ => ⟨fun rest q => mx_ret _ _ _, fun rest L q _ => by rw [rulesS]; exact mxk_ret _ _ _ _, Int.le_refl _⟩
  | m :: l, hl, n, hn => by
    have ih := fun n hn => rules_no d nr l (fun m hm => hl m (List.mem_cons_of_mem _ hm)) n hn
    rw [rulesS]
    by_cases hc : m.nrs.contains nr = false
    · rw [if_pos hc]
      exact ih n hn
    · rw [if_neg hc]
      by_cases hz : m.cnd.zero = true
      · rw [if_pos hz]
        exact ⟨fun rest q => mx_ret _ _ _, fun rest L q _ => mxk_ret _ _ _ _, Int.le_refl _⟩
      · rw [if_neg hz]
        dsimp only
        have hr : m.cnd.right = true := by
          have := hl m List.mem_cons_self
          unfold Mtc.askable at this
          simpa [hz] using this
        have hf : m.cnd.fine = true := by unfold Cnd.right at hr; rw [Bool.and_eq_true] at hr; exact hr.2
        have hc1 := cond_no m.cnd hf n (n + 1) (n + 2) (by omega) (by omega)
        have hm := (cond_len m.cnd hf n (n + 1) (n + 2)).2.1
        generalize condS m.cnd n (n + 1) (n + 2) = P at *
        obtain ⟨i1, i2, i3⟩ := ih P.2 (by omega)
        refine ⟨fun rest q => ?_, fun rest L q hL => ?_, by omega⟩
        · rw [List.append_assoc, List.cons_append, List.cons_append, List.cons_append]
          have e := hc1.1 (stL n :: retS m.act :: stL (n + 1) :: ((rulesS d nr l P.2).1 ++ rest)) q
          rw [mxk_lab, mx_ret, mxk_ne _ _ _ _ (by omega), mxk_ret, mxk_lab, i1] at e
          omega
        · rw [List.append_assoc, List.cons_append, List.cons_append, List.cons_append, hc1.2 _ L q (by omega), mxk_ne _ _ _ _ (by omega), mxk_ret, mxk_ne _ _ _ _ (by omega)]
          exact i2 rest L q (by omega)
theorem deep_half (n : Nat) (h : 2 ≤ n) : deepN (n / 2 : Nat) + 1 ≤ deepN n ∧ deepN (n - n / 2 : Nat) + 1 ≤ deepN n := by
  have hb : ∀ k, k ≤ (n - 1) / 2 → bitsLen k + 1 ≤ bitsLen (n - 1) := fun k hk => by
    have h0 : n - 1 < 2 ^ bitsLen (n - 1) := (bitsLen_le_iff _ _).1 (Nat.le_refl _)
    cases hB : bitsLen (n - 1) with
    | zero => rw [hB] at h0; omega
    | succ B =>
      rw [hB, Nat.pow_succ] at h0
      have : bitsLen k ≤ B := (bitsLen_le_iff _ _).2 (by omega)
      omega
  unfold deepN
  rw [if_neg (by omega), if_neg (by omega), if_neg (by omega)]
  have e1 : ((n / 2 : Nat) - 1 : Int).toNat = n / 2 - 1 := by omega
  have e2 : ((n - n / 2 : Nat) - 1 : Int).toNat = n - n / 2 - 1 := by omega
  have e3 : ((n : Nat) - 1 : Int).toNat = n - 1 := by omega
  rw [e1, e2, e3]
  have := hb (n / 2 - 1) (by omega)
  have := hb (n - n / 2 - 1) (by omega)
  omega
theorem branch_no (d : Nat) (l : List Mtc) (hl : ∀ m ∈ l, m.askable = true) (missed : Int) : ∀ (f : Nat) (nums : List Nat), nums.length ≤ f → nums ≠ [] → ∀ n, 0 ≤ n → missed < n →
    (∀ rest, mxS ((branchS d l missed f nums n).1 ++ rest) true ≤ deepN nums.length + mxk rest missed true) ∧ (∀ rest L q, L < n → mxk ((branchS d l missed f nums n).1 ++ rest) L q = mxk rest L q) ∧ n ≤ (branchS d l missed f nums n).2 := by
  intro f
  induction f with
  | zero => intro nums h1 h2; exact absurd (List.eq_nil_of_length_eq_zero (by omega)) h2
  | succ f ih =>
    intro nums hlen hne n hn hmn
    rw [branchS]
    by_cases h1 : nums.length = 1
    · rw [if_pos h1]
      dsimp only
      obtain ⟨i1, i2, i3⟩ := rules_no d (nums.getD 0 0) l hl (n + 1) (by omega)
      refine ⟨fun rest => ?_, fun rest L q hL => ?_, by omega⟩
      · rw [List.cons_append, mx_jump _ _ _ _ _ _ (by omega), List.cons_append, mxk_lab, mxk_ne _ _ _ _ (by omega), i1, i2 _ _ _ (by omega), if_pos rfl]
        have : deepN nums.length = 1 := by rw [h1]; rfl
        omega
      · rw [List.cons_append, mxk_op _ _ _ _ _ _ _ (by decide), List.cons_append, mxk_ne _ _ _ _ (by omega), i2 _ _ _ (by omega)]
    · rw [if_neg h1]
      dsimp only
      have hl2 : 2 ≤ nums.length := by
        have : nums.length ≠ 0 := fun e => hne (List.eq_nil_of_length_eq_zero e)
        omega
      have hd := deep_half nums.length hl2
      have hlt : (nums.take (nums.length / 2)).length = nums.length / 2 := by rw [List.length_take]; omega
      have hld : (nums.drop (nums.length / 2)).length = nums.length - nums.length / 2 := by rw [List.length_drop]
      obtain ⟨p1, p2, p3⟩ := ih (nums.take (nums.length / 2)) (by omega) (fun e => by have := congrArg List.length e; rw [hlt, List.length_nil] at this; omega) (n + 2) (by omega) (by omega)
      generalize branchS d l missed f (nums.take (nums.length / 2)) (n + 2) = P at *
      obtain ⟨q1, q2, q3⟩ := ih (nums.drop (nums.length / 2)) (by omega) (fun e => by have := congrArg List.length e; rw [hld, List.length_nil] at this; omega) P.2 (by omega) (by omega)
      generalize branchS d l missed f (nums.drop (nums.length / 2)) P.2 = Q at *
      rw [hlt] at p1
      rw [hld] at q1
      refine ⟨fun rest => ?_, fun rest L q hL => ?_, by omega⟩
      · have a1 := p1 (stL n :: (Q.1 ++ rest))
        have a2 := q1 rest
        rw [mxk_ne _ _ _ _ (by omega), q2 _ _ _ (by omega)] at a1
        rw [List.cons_append, mx_jump _ _ _ _ _ _ (by omega), List.cons_append, List.append_assoc, List.cons_append, mxk_ne _ _ _ _ (by omega), p2 _ _ _ (by omega), mxk_lab, mxk_lab, if_pos rfl]
        omega
      · rw [List.cons_append, mxk_op _ _ _ _ _ _ _ (by decide), List.cons_append, mxk_ne _ _ _ _ (by omega), List.append_assoc, List.cons_append, p2 _ _ _ (by omega), mxk_ne _ _ _ _ (by omega), q2 _ _ _ (by omega)]
theorem steps_tests (s : ByteArray) (t : Typ) (nums : List Nat) (hl : ∀ m ∈ t.rules, m.askable = true) : tstS s (stepsS t nums) 0 false ≤ deepN nums.length := by
  refine Nat.le_trans ((tst_mx s _).1 0 false) ?_
  unfold stepsS
  rw [mxS, if_neg (by simp), if_pos rfl, show (decide ((4 : Nat) = 0)) = false from rfl, mx_jumpF _ _ _ _ _ (by omega), mxk_ne _ _ _ _ (by decide), mxk_ret, mxk_lab, mxk_lab, mx_ret]
  by_cases h0 : nums.length = 0
  · rw [if_pos h0, List.nil_append, mx_ret]; omega
  · rw [if_neg h0, List.cons_append, mxS, if_neg (by simp), if_pos rfl, show (decide ((0 : Nat) = 0)) = true from rfl, List.append_assoc]
    have := (branch_no t.dflt t.rules hl 2 nums.length nums (Nat.le_refl _) (fun e => h0 (by rw [e]; rfl)) 3 (by omega) (by omega)).1 ([stL 2] ++ [retS t.dflt])
    rw [List.cons_append, mxk_lab, List.nil_append, mx_ret] at this
    rw [List.cons_append, List.nil_append]
    omega
/-- a step of the walk that counts -/
theorem tsk_beh (s : ByteArray) (l : List Stp) (g : Int) (a : Nat) (q : Bool) : ∀ n p, p + n = l.length → tskS s (l.drop p) g a q = match behL l p g n with | none => 0 | some j => tstS s (l.drop (j + 1)) a q
  | 0, p, h => by rw [List.drop_eq_nil_of_le (by omega)]; simp only [behL, tskS]
  | n + 1, p, h => by
    have hp : p < l.length := by omega
    rw [List.drop_eq_getElem_cons hp, tskS, behL, show l.getD p stpZ = l[p] by simp [List.getD, hp]]
    by_cases hc : l[p].kind = 6 ∧ l[p].t = g
    · rw [if_pos hc, if_pos hc]
    · rw [if_neg hc, if_neg hc]
      exact tsk_beh s l g a q n (p + 1) (by omega)
end STt1
section STt2
open Go.RowKit
set_option linter.unusedVariables false
set_option linter.unusedSimpArgs false

def onT : Option Nat → Value | none => .int .i64 (-1) | some j => .int .i64 (j : Nat)
theorem behL_within (l : List Stp) (g : Int) : ∀ n p j, behL l p g n = some j → p ≤ j ∧ j < p + n
  | 0, p, j, h => by cases h
  | n + 1, p, j, h => by
    rw [behL] at h
    split at h
    · injection h with h; omega
    · have := behL_within l g n (p + 1) j h; omega
set_option maxRecDepth 100000 in
set_option maxHeartbeats 6000000 in
theorem refTests (v : Value) (l : List Stp) (s : ByteArray) (w : World) (h : IsOps w v l) (hs : s.size = 64) :
    Calls Try.prog 20 #[v, .string s] w fun e w' => e = .returned (.int .i64 (tstS s l 0 false : Nat)) ∧ Below w.heap.size w w' := by
  have hbnd := h.bnd
  obtain ⟨a, len, cap, rfl, hlen, hc1, hc2, _, hn, hat⟩ := h
  have hlI : (len : Int) ≤ 9223372036854775807 := by omega
  have HAT := Lib.hid hat; have HL := Lib.hid hlen; have HBD := Lib.hid hbnd; have HSZ := Lib.hid hs
  obtain ⟨T, eT⟩ : ∃ T, tstS s l 0 false = T := ⟨_, rfl⟩
  rw [eT]
  have HT := Lib.hid (show 0 + tstS s (l.drop 0) 0 false = T by rw [List.drop_zero, Nat.zero_add, eT])
  clear hat hlen hbnd hs eT hn hc1 hc2
  go_enter Try.func20, Try.ntmps20
  go_upto_region 5 with fail
  go_loopw [5, 6, 7, 8] (fun x c y z wr => ∃ (p a n : Nat) (q : Bool), p ≤ len ∧ a ≤ 4294967295 ∧ n ≤ p ∧ c = .int .i64 (p : Nat) ∧ x = .int .u32 (a : Nat) ∧ y = .int .i64 (n : Nat) ∧ z = .bool q ∧ Hid (n + tstS s (l.drop p) a q = T) ∧ Hid (Below w.heap.size w wr)) (fun _ c _ _ _ => len - (intOf c).toNat)
  case atStart => exact ⟨0, 0, 0, false, by omega, by omega, by omega, rfl, rfl, rfl, rfl, HT, Lib.hid (Below.refl _ _)⟩
  case round =>
    clear HT
    obtain ⟨p, x, n, q, hp, hx, hnp, rfl, rfl, rfl, rfl, HST, HWR⟩ := hrel
    have hxI : (x : Int) ≤ 4294967295 := by omega
    have hnI : (n : Int) ≤ p := by omega
    by_cases hlt : p < len
    · obtain ⟨b, off, rfl, hb, hat⟩ := HAT.out.resolve_left (by omega)
      have hpl : p < l.length := by have := HL.out; omega
      obtain ⟨c0, c1, c2, c3⟩ := (hat p hlt).below HWR.out hb
      have hst := HST.out
      rw [List.drop_eq_getElem_cons hpl] at hst
      have hob := HBD.out _ (List.getElem_mem hpl)
      have hge : l.getD p stpZ = l[p] := by simp [List.getD, hpl]
      rw [hge] at c0 c1 c2 c3
      generalize l[p] = o at *
      have hpI : (p : Int) < len := by omega
      obtain ⟨kind, k, t, f⟩ := o
      obtain ⟨hob1, hkk, _⟩ := hob
      have hkb : (k : Int) ≤ 4294967295 := by dsimp only at hkk; omega
      dsimp only at c0 c1 c2 c3
      have HST2 := Lib.hid hst; have HLT := Lib.hid hlt; have HBB := Lib.hid hb; have HOA := Lib.hid hat
      clear hat hge hob1 hkk hst HST hpl hlt hb HAT
      by_cases h8 : kind = 8
      · subst h8
        have hst := HST2.out
        rw [tstS, if_pos rfl, Nat.add_zero] at hst
        subst hst
        go_wp2_with fail
        go_ret
        exact ⟨rfl, HWR.out⟩
      · have hb8 : (kind != 8) = true := by rw [bne_iff_ne]; exact h8
        have hst := HST2.out
        rw [tstS, if_neg (by dsimp only; exact h8)] at hst
        have H8 := Lib.hid h8; have HST3 := Lib.hid hst
        clear hst HST2 h8
        go_upto_region 7 with fail
        have hn7 := heap_alloc_new wr (.cells #[.int .i64 kind, .int .u32 (k : Nat), .int .i64 t, .int .i64 f] 67)
        have hy7 := (Below.refl wr.heap.size wr).alloc (Nat.le_refl _) (.cells #[.int .i64 kind, .int .u32 (k : Nat), .int .i64 t, .int .i64 f] 67)
        obtain ⟨w7, hw7⟩ : ∃ w7, wr.alloc (.cells #[.int .i64 kind, .int .u32 (k : Nat), .int .i64 t, .int .i64 f] 67) = w7 := ⟨_, rfl⟩
        obtain ⟨b7, hb7⟩ : ∃ b7, wr.heap.size = b7 := ⟨_, rfl⟩
        rw [hw7] at hn7 hy7 ⊢
        rw [hb7] at hn7
        (try rw [hb7])
        have HB7 := Lib.hid (HWR.out.trans (hy7.mono HWR.out.size))
        have y0 := below_cell (Below.refl _ w7) hn7 0 rfl
        have y1 := below_cell (Below.refl _ w7) hn7 1 rfl
        have y2 := below_cell (Below.refl _ w7) hn7 2 rfl
        have y3 := below_cell (Below.refl _ w7) hn7 3 rfl
        have HAT7 := Lib.hid (fun j hj => (HOA.out j hj).below HB7.out HBB.out)
        clear hn7 hy7 hw7 hb7 c0 c1 c2 c3 HWR HOA
        by_cases h1 : kind = 1
        · as_aux_lemma =>
          subst h1
          have hst := HST3.out
          rw [if_pos rfl] at hst
          have hww := fun u => refWord_any s k u HSZ.out (by omega)
          unfold wordV4 at hww
          dsimp only at hst
          cases hok : wordOk k
          · rw [hok] at hst hww
            have HST4 := Lib.hid hst; have HWW := Lib.hid hww
            clear hst hww HST3 H8
            by_cases hk0 : k = 0
            · subst hk0
              have HDK := Lib.hid (show decide ((0 : Nat) = 0) = true from rfl)
              go_upto_region 9 with (first | (go_at_call 40; refine (HWW.out _).mono ?_; rintro e w8 ⟨rfl, rfl⟩))
              go_wp2_with fail
              go_roundw
              case rel => exact ⟨p + 1, 0, n, true, by have := HLT.out; omega, by omega, by omega, by go_num, rfl, rfl, rfl, by have h4 := HST4.out; rw [HDK.out] at h4; exact Lib.hid h4, HB7⟩
              case measure => have := HLT.out; simp [intOf]; omega
            · have hkB : ((k : Int) == 0) = false := by rw [beq_eq_false_iff_ne]; omega
              have HDK := Lib.hid (decide_eq_false hk0)
              clear hk0
              go_upto_region 9 with (first | (go_at_call 40; refine (HWW.out _).mono ?_; rintro e w8 ⟨rfl, rfl⟩))
              go_wp2_with fail
              go_roundw
              case rel => exact ⟨p + 1, 0, n, false, by have := HLT.out; omega, by omega, by omega, by go_num, rfl, rfl, rfl, by have h4 := HST4.out; rw [HDK.out] at h4; exact Lib.hid h4, HB7⟩
              case measure => have := HLT.out; simp [intOf]; omega
          · rw [hok] at hst hww
            simp only [if_true] at hst hww
            have hy := wordL_le s k (by have := (wordOk_iff k).1 hok; have := HSZ.out; omega)
            generalize getL (cutL s k 4) = Y at *
            have HST4 := Lib.hid hst; have HWW := Lib.hid hww
            clear hst hww HST3 H8
            by_cases hk0 : k = 0
            · subst hk0
              have HDK := Lib.hid (show decide ((0 : Nat) = 0) = true from rfl)
              go_upto_region 9 with (first | (go_at_call 40; refine (HWW.out _).mono ?_; rintro e w8 ⟨rfl, rfl⟩))
              go_wp2_with fail
              go_roundw
              case rel => exact ⟨p + 1, Y, n, true, by have := HLT.out; omega, hy, by omega, by go_num, rfl, rfl, rfl, by have h4 := HST4.out; rw [HDK.out] at h4; exact Lib.hid h4, HB7⟩
              case measure => have := HLT.out; simp [intOf]; omega
            · have hkB : ((k : Int) == 0) = false := by rw [beq_eq_false_iff_ne]; omega
              have HDK := Lib.hid (decide_eq_false hk0)
              clear hk0
              go_upto_region 9 with (first | (go_at_call 40; refine (HWW.out _).mono ?_; rintro e w8 ⟨rfl, rfl⟩))
              go_wp2_with fail
              go_roundw
              case rel => exact ⟨p + 1, Y, n, false, by have := HLT.out; omega, hy, by omega, by go_num, rfl, rfl, rfl, by have h4 := HST4.out; rw [HDK.out] at h4; exact Lib.hid h4, HB7⟩
              case measure => have := HLT.out; simp [intOf]; omega
        · have hst := HST3.out
          rw [if_neg h1] at hst
          by_cases h2 : kind = 2
          · subst h2
            rw [if_pos rfl] at hst
            have hand := u32_and_nat x k (by omega) (by omega)
            have hle := and_u32 x k (by omega) (by omega)
            dsimp only at hst
            generalize x &&& k = Y at *
            have HST4 := Lib.hid hst
            clear hst HST3 H8 h1
            go_wp2_with fail
            go_roundw
            case rel => exact ⟨p + 1, Y, n, q, by have := HLT.out; omega, hle, by omega, by go_num, by first | rfl | rw [hand], rfl, rfl, HST4, HB7⟩
            case measure => have := HLT.out; simp [intOf]; omega
          · rw [if_neg h2] at hst
            by_cases hj : kind = 3 ∨ kind = 4 ∨ kind = 5
            · as_aux_lemma =>
              rw [if_pos hj] at hst
              have hgy : Stp.goal ⟨kind, k, t, f⟩ x = if Stp.yes ⟨kind, k, t, f⟩ x then t else f := rfl
              have hyy : Stp.yes ⟨kind, k, t, f⟩ x = if kind = 3 then decide (x = k) else if kind = 4 then decide (k < x) else if kind = 5 then decide (k ≤ x) else true := rfl
              generalize Stp.goal ⟨kind, k, t, f⟩ x = g at *
              generalize Stp.yes ⟨kind, k, t, f⟩ x = yy at *
              have htk := tsk_beh s l g x q (len - (p + 1)) (p + 1) (by have := HL.out; have := HLT.out; omega)
              rw [htk] at hst
              have HST4 := Lib.hid hst
              clear hst htk HST3 h1 h2
              have key : yy = true ∧ g = t ∨ yy = false ∧ g = f := by
                cases yy with
                | true => exact .inl ⟨rfl, by rw [hgy, if_pos rfl]⟩
                | false => exact .inr ⟨rfl, by rw [hgy, if_neg (by decide)]⟩
              clear hgy
              have b1 : (kind == 1) = false := by rw [beq_eq_false_iff_ne]; omega
              have b2 : (kind == 2) = false := by rw [beq_eq_false_iff_ne]; omega
              have b7 : (kind == 7) = false := by rw [beq_eq_false_iff_ne]; omega
              go_upto_region 13 with fail
              go_cut [12] (fun v wx => v = .bool true ∧ w7 = wx)
              case first =>
                rcases hj with rfl | rfl | rfl
                all_goals
                  go_wp2_with fail
                  go_meet
                  exact ⟨rfl, rfl⟩
              case rest =>
              obtain ⟨rfl, rfl⟩ := hcut
              obtain ⟨N, hN⟩ : ∃ N, n + (if q = true then 1 else 0) = N := ⟨_, rfl⟩
              have hN1 : n ≤ N ∧ N ≤ n + 1 := by rw [← hN]; cases q <;> simp
              have h4 := HST4.out
              rw [← Nat.add_assoc, hN] at h4
              have HST4 := Lib.hid h4
              have HN := Lib.hid hN
              clear h4 hN
              go_upto_region 14 with fail
              go_cut [70] (fun v wx => v = .bool q ∧ w7 = wx)
              case first =>
                cases q
                all_goals
                  go_wp2_with fail
                  go_meet
                  exact ⟨rfl, rfl⟩
              case rest =>
              obtain ⟨rfl, rfl⟩ := hcut
              go_upto_if 70 with fail
              go_cut [7] (fun v wx => v = .int .i64 (N : Nat) ∧ w7 = wx)
              case first =>
                cases q with
                | false =>
                  obtain rfl : n = N := HN.out
                  go_wp2_with fail
                  go_meet
                  exact ⟨rfl, rfl⟩
                | true =>
                  have hN2 : (N : Int) = n + 1 := by have h : n + 1 = N := HN.out; omega
                  go_wp2_with fail
                  go_meet
                  exact ⟨by rw [hN2], rfl⟩
              case rest =>
              obtain ⟨rfl, rfl⟩ := hcut
              go_upto_region 18 with fail
              go_cut [116] (fun v wx => v = .bool yy ∧ w7 = wx)
              case first =>
                rcases hj with rfl | rfl | rfl
                · rw [if_pos rfl] at hyy
                  by_cases hc : x = k
                  · have hcI : ((x : Int) == (k : Int)) = true := by rw [beq_iff_eq]; omega
                    rw [decide_eq_true hc] at hyy
                    subst hyy
                    clear hc
                    go_wp2_with fail
                    go_meet
                    exact ⟨rfl, rfl⟩
                  · have hcI : ((x : Int) == (k : Int)) = false := by rw [beq_eq_false_iff_ne]; omega
                    rw [decide_eq_false hc] at hyy
                    subst hyy
                    clear hc
                    go_wp2_with fail
                    go_meet
                    exact ⟨rfl, rfl⟩
                · rw [if_neg (by decide), if_pos rfl] at hyy
                  by_cases hc : k < x
                  · have hcI : (k : Int) < x := by omega
                    rw [decide_eq_true hc] at hyy
                    subst hyy
                    go_wp2_with fail
                    go_meet
                    exact ⟨rfl, rfl⟩
                  · have hcI : ¬ (k : Int) < x := by omega
                    rw [decide_eq_false hc] at hyy
                    subst hyy
                    go_wp2_with fail
                    go_meet
                    exact ⟨rfl, rfl⟩
                · rw [if_neg (by decide), if_neg (by decide), if_pos rfl] at hyy
                  by_cases hc : k ≤ x
                  · have hcI : (k : Int) ≤ x := by omega
                    rw [decide_eq_true hc] at hyy
                    subst hyy
                    go_wp2_with fail
                    go_meet
                    exact ⟨rfl, rfl⟩
                  · have hcI : ¬ (k : Int) ≤ x := by omega
                    rw [decide_eq_false hc] at hyy
                    subst hyy
                    go_wp2_with fail
                    go_meet
                    exact ⟨rfl, rfl⟩
              case rest =>
              obtain ⟨rfl, rfl⟩ := hcut
              clear hyy H8
              go_upto_if 116 with fail
              go_cut [13] (fun v wx => v = .int .i64 g ∧ w7 = wx)
              case first =>
                rcases key with ⟨rfl, rfl⟩ | ⟨rfl, rfl⟩
                all_goals
                  go_wp2_with fail
                  go_meet
                  exact ⟨rfl, rfl⟩
              case rest =>
              obtain ⟨rfl, rfl⟩ := hcut
              clear key
              go_upto_region 22 with fail
              go_loop [14, 15] (fun a c => ∃ k1 : Nat, p + 1 ≤ k1 ∧ k1 ≤ len ∧ c = .int .i64 ((k1 : Int) - 1) ∧ a = onT (behL l k1 g (len - k1))) (fun _ c => (intOf c).toNat + 1)
              case atStart => exact ⟨len, by have := HLT.out; omega, by omega, rfl, by rw [Nat.sub_self]; rfl⟩
              case round =>
                obtain ⟨k1, hk1, hk2, rfl, rfl⟩ := hrel
                by_cases hgo : p + 1 < k1
                · have hgoI : (p : Int) < (k1 : Int) - 1 := by omega
                  obtain ⟨i1, rfl⟩ : ∃ i1, k1 = i1 + 1 := ⟨k1 - 1, by omega⟩
                  obtain ⟨z0, z1, z2, z3⟩ := HAT7.out i1 (by omega)
                  have hbe : behL l i1 g (len - i1) = if (l.getD i1 stpZ).kind = 6 ∧ (l.getD i1 stpZ).t = g then some i1 else behL l (i1 + 1) g (len - (i1 + 1)) := by
                    rw [show len - i1 = (len - (i1 + 1)) + 1 from by omega, behL]
                  generalize l.getD i1 stpZ = oo at *
                  obtain ⟨kd, kq, tq, fq⟩ := oo
                  dsimp only at z0 z1 z2 z3 hbe
                  have hi1 : ((i1 + 1 : Nat) : Int) - 1 = i1 := by omega
                  rw [hi1] at hgoI ⊢
                  have hiI : (i1 : Int) < len := by omega
                  by_cases h6 : kd = 6
                  · subst h6
                    by_cases hgq : tq = g
                    · subst hgq
                      rw [if_pos ⟨rfl, rfl⟩] at hbe
                      generalize onT (behL l (i1 + 1) _ (len - (i1 + 1))) = OV at *
                      have HBE := Lib.hid hbe
                      clear hbe
                      go_wp2_with fail
                      go_round
                      case rel => exact ⟨i1, by omega, by omega, by first | rfl | go_num, by rw [HBE.out]; first | rfl | trivial⟩
                      case measure => simp [intOf]; omega
                    · have hbq : (tq == g) = false := by rw [beq_eq_false_iff_ne]; exact hgq
                      rw [if_neg (fun e => hgq e.2)] at hbe
                      rw [← hbe]
                      generalize hOV : onT (behL l i1 _ (len - i1)) = OV at *
                      have HBE := Lib.hid hOV
                      clear hbe hgq hOV
                      go_wp2_with fail
                      go_round
                      case rel => exact ⟨i1, by omega, by omega, by first | rfl | go_num, by rw [HBE.out]⟩
                      case measure => simp [intOf]; omega
                  · have hbq : (kd == 6) = false := by rw [beq_eq_false_iff_ne]; exact h6
                    rw [if_neg (fun e => h6 e.1)] at hbe
                    rw [← hbe]
                    generalize hOV : onT (behL l i1 _ (len - i1)) = OV at *
                    have HBE := Lib.hid hOV
                    clear hbe h6 hOV
                    go_wp2_with fail
                    go_round
                    case rel => exact ⟨i1, by omega, by omega, by first | rfl | go_num, by rw [HBE.out]⟩
                    case measure => simp [intOf]; omega
                · obtain rfl : k1 = p + 1 := by omega
                  have hgoI : ¬ (p : Int) < ((p + 1 : Nat) : Int) - 1 := by omega
                  have hi1 : ((p + 1 : Nat) : Int) - 1 = p := by omega
                  rw [hi1] at hgoI ⊢
                  have h4 := HST4.out
                  have hbb := behL_within l g (len - (p + 1)) (p + 1)
                  generalize behL l (p + 1) g (len - (p + 1)) = r at *
                  cases r with
                  | none =>
                    dsimp only [onT] at h4 ⊢
                    have hTN : N = T := by omega
                    subst hTN
                    clear h4 hbb
                    go_wp2_with fail
                    go_ret
                    exact ⟨rfl, HB7.out⟩
                  | some j =>
                    dsimp only [onT] at h4 ⊢
                    obtain ⟨hj1, hj2⟩ := hbb j rfl
                    have hjI : (j : Int) < len := by have := HLT.out; omega
                    have HST5 := Lib.hid h4
                    clear h4 hbb
                    go_wp2_with fail
                    go_roundw
                    case rel =>
                      have h5 := HST5.out
                      have hF := Lib.hid (show N + tstS s (l.drop (j + 1)) x q = T by omega)
                      first
                      | exact ⟨j + 1, x, N, q, by omega, hx, by omega, by go_num, rfl, by first | rfl | go_num, rfl, hF, HB7⟩
                      | exact ⟨_, _, _, _, ⟨j + 1, x, N, q, by omega, hx, by omega, by go_num, rfl, by first | rfl | go_num, rfl, hF, HB7⟩, rfl⟩
                    case measure => simp [intOf]; omega
            · rw [if_neg hj] at hst
              by_cases h7 : kind = 7
              · as_aux_lemma =>
                subst h7
                rw [if_pos rfl] at hst
                have hg : Stp.goal ⟨7, k, t, f⟩ x = t := rfl
                rw [hg] at hst
                have htk := tsk_beh s l t x q (len - (p + 1)) (p + 1) (by have := HL.out; have := HLT.out; omega)
                rw [htk] at hst
                have HST4 := Lib.hid hst
                clear hst htk HST3 h1 h2 hj hg H8
                go_upto_region 22 with fail
                go_loop [14, 15] (fun a c => ∃ k1 : Nat, p + 1 ≤ k1 ∧ k1 ≤ len ∧ c = .int .i64 ((k1 : Int) - 1) ∧ a = onT (behL l k1 t (len - k1))) (fun _ c => (intOf c).toNat + 1)
                case atStart => exact ⟨len, by have := HLT.out; omega, by omega, rfl, by rw [Nat.sub_self]; rfl⟩
                case round =>
                  obtain ⟨k1, hk1, hk2, rfl, rfl⟩ := hrel
                  by_cases hgo : p + 1 < k1
                  · have hgoI : (p : Int) < (k1 : Int) - 1 := by omega
                    obtain ⟨i1, rfl⟩ : ∃ i1, k1 = i1 + 1 := ⟨k1 - 1, by omega⟩
                    obtain ⟨z0, z1, z2, z3⟩ := HAT7.out i1 (by omega)
                    have hbe : behL l i1 t (len - i1) = if (l.getD i1 stpZ).kind = 6 ∧ (l.getD i1 stpZ).t = t then some i1 else behL l (i1 + 1) t (len - (i1 + 1)) := by
                      rw [show len - i1 = (len - (i1 + 1)) + 1 from by omega, behL]
                    generalize l.getD i1 stpZ = oo at *
                    obtain ⟨kd, kq, tq, fq⟩ := oo
                    dsimp only at z0 z1 z2 z3 hbe
                    have hi1 : ((i1 + 1 : Nat) : Int) - 1 = i1 := by omega
                    rw [hi1] at hgoI ⊢
                    have hiI : (i1 : Int) < len := by omega
                    by_cases h6 : kd = 6
                    · subst h6
                      by_cases hgq : tq = t
                      · subst hgq
                        rw [if_pos ⟨rfl, rfl⟩] at hbe
                        generalize onT (behL l (i1 + 1) _ (len - (i1 + 1))) = OV at *
                        have HBE := Lib.hid hbe
                        clear hbe
                        go_wp2_with fail
                        go_round
                        case rel => exact ⟨i1, by omega, by omega, by first | rfl | go_num, by rw [HBE.out]; first | rfl | trivial⟩
                        case measure => simp [intOf]; omega
                      · have hbq : (tq == t) = false := by rw [beq_eq_false_iff_ne]; exact hgq
                        rw [if_neg (fun e => hgq e.2)] at hbe
                        rw [← hbe]
                        generalize hOV : onT (behL l i1 _ (len - i1)) = OV at *
                        have HBE := Lib.hid hOV
                        clear hbe hgq hOV
                        go_wp2_with fail
                        go_round
                        case rel => exact ⟨i1, by omega, by omega, by first | rfl | go_num, by rw [HBE.out]⟩
                        case measure => simp [intOf]; omega
                    · have hbq : (kd == 6) = false := by rw [beq_eq_false_iff_ne]; exact h6
                      rw [if_neg (fun e => h6 e.1)] at hbe
                      rw [← hbe]
                      generalize hOV : onT (behL l i1 _ (len - i1)) = OV at *
                      have HBE := Lib.hid hOV
                      clear hbe h6 hOV
                      go_wp2_with fail
                      go_round
                      case rel => exact ⟨i1, by omega, by omega, by first | rfl | go_num, by rw [HBE.out]⟩
                      case measure => simp [intOf]; omega
                  · obtain rfl : k1 = p + 1 := by omega
                    have hgoI : ¬ (p : Int) < ((p + 1 : Nat) : Int) - 1 := by omega
                    have hi1 : ((p + 1 : Nat) : Int) - 1 = p := by omega
                    rw [hi1] at hgoI ⊢
                    have h4 := HST4.out
                    have hbb := behL_within l t (len - (p + 1)) (p + 1)
                    generalize behL l (p + 1) t (len - (p + 1)) = r at *
                    cases r with
                    | none =>
                      dsimp only [onT] at h4 ⊢
                      have hTN : n = T := by omega
                      subst hTN
                      clear h4 hbb
                      go_wp2_with fail
                      go_ret
                      exact ⟨rfl, HB7.out⟩
                    | some j =>
                      dsimp only [onT] at h4 ⊢
                      obtain ⟨hj1, hj2⟩ := hbb j rfl
                      have hjI : (j : Int) < len := by have := HLT.out; omega
                      have HST5 := Lib.hid h4
                      clear h4 hbb
                      go_wp2_with fail
                      go_roundw
                      case rel =>
                        have h5 := HST5.out
                        have hF := Lib.hid (show n + tstS s (l.drop (j + 1)) x q = T by omega)
                        first
                        | exact ⟨j + 1, x, n, q, by omega, hx, by omega, by go_num, rfl, by first | rfl | go_num, rfl, hF, HB7⟩
                        | exact ⟨_, _, _, _, ⟨j + 1, x, n, q, by omega, hx, by omega, by go_num, rfl, by first | rfl | go_num, rfl, hF, HB7⟩, rfl⟩
                      case measure => simp [intOf]; omega
              · rw [if_neg h7] at hst
                have b1 : (kind == 1) = false := by rw [beq_eq_false_iff_ne]; exact h1
                have b2 : (kind == 2) = false := by rw [beq_eq_false_iff_ne]; exact h2
                have b3 : (kind == 3) = false := by rw [beq_eq_false_iff_ne]; omega
                have b4 : (kind == 4) = false := by rw [beq_eq_false_iff_ne]; omega
                have b5 : (kind == 5) = false := by rw [beq_eq_false_iff_ne]; omega
                have b7 : (kind == 7) = false := by rw [beq_eq_false_iff_ne]; exact h7
                have HST4 := Lib.hid hst
                clear hst HST3 H8 h1 h2 hj h7
                go_wp2_with fail
                go_roundw
                case rel => exact ⟨p + 1, x, n, q, by have := HLT.out; omega, hx, by omega, by go_num, rfl, rfl, rfl, HST4, HB7⟩
                case measure => have := HLT.out; simp [intOf]; omega
    · obtain rfl : p = len := by omega
      have hst := HST.out
      rw [List.drop_eq_nil_of_le (by have := HL.out; omega), tstS, Nat.add_zero] at hst
      subst hst
      go_wp2_with fail
      go_ret
      exact ⟨rfl, HWR.out⟩
end STt2
end Go.Proofs.Ytcejhfpdajbdcaa
