/- Answers as bytes: how they are read; plain. -/
import Derived.Test.YtmanlogclbbgaaaFr18
namespace Go.Proofs.Ytmanlogclbbgaaa
open Go.RowKit
set_option linter.unusedVariables false
set_option linter.unusedSimpArgs false

/-! what stands at a place, and the place behind it -/
def prNum (t : ByteArray) (p k : Nat) : Option (Int × Nat) := if p + k ≤ t.size then some ((getL (cutL t p k) : Nat), p + k) else none
def prTxt (t : ByteArray) (p : Nat) : Option (ByteArray × Nat) := if cutE t p = 0 then some (cutS t p, cutP t p) else none
def prNos (t : ByteArray) : Nat → Nat → Option (List Int × Nat)
  | 0, p => some ([], p)
  | n + 1, p => (prNum t p 2).bind fun x => (prNos t n x.2).bind fun l => some (x.1 :: l.1, l.2)
def prLn (t : ByteArray) (p : Nat) : Option (Ln × Nat) :=
  (prTxt t p).bind fun a => (prNum t a.2 2).bind fun b => (prNum t b.2 1).bind fun c => (prNos t c.1.toNat c.2).bind fun d => some (⟨a.1, b.1, d.1⟩, d.2)
def prLns (t : ByteArray) : Nat → Nat → Option (List Ln × Nat)
  | 0, p => some ([], p)
  | n + 1, p => (prLn t p).bind fun x => (prLns t n x.2).bind fun l => some (x.1 :: l.1, l.2)
def prHead (t : ByteArray) (p : Nat) : Option (Rp × Nat) :=
  (prNum t p 2).bind fun a => (prNum t a.2 2).bind fun b => (prNum t b.2 2).bind fun c => (prTxt t c.2).bind fun d => (prNum t d.2 2).bind fun e => (prNum t e.2 4).bind fun f => some (⟨a.1, b.1, c.1, d.1, e.1, f.1, []⟩, f.2)
def Rp.with_ (r : Rp) (l : List Ln) : Rp := ⟨r.why, r.at_, r.no, r.source, r.insns, r.action, l⟩
def prRp (t : ByteArray) : Option (Rp × Nat) :=
  (prHead t 0).bind fun h => (prNum t h.2 1).bind fun c => (prLns t c.1.toNat c.2).bind fun l => some (h.1.with_ l.1, l.2)
/-- the answer that bytes are -/
def readR (s : ByteArray) : Option Rp :=
  if openE s = 0 then (prRp (openS s)).bind fun x => if rpOk x.1 = true ∧ rpB x.1 = s then some x.1 else none else none

/-! what is read stands there -/
theorem prNum_in {t : ByteArray} {p k q : Nat} {x : Int} (h : prNum t p k = some (x, q)) : t.data.toList.drop p = putL x.toNat k ++ t.data.toList.drop q ∧ q ≤ t.size ∧ 0 ≤ x ∧ q = p + k ∧ x.toNat < 256 ^ k := by
  unfold prNum at h
  split at h
  · rename_i hc
    injection h with h
    injection h with h1 h2
    subst h1 h2
    have hl := getL_lt (cutL t p k)
    rw [cutL_length t p k hc] at hl
    exact ⟨by rw [Int.toNat_natCast]; exact num_split t p k hc, hc, by omega, rfl, by rw [Int.toNat_natCast]; exact hl⟩
  · cases h
theorem prTxt_in {t : ByteArray} {p q : Nat} {x : ByteArray} (h : prTxt t p = some (x, q)) : t.data.toList.drop p = tx x ++ t.data.toList.drop q ∧ q ≤ t.size ∧ x.size ≤ 65535 := by
  unfold prTxt at h
  split at h
  · rename_i hc
    injection h with h
    injection h with h1 h2
    subst h1 h2
    exact ⟨text_split t p hc, (cut_facts t p hc).2.2.2.1, text_size t p hc⟩
  · cases h
theorem prNos_in {t : ByteArray} : ∀ (n p q : Nat) (l : List Int), prNos t n p = some (l, q) → p ≤ t.size → t.data.toList.drop p = fieldsL 2 l ++ t.data.toList.drop q ∧ q ≤ t.size ∧ l.length = n ∧ ∀ x ∈ l, 0 ≤ x ∧ x ≤ 65535
  | 0, p, q, l, h, hp => by
    unfold prNos at h
    injection h with h
    injection h with h1 h2
    subst h1 h2
    exact ⟨by simp [fieldsL], hp, rfl, by simp⟩
  | n + 1, p, q, l, h, hp => by
    rw [prNos] at h
    obtain ⟨⟨x, a⟩, h1, h⟩ := Option.bind_eq_some_iff.1 h
    obtain ⟨⟨l', b⟩, h2, h⟩ := Option.bind_eq_some_iff.1 h
    injection h with h
    injection h with e1 e2
    subst e1 e2
    obtain ⟨i1, i2, i3, _, i4⟩ := prNum_in h1
    obtain ⟨j1, j2, j3, j4⟩ := prNos_in n a b l' h2 i2
    have e : (256 : Nat) ^ 2 = 65536 := by decide
    refine ⟨?_, j2, by simp [j3], fun y hy => ?_⟩
    · simp only at i1 ⊢
      rw [i1, j1, show fieldsL 2 (x :: l') = putL x.toNat 2 ++ fieldsL 2 l' from by simp [fieldsL], List.append_assoc]
    · rcases List.mem_cons.1 hy with rfl | hy
      · simp only at *; omega
      · exact j4 y hy
theorem prLn_in {t : ByteArray} {p q : Nat} {x : Ln} (h : prLn t p = some (x, q)) : t.data.toList.drop p = lnB x ++ t.data.toList.drop q ∧ q ≤ t.size ∧ x.bounded ∧ x.nos.length ≤ 255 := by
  unfold prLn at h
  obtain ⟨⟨nm, a⟩, h1, h⟩ := Option.bind_eq_some_iff.1 h
  obtain ⟨⟨cur, b⟩, h2, h⟩ := Option.bind_eq_some_iff.1 h
  obtain ⟨⟨k, c⟩, h3, h⟩ := Option.bind_eq_some_iff.1 h
  obtain ⟨⟨l, d⟩, h4, h⟩ := Option.bind_eq_some_iff.1 h
  injection h with h
  injection h with e1 e2
  subst e1 e2
  obtain ⟨i1, i2, i3⟩ := prTxt_in h1
  obtain ⟨j1, j2, j3, _, j4⟩ := prNum_in h2
  obtain ⟨k1, k2, k3, _, k4⟩ := prNum_in h3
  obtain ⟨l1, l2, l3, l4⟩ := prNos_in _ _ _ _ h4 k2
  have e1 : (256 : Nat) ^ 1 = 256 := by decide
  have e2 : (256 : Nat) ^ 2 = 65536 := by decide
  simp only at *
  refine ⟨?_, l2, ⟨by simp only; omega, by unfold i64ok; simp only; omega, fun n hn => by unfold i64ok; have := l4 n hn; omega⟩, by omega⟩
  rw [i1, j1, k1, l1]
  unfold lnB
  simp only [l3, List.append_assoc]
theorem prLns_in {t : ByteArray} : ∀ (n p q : Nat) (l : List Ln), prLns t n p = some (l, q) → p ≤ t.size → t.data.toList.drop p = l.flatMap lnB ++ t.data.toList.drop q ∧ q ≤ t.size ∧ l.length = n ∧ ∀ x ∈ l, x.bounded
  | 0, p, q, l, h, hp => by
    unfold prLns at h
    injection h with h
    injection h with h1 h2
    subst h1 h2
    exact ⟨by simp, hp, rfl, by simp⟩
  | n + 1, p, q, l, h, hp => by
    rw [prLns] at h
    obtain ⟨⟨x, a⟩, h1, h⟩ := Option.bind_eq_some_iff.1 h
    obtain ⟨⟨l', b⟩, h2, h⟩ := Option.bind_eq_some_iff.1 h
    injection h with h
    injection h with e1 e2
    subst e1 e2
    obtain ⟨i1, i2, i3, _⟩ := prLn_in h1
    obtain ⟨j1, j2, j3, j4⟩ := prLns_in n a b l' h2 i2
    refine ⟨?_, j2, by simp [j3], fun y hy => ?_⟩
    · simp only at i1 ⊢
      rw [i1, j1, List.flatMap_cons, List.append_assoc]
    · rcases List.mem_cons.1 hy with rfl | hy
      · exact i3
      · exact j4 y hy
theorem prHead_in {t : ByteArray} {p q : Nat} {r : Rp} (h : prHead t p = some (r, q)) : t.data.toList.drop p = headB r ++ t.data.toList.drop q ∧ q ≤ t.size ∧ r.bounded := by
  unfold prHead at h
  obtain ⟨⟨a, a'⟩, h1, h⟩ := Option.bind_eq_some_iff.1 h
  obtain ⟨⟨b, b'⟩, h2, h⟩ := Option.bind_eq_some_iff.1 h
  obtain ⟨⟨c, c'⟩, h3, h⟩ := Option.bind_eq_some_iff.1 h
  obtain ⟨⟨d, d'⟩, h4, h⟩ := Option.bind_eq_some_iff.1 h
  obtain ⟨⟨e, e'⟩, h5, h⟩ := Option.bind_eq_some_iff.1 h
  obtain ⟨⟨f, f'⟩, h6, h⟩ := Option.bind_eq_some_iff.1 h
  injection h with h
  injection h with g1 g2
  subst g1 g2
  obtain ⟨a1, _, a3, _, a4⟩ := prNum_in h1
  obtain ⟨b1, _, b3, _, b4⟩ := prNum_in h2
  obtain ⟨c1, _, c3, _, c4⟩ := prNum_in h3
  obtain ⟨d1, _, d3⟩ := prTxt_in h4
  obtain ⟨e1, _, e3, _, e4⟩ := prNum_in h5
  obtain ⟨f1, f2, f3, _, f4⟩ := prNum_in h6
  have p2 : (256 : Nat) ^ 2 = 65536 := by decide
  have p4 : (256 : Nat) ^ 4 = 4294967296 := by decide
  simp only at *
  refine ⟨?_, f2, ⟨by unfold i64ok; simp only; omega, by unfold i64ok; simp only; omega, by unfold i64ok; simp only; omega, by simp only; omega, by unfold i64ok; simp only; omega, by simp only; omega⟩⟩
  rw [a1, b1, c1, d1, e1, f1]
  unfold headB
  simp [fieldsL]
theorem prRp_in {t : ByteArray} {q : Nat} {r : Rp} (h : prRp t = some (r, q)) : t.data.toList = rpIn r ++ t.data.toList.drop q ∧ q ≤ t.size ∧ r.bounded ∧ ∀ x ∈ r.lines, x.bounded := by
  unfold prRp at h
  obtain ⟨⟨hd, a⟩, h1, h⟩ := Option.bind_eq_some_iff.1 h
  obtain ⟨⟨k, b⟩, h2, h⟩ := Option.bind_eq_some_iff.1 h
  obtain ⟨⟨l, c⟩, h3, h⟩ := Option.bind_eq_some_iff.1 h
  injection h with h
  injection h with g1 g2
  subst g1 g2
  obtain ⟨a1, a2, a3⟩ := prHead_in h1
  obtain ⟨b1, b2, b3, _, b4⟩ := prNum_in h2
  obtain ⟨c1, c2, c3, c4⟩ := prLns_in _ _ _ _ h3 b2
  simp only at *
  rw [List.drop_zero] at a1
  refine ⟨?_, c2, a3, c4⟩
  conv => lhs; rw [a1, b1, c1]
  unfold rpIn Rp.with_ headB
  simp only [c3, List.append_assoc]
theorem rpIn_whole {t : ByteArray} {r : Rp} {q : Nat} (h : prRp t = some (r, q)) : (⟨(rpIn r).toArray⟩ : ByteArray) = t ↔ q = t.size := by
  obtain ⟨h1, h2, _⟩ := prRp_in h
  rw [← drop_nil h2]
  constructor
  · intro he
    have e : t.data.toList = rpIn r := by rw [← he]
    have h2 := congrArg List.length h1
    rw [List.length_append, e] at h2
    rw [e]
    exact List.length_eq_zero_iff.1 (by omega)
  · intro he
    rw [he, List.append_nil] at h1
    exact ba_ext (by simp [h1])
theorem readR_iff (s : ByteArray) : readR s = if openE s = 0 then ((prRp (openS s)).bind fun x => if rpOk x.1 = true ∧ x.2 = (openS s).size then some x.1 else none) else none := by
  unfold readR
  by_cases h : openE s = 0
  · rw [if_pos h, if_pos h]
    cases hp : prRp (openS s) with
    | none => rfl
    | some x =>
      obtain ⟨r, q⟩ := x
      simp only [Option.bind_some]
      have hw := rpIn_whole hp
      have : rpB r = s ↔ q = (openS s).size := by
        rw [← hw]
        unfold rpB
        constructor
        · intro he
          rw [open_seal h] at he
          exact sealL_inj he
        · intro he
          rw [he, ← open_seal h]
      simp only [this]
  · rw [if_neg h, if_neg h]
theorem readR_some {s : ByteArray} {r : Rp} (h : readR s = some r) : rpOk r = true ∧ rpB r = s := by
  unfold readR at h
  split at h
  · obtain ⟨x, _, h⟩ := Option.bind_eq_some_iff.1 h
    split at h
    · rename_i hh
      injection h with h
      subst h
      exact hh
    · cases h
  · cases h
/-! what is written is read again -/
theorem prNum_at (A B : List UInt8) (n : Int) (k : Nat) (h0 : 0 ≤ n) (hn : n.toNat < 256 ^ k) : prNum ⟨(A ++ putL n.toNat k ++ B).toArray⟩ A.length k = some (n, A.length + k) := by
  unfold prNum
  rw [if_pos (by rw [ba_size, List.length_append, List.length_append, putL_length]; omega), cutL_at A _ B k (putL_length _ _), getL_putL, Nat.mod_eq_of_lt hn]
  congr 2
  omega
theorem prTxt_at (A B : List UInt8) (s : ByteArray) (hs : s.size ≤ 65535) : prTxt ⟨(A ++ tx s ++ B).toArray⟩ A.length = some (s, A.length + (tx s).length) := by
  obtain ⟨h1, h2, h3⟩ := cut_at A B s hs
  unfold prTxt
  rw [show (⟨(A ++ tx s ++ B).toArray⟩ : ByteArray) = ⟨(A ++ (textL s).data.toList ++ B).toArray⟩ from rfl, if_pos h1, h2, h3, tx_len]
  congr 2
  omega
theorem prNos_at (B : List UInt8) : ∀ (l : List Int) (A : List UInt8), (∀ x ∈ l, 0 ≤ x ∧ x ≤ 65535) → prNos ⟨(A ++ fieldsL 2 l ++ B).toArray⟩ l.length A.length = some (l, A.length + (fieldsL 2 l).length)
  | [], A, _ => by simp [prNos, fieldsL]
  | x :: l, A, h => by
    have hx := h x (by simp)
    have e : (256 : Nat) ^ 2 = 65536 := by decide
    have hf : fieldsL 2 (x :: l) = putL x.toNat 2 ++ fieldsL 2 l := by simp [fieldsL]
    have h1 := prNum_at A (fieldsL 2 l ++ B) x 2 hx.1 (by omega)
    have h2 := prNos_at B l (A ++ putL x.toNat 2) (fun y hy => h y (by simp [hy]))
    simp only [List.length_append, putL_length, List.append_assoc] at h1 h2
    rw [hf, List.length_cons, prNos]
    simp only [List.append_assoc]
    rw [h1]
    simp only [Option.bind_some]
    rw [h2]
    simp only [Option.bind_some, List.length_append, putL_length]
    congr 2
    omega
theorem prLn_at (A B : List UInt8) (e : Ln) (h : LnFits e) : prLn ⟨(A ++ lnB e ++ B).toArray⟩ A.length = some (e, A.length + (lnB e).length) := by
  obtain ⟨h1, h2, h3, h4⟩ := h
  obtain ⟨name, cur, nos⟩ := e
  simp only at h1 h2 h3 h4
  have e1 : (256 : Nat) ^ 1 = 256 := by decide
  have e2 : (256 : Nat) ^ 2 = 65536 := by decide
  have hb : lnB ⟨name, cur, nos⟩ = tx name ++ (putL cur.toNat 2 ++ (putL nos.length 1 ++ fieldsL 2 nos)) := rfl
  have a1 := prTxt_at A (putL cur.toNat 2 ++ (putL nos.length 1 ++ fieldsL 2 nos) ++ B) name (by omega)
  have a2 := prNum_at (A ++ tx name) (putL nos.length 1 ++ fieldsL 2 nos ++ B) cur 2 h3.1 (by omega)
  have a3 := prNum_at (A ++ tx name ++ putL cur.toNat 2) (fieldsL 2 nos ++ B) (nos.length : Nat) 1 (by omega) (by omega)
  have a4 := prNos_at B nos (A ++ tx name ++ putL cur.toNat 2 ++ putL nos.length 1) h4
  rw [Int.toNat_natCast] at a3
  simp only [List.length_append, putL_length, List.append_assoc, Nat.add_assoc] at a1 a2 a3 a4
  rw [hb]
  unfold prLn
  simp only [List.append_assoc]
  rw [a1]
  simp only [Option.bind_some]
  rw [a2]
  simp only [Option.bind_some]
  rw [a3]
  simp only [Option.bind_some, Int.toNat_natCast]
  rw [a4]
  simp only [Option.bind_some, List.length_append, putL_length, Nat.add_assoc]
theorem prLns_at (B : List UInt8) : ∀ (l : List Ln) (A : List UInt8), (∀ x ∈ l, LnFits x) → prLns ⟨(A ++ l.flatMap lnB ++ B).toArray⟩ l.length A.length = some (l, A.length + (l.flatMap lnB).length)
  | [], A, _ => by simp [prLns]
  | x :: l, A, h => by
    have h1 := prLn_at A (l.flatMap lnB ++ B) x (h x (by simp))
    have h2 := prLns_at B l (A ++ lnB x) (fun y hy => h y (by simp [hy]))
    simp only [List.length_append, List.append_assoc] at h1 h2
    rw [List.flatMap_cons, List.length_cons, prLns]
    simp only [List.append_assoc]
    rw [h1]
    simp only [Option.bind_some]
    rw [h2]
    simp only [Option.bind_some, List.length_append, Nat.add_assoc]
theorem prRp_at (r : Rp) (h : RpFits r) (ha : 0 ≤ r.action ∧ r.action ≤ 4294967295) : prRp ⟨(rpIn r).toArray⟩ = some (r, (rpIn r).length) := by
  obtain ⟨f1, f2, f3, f4, f5, f6, f7⟩ := h
  obtain ⟨why, at_, no, source, insns, action, l⟩ := r
  simp only at f1 f2 f3 f4 f5 f6 f7 ha
  have p1 : (256 : Nat) ^ 1 = 256 := by decide
  have p2 : (256 : Nat) ^ 2 = 65536 := by decide
  have p4 : (256 : Nat) ^ 4 = 4294967296 := by decide
  have hin : rpIn ⟨why, at_, no, source, insns, action, l⟩ = putL why.toNat 2 ++ (putL at_.toNat 2 ++ (putL no.toNat 2 ++ (tx source ++ (putL insns.toNat 2 ++ (putL action.toNat 4 ++ (putL l.length 1 ++ l.flatMap lnB)))))) := by
    unfold rpIn headB; simp [fieldsL]
  have a1 := prNum_at [] (putL at_.toNat 2 ++ (putL no.toNat 2 ++ (tx source ++ (putL insns.toNat 2 ++ (putL action.toNat 4 ++ (putL l.length 1 ++ l.flatMap lnB)))))) why 2 f1.1 (by omega)
  have a2 := prNum_at (putL why.toNat 2) (putL no.toNat 2 ++ (tx source ++ (putL insns.toNat 2 ++ (putL action.toNat 4 ++ (putL l.length 1 ++ l.flatMap lnB))))) at_ 2 f2.1 (by omega)
  have a3 := prNum_at (putL why.toNat 2 ++ putL at_.toNat 2) (tx source ++ (putL insns.toNat 2 ++ (putL action.toNat 4 ++ (putL l.length 1 ++ l.flatMap lnB)))) no 2 f3.1 (by omega)
  have a4 := prTxt_at (putL why.toNat 2 ++ putL at_.toNat 2 ++ putL no.toNat 2) (putL insns.toNat 2 ++ (putL action.toNat 4 ++ (putL l.length 1 ++ l.flatMap lnB))) source (by omega)
  have a5 := prNum_at (putL why.toNat 2 ++ putL at_.toNat 2 ++ putL no.toNat 2 ++ tx source) (putL action.toNat 4 ++ (putL l.length 1 ++ l.flatMap lnB)) insns 2 f4.1 (by omega)
  have a6 := prNum_at (putL why.toNat 2 ++ putL at_.toNat 2 ++ putL no.toNat 2 ++ tx source ++ putL insns.toNat 2) (putL l.length 1 ++ l.flatMap lnB) action 4 ha.1 (by omega)
  have a7 := prNum_at (putL why.toNat 2 ++ putL at_.toNat 2 ++ putL no.toNat 2 ++ tx source ++ putL insns.toNat 2 ++ putL action.toNat 4) (l.flatMap lnB) (l.length : Nat) 1 (by omega) (by omega)
  have a8 := prLns_at [] l (putL why.toNat 2 ++ putL at_.toNat 2 ++ putL no.toNat 2 ++ tx source ++ putL insns.toNat 2 ++ putL action.toNat 4 ++ putL l.length 1) f7
  rw [Int.toNat_natCast] at a7
  obtain ⟨T, hT⟩ : ∃ T, (tx source).length = T := ⟨_, rfl⟩
  simp only [List.length_append, List.length_nil, List.nil_append, List.append_nil, putL_length, List.append_assoc, hT] at a1 a2 a3 a4 a5 a6 a7 a8
  have hlen : (putL why.toNat 2 ++ (putL at_.toNat 2 ++ (putL no.toNat 2 ++ (tx source ++ (putL insns.toNat 2 ++ (putL action.toNat 4 ++ (putL l.length 1 ++ l.flatMap lnB))))))).length = 13 + T + (l.flatMap lnB).length := by simp only [List.length_append, putL_length, hT]; omega
  rw [hin]
  generalize (putL why.toNat 2 ++ (putL at_.toNat 2 ++ (putL no.toNat 2 ++ (tx source ++ (putL insns.toNat 2 ++ (putL action.toNat 4 ++ (putL l.length 1 ++ l.flatMap lnB))))))) = Q at *
  have b1 : prNum ⟨Q.toArray⟩ 0 2 = some (why, 2) := a1
  have b2 : prNum ⟨Q.toArray⟩ 2 2 = some (at_, 4) := a2
  have b3 : prNum ⟨Q.toArray⟩ 4 2 = some (no, 6) := a3
  have b4 : prTxt ⟨Q.toArray⟩ 6 = some (source, 6 + T) := a4
  have b5 : prNum ⟨Q.toArray⟩ (6 + T) 2 = some (insns, 8 + T) := by
    have e : (6 : Nat) + T = 2 + (2 + (2 + T)) := by omega
    rw [e, a5]; congr 2; omega
  have b6 : prNum ⟨Q.toArray⟩ (8 + T) 4 = some (action, 12 + T) := by
    have e : (8 : Nat) + T = 2 + (2 + (2 + (T + 2))) := by omega
    rw [e, a6]; congr 2; omega
  have b7 : prNum ⟨Q.toArray⟩ (12 + T) 1 = some (((l.length : Nat) : Int), 13 + T) := by
    have e : (12 : Nat) + T = 2 + (2 + (2 + (T + (2 + 4)))) := by omega
    rw [e, a7]; congr 2; omega
  have b8 : prLns ⟨Q.toArray⟩ l.length (13 + T) = some (l, 13 + T + (l.flatMap lnB).length) := by
    have e : (13 : Nat) + T = 2 + (2 + (2 + (T + (2 + (4 + 1))))) := by omega
    rw [e]; exact a8
  unfold prRp prHead
  rw [b1]
  simp only [Option.bind_some]
  rw [b2]
  simp only [Option.bind_some]
  rw [b3]
  simp only [Option.bind_some]
  rw [b4]
  simp only [Option.bind_some]
  rw [b5]
  simp only [Option.bind_some]
  rw [b6]
  simp only [Option.bind_some]
  rw [b7]
  simp only [Option.bind_some, Int.toNat_natCast]
  rw [b8]
  simp only [Option.bind_some, Rp.with_]
  rw [hlen]
theorem readR_back (r : Rp) (h : rpOk r = true) (ha : 0 ≤ r.action ∧ r.action ≤ 4294967295) : readR (rpB r) = some r := by
  obtain ⟨h1, h2⟩ := seal_open ⟨(rpIn r).toArray⟩
  rw [readR_iff]
  unfold rpB
  rw [if_pos h1, h2, prRp_at r (rp_fits h) ha]
  simp only [Option.bind_some]
  rw [if_pos ⟨h, by rw [ba_size]⟩]
end Go.Proofs.Ytmanlogclbbgaaa
