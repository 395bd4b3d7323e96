/- Requests as bytes: how they are read; plain. -/
import Derived.Test.YtmanlogclbbgaaaFr4
import Derived.Test.YtmanlogclbbgaaaFr5
import Derived.Test.YtmanlogclbbgaaaCrcOpen
namespace Go.Proofs.Ytmanlogclbbgaaa
open Go.RowKit
set_option linter.unusedVariables false

/-- what is sealed of a request -/
def askIn (q : Asq) : ByteArray := numS q.kind.toNat 1 ++ textL q.name ++ numS q.no.toNat 8 ++ textL q.source ++ textL q.record
theorem askB_in (q : Asq) : askB q = sealL (askIn q) := rfl
def cutP (t : ByteArray) (p : Nat) : Nat := (cutT t p).toNat
def prAsk (t : ByteArray) : Option (Asq × Nat) :=
  if 1 ≤ t.size ∧ cutE t (1 : Nat) = 0 ∧ cutP t 1 + 8 ≤ t.size ∧ cutE t (cutP t 1 + 8 : Nat) = 0 ∧ cutE t (cutP t (cutP t 1 + 8) : Nat) = 0 then
    some (⟨numA t 0 1, cutS t (1 : Nat), numA t (cutP t 1) 8, cutS t (cutP t 1 + 8 : Nat), cutS t (cutP t (cutP t 1 + 8) : Nat)⟩, cutP t (cutP t (cutP t 1 + 8)))
  else none
/-- the request that bytes are -/
def readQ (s : ByteArray) : Option Asq :=
  if openE s = 0 then match prAsk (openS s) with
    | none => none
    | some (q, _) => if askOk q = true ∧ askB q = s then some q else none
  else none

/-! texts and numbers that stand one behind the other -/
theorem num_split (s : ByteArray) (p k : Nat) (h : p + k ≤ s.size) : s.data.toList.drop p = putL (getL (cutL s p k)) k ++ s.data.toList.drop (p + k) := by
  have hl := cutL_length s p k h
  have h1 := putL_getL (cutL s p k)
  rw [hl] at h1
  rw [h1]
  unfold cutL
  rw [← List.drop_drop, List.take_append_drop]
theorem cut_facts (s : ByteArray) (p : Nat) (h : cutE s p = 0) : getE s p 2 = 0 ∧ p + 2 ≤ s.size ∧ cutP s p = p + 2 + getL (cutL s p 2) ∧ cutP s p ≤ s.size ∧ getL (cutL s p 2) ≤ 65535 ∧ cutS s p = ⟨(cutL s (p + 2) (getL (cutL s p 2))).toArray⟩ := by
  have h0 : getE s p 2 = 0 := by
    unfold cutE at h
    split at h
    · rename_i hh; exact absurd h hh
    · rename_i hh; exact Classical.byContradiction hh
  obtain ⟨_, _, _, h2⟩ := getE_ok h0
  have hN : getN s p 2 = (getL (cutL s p 2) : Nat) := by simp only [getN, if_pos h0, Int.toNat_natCast]; rfl
  have hb := getN_2 s p
  have hf : (p : Int) + 2 + getN s p 2 ≤ s.size := by
    unfold cutE at h
    rw [if_neg (by omega)] at h
    split at h
    · assumption
    · cases h
  have hP : cutP s p = p + 2 + getL (cutL s p 2) := by
    unfold cutP cutT
    rw [if_pos h, hN]; omega
  refine ⟨h0, by omega, hP, by omega, by omega, ?_⟩
  unfold cutS
  rw [if_pos h, Int.toNat_natCast]
theorem text_split (s : ByteArray) (p : Nat) (h : cutE s p = 0) : s.data.toList.drop p = (textL (cutS s p)).data.toList ++ s.data.toList.drop (cutP s p) := by
  obtain ⟨_, h2, hP, hPs, hb, hS⟩ := cut_facts s p h
  rw [num_split s p 2 h2, hS]
  have hl := cutL_length s (p + 2) (getL (cutL s p 2)) (by omega)
  unfold textL
  rw [ba_size, hl]
  simp only [List.append_assoc]
  congr 1
  rw [hP]
  generalize getL (cutL s p 2) = g
  unfold cutL
  rw [show s.data.toList.drop (p + 2 + g) = (s.data.toList.drop (p + 2)).drop g from by rw [List.drop_drop], List.take_append_drop]
theorem text_size (s : ByteArray) (p : Nat) (h : cutE s p = 0) : (cutS s p).size ≤ 65535 := by
  obtain ⟨_, h2, hP, hPs, hb, hS⟩ := cut_facts s p h
  rw [hS, ba_size, cutL_length s (p + 2) _ (by omega)]
  exact hb
theorem numA_nat (s : ByteArray) (p k : Nat) (hk : k ≤ 8) (h : 0 ≤ numA s p k) : (numA s p k).toNat = getL (cutL s p k) := by
  have h1 := getL_8 s p k hk
  unfold numA at h ⊢
  simp [IntKind.wrap, IntKind.signed, IntKind.bits] at h ⊢
  omega
theorem numA_1 (s : ByteArray) (p : Nat) : numA s p 1 = (getL (cutL s p 1) : Nat) := by
  have h1 := getL_lt (cutL s p 1)
  have h2 : (cutL s p 1).length ≤ 1 := List.length_take_le _ _
  have h3 : 256 ^ (cutL s p 1).length ≤ 256 ^ 1 := Nat.pow_le_pow_right (by omega) h2
  unfold numA
  simp [IntKind.wrap, IntKind.signed, IntKind.bits]
  omega
theorem numA_le (s : ByteArray) (p k : Nat) : -9223372036854775808 ≤ numA s p k ∧ numA s p k ≤ 9223372036854775807 := by
  unfold numA
  simp [IntKind.wrap, IntKind.signed, IntKind.bits]
  omega
theorem prAsk_facts {t : ByteArray} {q : Asq} {r : Nat} (h : prAsk t = some (q, r)) : r ≤ t.size ∧ q.name.size ≤ 65535 ∧ q.source.size ≤ 65535 ∧ q.record.size ≤ 65535 ∧ q.no ≤ 9223372036854775807 ∧ 0 ≤ q.kind ∧ q.kind ≤ 255 := by
  unfold prAsk at h
  split at h
  · rename_i hc
    obtain ⟨h1, h2, h3, h4, h5⟩ := hc
    injection h with h
    injection h with ha hb
    subst ha hb
    refine ⟨(cut_facts t _ h5).2.2.2.1, text_size t _ h2, text_size t _ h4, text_size t _ h5, (numA_le _ _ _).2, ?_, ?_⟩
    · show 0 ≤ numA t 0 1
      rw [numA_1]; omega
    · show numA t 0 1 ≤ 255
      rw [numA_1]
      have h1 := getL_lt (cutL t 0 1)
      have h2 : (cutL t 0 1).length ≤ 1 := List.length_take_le _ _
      have h3 : 256 ^ (cutL t 0 1).length ≤ 256 ^ 1 := Nat.pow_le_pow_right (by omega) h2
      omega
  · cases h
/-- what is read stands there -/
theorem prAsk_in {t : ByteArray} {q : Asq} {r : Nat} (h : prAsk t = some (q, r)) (hno : 0 ≤ q.no) : t.data.toList = (askIn q).data.toList ++ t.data.toList.drop r := by
  unfold prAsk at h
  split at h
  · rename_i hc
    obtain ⟨h1, h2, h3, h4, h5⟩ := hc
    injection h with h
    injection h with ha hb
    subst ha hb
    have s0 := num_split t 0 1 h1
    have s1 := text_split t 1 h2
    have s2 := num_split t (cutP t 1) 8 h3
    have s3 := text_split t (cutP t 1 + 8) h4
    have s4 := text_split t (cutP t (cutP t 1 + 8)) h5
    rw [List.drop_zero] at s0
    unfold askIn
    simp only [ba_append_list, numS_list]
    have e0 : (numA t 0 1).toNat = getL (cutL t 0 1) := numA_nat t 0 1 (by omega) (by rw [numA_1]; omega)
    have e1 : (numA t (cutP t 1) 8).toNat = getL (cutL t (cutP t 1) 8) := numA_nat t _ 8 (by omega) hno
    rw [e0, e1]
    conv => lhs; rw [s0, Nat.zero_add, s1, s2, s3, s4]
    simp only [List.append_assoc]
  · cases h
theorem drop_nil {t : ByteArray} {r : Nat} (hr : r ≤ t.size) : t.data.toList.drop r = [] ↔ r = t.size := by
  rw [List.drop_eq_nil_iff, ba_len]
  omega
theorem askIn_whole {t : ByteArray} {q : Asq} {r : Nat} (h : prAsk t = some (q, r)) (hno : 0 ≤ q.no) : askIn q = t ↔ r = t.size := by
  have hf := prAsk_facts h
  have hi := prAsk_in h hno
  rw [← drop_nil hf.1]
  constructor
  · intro he
    rw [he] at hi
    have := congrArg List.length hi
    rw [List.length_append] at this
    exact List.length_eq_zero_iff.1 (by omega)
  · intro he
    rw [he, List.append_nil] at hi
    exact (ba_ext hi).symm
theorem sealL_inj {a b : ByteArray} (h : sealL a = sealL b) : a = b := by
  have hs : a.size = b.size := by have := congrArg ByteArray.size h; rw [sealL_size, sealL_size] at this; omega
  have hl := congrArg (fun x : ByteArray => x.data.toList.take a.size) h
  simp only [sealL_list] at hl
  rw [List.take_left' (ba_len a), hs, List.take_left' (ba_len b)] at hl
  exact ba_ext hl
theorem open_seal {s : ByteArray} (h : openE s = 0) : s = sealL (openS s) := by
  have h1 : openS s = s.extract 0 (s.size - 4) := by unfold openS; rw [if_pos h]
  unfold openE at h
  split at h
  · cases h
  · split at h
    · rename_i hh; rw [h1, hh]
    · cases h
theorem seal_open (t : ByteArray) : openE (sealL t) = 0 ∧ openS (sealL t) = t := by
  have hx : (sealL t).extract 0 ((sealL t).size - 4) = t := by
    apply ba_ext
    rw [ba_extract_list, sealL_list, sealL_size, List.drop_zero]
    rw [show t.size + 4 - 4 - 0 = t.size by omega, List.take_left' (ba_len t)]
  have hE : openE (sealL t) = 0 := by
    unfold openE
    rw [if_neg (by rw [sealL_size]; omega), hx, if_pos rfl]
  exact ⟨hE, by unfold openS; rw [if_pos hE, hx]⟩
theorem askOk_no {q : Asq} (h : askOk q = true) : 0 ≤ q.no := by
  unfold askOk at h
  rw [Bool.and_eq_true] at h
  exact (right_facts q h.1).2.1
/-- the whole is read, and may be -/
theorem readQ_iff (s : ByteArray) : readQ s = if openE s = 0 then (match prAsk (openS s) with | none => none | some (q, r) => if askOk q = true ∧ r = (openS s).size then some q else none) else none := by
  unfold readQ
  by_cases h : openE s = 0
  · rw [if_pos h, if_pos h]
    cases hp : prAsk (openS s) with
    | none => rfl
    | some qr =>
      obtain ⟨q, r⟩ := qr
      simp only
      by_cases ho : askOk q = true
      · have hw := askIn_whole hp (askOk_no ho)
        have : askB q = s ↔ r = (openS s).size := by
          rw [← hw, askB_in]
          constructor
          · intro he
            rw [open_seal h] at he
            exact sealL_inj he
          · intro he
            rw [he, ← open_seal h]
        simp only [ho, this]
      · simp [ho]
  · rw [if_neg h, if_neg h]

/-! what is written is read again -/
theorem cutL_at (A X B : List UInt8) (k : Nat) (hk : X.length = k) : cutL ⟨(A ++ X ++ B).toArray⟩ A.length k = X := by
  unfold cutL
  simp only [List.append_assoc]
  rw [List.drop_left, ← hk, List.take_left]
theorem numA_at (A B : List UInt8) (n : Int) (k : Nat) (h0 : 0 ≤ n) (hm : n ≤ 9223372036854775807) (hn : n.toNat < 256 ^ k) : numA ⟨(A ++ putL n.toNat k ++ B).toArray⟩ A.length k = n := by
  unfold numA
  rw [cutL_at A _ B k (putL_length _ _), getL_putL, Nat.mod_eq_of_lt hn]
  simp [IntKind.wrap, IntKind.signed, IntKind.bits]
  omega
theorem cut_at (A B : List UInt8) (n : ByteArray) (hn : n.size ≤ 65535) : cutE ⟨(A ++ (textL n).data.toList ++ B).toArray⟩ A.length = 0 ∧ cutP ⟨(A ++ (textL n).data.toList ++ B).toArray⟩ A.length = A.length + 2 + n.size ∧ cutS ⟨(A ++ (textL n).data.toList ++ B).toArray⟩ A.length = n := by
  have hz : (ByteArray.mk (A ++ (textL n).data.toList ++ B).toArray).size = A.length + (2 + n.size) + B.length := by
    rw [ba_size, List.length_append, List.length_append, ba_len, textL_size]
  have ht : (textL n).data.toList = putL n.size 2 ++ n.data.toList := by simp [textL]
  have hE : getE ⟨(A ++ (textL n).data.toList ++ B).toArray⟩ A.length 2 = 0 := by
    unfold getE; rw [hz]; rw [if_pos (by omega), if_pos (by omega)]
  have hc : cutL ⟨(A ++ (textL n).data.toList ++ B).toArray⟩ A.length 2 = putL n.size 2 := by
    rw [ht, show A ++ (putL n.size 2 ++ n.data.toList) ++ B = A ++ putL n.size 2 ++ (n.data.toList ++ B) by simp]
    exact cutL_at A _ _ 2 (putL_length _ _)
  have hg : getL (putL n.size 2) = n.size := by rw [getL_putL, Nat.mod_eq_of_lt (by rw [show (256 : Nat) ^ 2 = 65536 by decide]; omega)]
  have hN : getN ⟨(A ++ (textL n).data.toList ++ B).toArray⟩ A.length 2 = (n.size : Nat) := by
    unfold getN
    rw [if_pos hE, Int.toNat_natCast, show (2 : Int).toNat = 2 from rfl, hc, hg]
  have hC : cutE ⟨(A ++ (textL n).data.toList ++ B).toArray⟩ A.length = 0 := by
    unfold cutE
    rw [hE, if_neg (by decide), hN, if_pos (by rw [hz]; omega)]
  refine ⟨hC, ?_, ?_⟩
  · unfold cutP cutT
    rw [if_pos hC, hN]; omega
  · unfold cutS
    rw [if_pos hC, Int.toNat_natCast, hc, hg]
    have : cutL ⟨(A ++ (textL n).data.toList ++ B).toArray⟩ (A.length + 2) n.size = n.data.toList := by
      rw [ht, show A ++ (putL n.size 2 ++ n.data.toList) ++ B = (A ++ putL n.size 2) ++ n.data.toList ++ B by simp]
      have := cutL_at (A ++ putL n.size 2) n.data.toList B n.size (ba_len n)
      rwa [List.length_append, putL_length] at this
    rw [this, ← ba_eq]
theorem prAsk_at (q : Asq) (hk : 0 ≤ q.kind ∧ q.kind ≤ 255) (hn : 0 ≤ q.no ∧ q.no ≤ 9223372036854775807) (h1 : q.name.size ≤ 65535) (h2 : q.source.size ≤ 65535) (h3 : q.record.size ≤ 65535) : prAsk (askIn q) = some (q, (askIn q).size) := by
  obtain ⟨kind, name, no, source, record⟩ := q
  simp only at hk hn h1 h2 h3
  obtain ⟨T1, hT1⟩ : ∃ T, (textL name).data.toList = T := ⟨_, rfl⟩
  obtain ⟨T2, hT2⟩ : ∃ T, (textL source).data.toList = T := ⟨_, rfl⟩
  obtain ⟨T3, hT3⟩ : ∃ T, (textL record).data.toList = T := ⟨_, rfl⟩
  have l1 : T1.length = 2 + name.size := by rw [← hT1, ba_len, textL_size]
  have l2 : T2.length = 2 + source.size := by rw [← hT2, ba_len, textL_size]
  have l3 : T3.length = 2 + record.size := by rw [← hT3, ba_len, textL_size]
  have k1 := putL_length kind.toNat 1
  have k8 := putL_length no.toNat 8
  have hin : askIn ⟨kind, name, no, source, record⟩ = ⟨(putL kind.toNat 1 ++ (T1 ++ (putL no.toNat 8 ++ (T2 ++ T3)))).toArray⟩ := by
    apply ba_ext
    unfold askIn
    simp only [ba_append_list, numS_list, hT1, hT2, hT3, List.append_assoc]
  have a0 := numA_at [] (T1 ++ (putL no.toNat 8 ++ (T2 ++ T3))) kind 1 hk.1 (by omega) (by rw [show (256 : Nat) ^ 1 = 256 by decide]; omega)
  have c1 := cut_at (putL kind.toNat 1) (putL no.toNat 8 ++ (T2 ++ T3)) name h1
  have a8 := numA_at (putL kind.toNat 1 ++ T1) (T2 ++ T3) no 8 hn.1 hn.2 (by rw [show (256 : Nat) ^ 8 = 18446744073709551616 by decide]; omega)
  have c2 := cut_at (putL kind.toNat 1 ++ T1 ++ putL no.toNat 8) T3 source h2
  have c3 := cut_at (putL kind.toNat 1 ++ T1 ++ putL no.toNat 8 ++ T2) [] record h3
  rw [hT1] at c1
  rw [hT2] at c2
  rw [hT3] at c3
  simp only [List.length_append, List.length_nil, List.nil_append, List.append_nil, k1, k8, l1, l2, List.append_assoc] at a0 c1 a8 c2 c3
  have hz : (askIn ⟨kind, name, no, source, record⟩).size = 15 + name.size + source.size + record.size := by
    rw [hin, ba_size]
    simp only [List.length_append, k1, k8, l1, l2, l3]; omega
  rw [hin] at hz ⊢
  rw [hz]
  generalize (ByteArray.mk (putL kind.toNat 1 ++ (T1 ++ (putL no.toNat 8 ++ (T2 ++ T3)))).toArray) = t at *
  obtain ⟨c11, c12, c13⟩ := c1
  obtain ⟨c21, c22, c23⟩ := c2
  obtain ⟨c31, c32, c33⟩ := c3
  have p1 : cutP t 1 = 1 + (2 + name.size) := by rw [c12]; omega
  have p2 : cutP t (1 + (2 + name.size) + 8) = 1 + (2 + name.size) + 8 + (2 + source.size) := by
    rw [show 1 + (2 + name.size) + 8 = 1 + (2 + name.size + 8) by omega, c22]; omega
  have e3 : 1 + (2 + name.size) + 8 + (2 + source.size) = 1 + (2 + name.size + (8 + (2 + source.size))) := by omega
  have e2 : 1 + (2 + name.size) + 8 = 1 + (2 + name.size + 8) := by omega
  unfold prAsk
  rw [p1, p2, e3]
  rw [e2]
  rw [if_pos ⟨by omega, c11, by omega, c21, c31⟩, a0, c13, a8, c23, c33, c32]
  congr 2
  omega
theorem askOk_facts {q : Asq} (h : askOk q = true) : (1 ≤ q.kind ∧ q.kind ≤ 8) ∧ 0 ≤ q.no ∧ q.source.size ≤ 2000 ∧ q.name.size ≤ 12 ∧ q.record.size ≤ 100 := by
  unfold askOk at h
  rw [Bool.and_eq_true, decide_eq_true_eq] at h
  obtain ⟨a, b, c, d⟩ := right_facts q h.1
  exact ⟨a, b, c, d, h.2⟩
/-- what is written is read again -/
theorem readQ_back (q : Asq) (h : askOk q = true) (hno : q.no ≤ 9223372036854775807) : readQ (askB q) = some q := by
  obtain ⟨a, b, c, d, e⟩ := askOk_facts h
  obtain ⟨h1, h2⟩ := seal_open (askIn q)
  rw [← askB_in] at h1 h2
  unfold readQ
  rw [if_pos h1, h2, prAsk_at q ⟨by omega, by omega⟩ ⟨b, hno⟩ (by omega) (by omega) (by omega)]
  simp only
  rw [if_pos ⟨h, trivial⟩]
theorem readQ_some {s : ByteArray} {q : Asq} (h : readQ s = some q) : askOk q = true ∧ askB q = s := by
  unfold readQ at h
  split at h
  · split at h
    · cases h
    · split at h
      · rename_i hh
        injection h with h
        subst h
        exact hh
      · cases h
  · cases h
end Go.Proofs.Ytmanlogclbbgaaa
