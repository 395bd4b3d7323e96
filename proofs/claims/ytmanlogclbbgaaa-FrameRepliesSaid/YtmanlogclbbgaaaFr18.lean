/- Answers as bytes; plain. -/
import Derived.Test.YtmanlogclbbgaaaFr17
import Derived.Test.YtmanlogclbbgaaaFr6
namespace Go.Proofs.Ytmanlogclbbgaaa
open Go.RowKit
set_option linter.unusedVariables false

def tx (s : ByteArray) : List UInt8 := (textL s).data.toList
def lnB (e : Ln) : List UInt8 := tx e.name ++ (putL e.cur.toNat 2 ++ (putL e.nos.length 1 ++ fieldsL 2 e.nos))
def headB (r : Rp) : List UInt8 := fieldsL 2 [r.why, r.at_, r.no] ++ (tx r.source ++ (putL r.insns.toNat 2 ++ putL r.action.toNat 4))
def rpIn (r : Rp) : List UInt8 := headB r ++ (putL r.lines.length 1 ++ r.lines.flatMap lnB)
def rpB (r : Rp) : ByteArray := sealL ⟨(rpIn r).toArray⟩
theorem tx_len (s : ByteArray) : (tx s).length = 2 + s.size := by unfold tx; rw [ba_len, textL_size]
theorem unfit_no {n : Int} (h : unfit n = false) : 0 ≤ n ∧ n ≤ 65535 := by
  unfold unfit at h
  rw [Bool.or_eq_false_iff, decide_eq_false_iff_not, decide_eq_false_iff_not] at h
  omega
structure LnFits (e : Ln) : Prop where
  name : e.name.size ≤ 40
  nos : e.nos.length ≤ 6
  cur : 0 ≤ e.cur ∧ e.cur ≤ 65535
  each : ∀ n ∈ e.nos, 0 ≤ n ∧ n ≤ 65535
theorem ln_fits {e : Ln} (h : badLn e = false) : LnFits e := by
  unfold badLn at h
  simp only [Bool.or_eq_false_iff, decide_eq_false_iff_not] at h
  obtain ⟨⟨⟨h1, h2⟩, h3⟩, h4⟩ := h
  refine ⟨by omega, by omega, unfit_no h3, fun n hn => ?_⟩
  rw [List.any_eq_false] at h4
  exact unfit_no (by simpa using h4 n hn)
structure RpFits (r : Rp) : Prop where
  why : 0 ≤ r.why ∧ r.why ≤ 65535
  at_ : 0 ≤ r.at_ ∧ r.at_ ≤ 65535
  no : 0 ≤ r.no ∧ r.no ≤ 65535
  insns : 0 ≤ r.insns ∧ r.insns ≤ 65535
  source : r.source.size ≤ 2000
  lines : r.lines.length ≤ 8
  each : ∀ e ∈ r.lines, LnFits e
theorem rp_fits {r : Rp} (h : rpOk r = true) : RpFits r := by
  unfold rpOk at h
  simp only [Bool.and_eq_true, Bool.not_eq_true', decide_eq_true_eq] at h
  obtain ⟨⟨⟨h1, h2⟩, h3⟩, h4⟩ := h
  rw [List.any_eq_false] at h1 h4
  refine ⟨unfit_no (by simpa using h1 r.why (by simp)), unfit_no (by simpa using h1 r.at_ (by simp)), unfit_no (by simpa using h1 r.no (by simp)), unfit_no (by simpa using h1 r.insns (by simp)), h2, h3, fun e he => ln_fits (by simpa using h4 e he)⟩
theorem lnB_len (e : Ln) : (lnB e).length = 5 + e.name.size + 2 * e.nos.length := by
  unfold lnB
  simp only [List.length_append, tx_len, putL_length, fieldsL_len]
  omega
theorem lnsB_len (l : List Ln) (h : ∀ e ∈ l, LnFits e) : (l.flatMap lnB).length ≤ 57 * l.length := by
  induction l with
  | nil => simp
  | cons e l ih =>
    rw [List.flatMap_cons, List.length_append, List.length_cons, lnB_len]
    have h1 := ih (fun x hx => h x (by simp [hx]))
    have h2 := h e (by simp)
    have := h2.name
    have := h2.nos
    omega
theorem headB_len (r : Rp) : (headB r).length = 14 + r.source.size := by
  unfold headB
  simp only [List.length_append, tx_len, putL_length, fieldsL_len]
  simp
  omega
theorem rpIn_len (r : Rp) (h : RpFits r) : (rpIn r).length ≤ 2500 := by
  unfold rpIn
  have h1 := headB_len r
  have h2 := lnsB_len r.lines h.each
  have := h.source
  have := h.lines
  simp only [List.length_append, putL_length]
  omega
end Go.Proofs.Ytmanlogclbbgaaa
