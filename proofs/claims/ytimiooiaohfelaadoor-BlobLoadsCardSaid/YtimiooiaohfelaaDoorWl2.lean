/- wal.find, wal.Right. -/
import Derived.Test.YtimiooiaohfelaaDoorWl1
import Derived.Test.YtimiooiaohfelaaDoorDiskC
namespace Go.Proofs.YtimiooiaohfelaaDoor
open Go.RowKit
set_option linter.unusedVariables false

theorem dirty_from {n : Nat} : ∀ {p : Int} {l : List Wrt}, dirtyB n p l = true → ∀ j, j < l.length → (53 ≤ (l.getD j wrtZ).sector ∧ (l.getD j wrtZ).sector < n) ∧ p < (l.getD j wrtZ).sector ∧ fitsB (l.getD j wrtZ).bytes = true
  | p, x :: l, h, 0, _ => by
    unfold dirtyB homeB at h
    simp only [Bool.and_eq_true, decide_eq_true_eq] at h
    exact ⟨h.1.1.1, h.1.1.2, h.1.2⟩
  | p, x :: l, h, j + 1, hj => by
    unfold dirtyB at h
    simp only [Bool.and_eq_true, decide_eq_true_eq] at h
    have := dirty_from h.2 j (by simpa using hj)
    simp only [List.getD_cons_succ]
    exact ⟨this.1, Int.lt_trans h.1.1.2 this.2.1, this.2.2⟩
theorem dirty_rises {n : Nat} : ∀ {p : Int} {l : List Wrt}, dirtyB n p l = true → ∀ i j, i < j → j < l.length → (l.getD i wrtZ).sector < (l.getD j wrtZ).sector
  | p, x :: l, h, 0, j + 1, _, hj => by
    unfold dirtyB at h
    simp only [Bool.and_eq_true, decide_eq_true_eq] at h
    have := dirty_from h.2 j (by simpa using hj)
    simpa using this.2.1
  | p, x :: l, h, i + 1, j + 1, hij, hj => by
    unfold dirtyB at h
    simp only [Bool.and_eq_true, decide_eq_true_eq] at h
    simpa using dirty_rises h.2 i j (by omega) (by simpa using hj)
theorem right_dirty {l : Lg} (h : rightL l = true) : dirtyB l.secs.length (-1) l.dirty = true ∧ l.secs.length ≤ 256 ∧ rightD l.dsk = true := by
  unfold rightL at h
  simp only [Bool.and_eq_true, decide_eq_true_eq] at h
  obtain ⟨⟨⟨h1, h2⟩, h3⟩, h4⟩ := h
  have := right_len l.dsk h1
  exact ⟨h4, this.2, h1⟩
theorem dirty_ge {n : Nat} : ∀ {p : Int} {l : List Wrt}, dirtyB n p l = true → ∀ j : Nat, j < l.length → p + 1 + j ≤ (l.getD j wrtZ).sector
  | p, x :: l, h, 0, _ => by
    unfold dirtyB at h
    simp only [Bool.and_eq_true, decide_eq_true_eq] at h
    have := h.1.1.2
    simp only [List.getD_cons_zero]
    omega
  | p, x :: l, h, j + 1, hj => by
    unfold dirtyB at h
    simp only [Bool.and_eq_true, decide_eq_true_eq] at h
    have h1 := dirty_ge h.2 j (by simpa using hj)
    have h2 := h.1.1.2
    simp only [List.getD_cons_succ]
    omega
theorem dirty_small {n : Nat} {l : List Wrt} (h : dirtyB n (-1) l = true) (hn : n ≤ 256) : l.length ≤ 256 := by
  by_cases h0 : l.length = 0
  · omega
  · have h1 := dirty_ge h (l.length - 1) (by omega)
    have h2 := (dirty_from h (l.length - 1) (by omega)).1.2
    omega
set_option maxRecDepth 100000 in
theorem wlFind (v : Value) (l : List Wrt) (n : Int) (w : World) (h : IsWrts w v l) (hl : l.length ≤ 100000) (hn : -1000000 ≤ n ∧ n ≤ 1000000) (hb : ∀ j, j < l.length → -1000000 ≤ (l.getD j wrtZ).sector ∧ (l.getD j wrtZ).sector ≤ 1000000)
    (hm : ∀ i j, i < j → j < l.length → (l.getD i wrtZ).sector < (l.getD j wrtZ).sector) :
    Calls Tryd.prog 42 #[v, .int .i64 n] w fun e w' => (∃ k : Nat, FindAt l n k ∧ e = .returned (.tuple #[.int .i64 k, .bool (foundB l n k)])) ∧ Below w.heap.size w w' := by
  have HS := Lib.hid (wlSearch v l n w h hl hn hb hm)
  clear h hb hm hn
  go_enter Tryd.func42, Tryd.ntmps42
  go_wp2_with (first | (go_at_call 58; refine HS.out.mono ?_; rintro e w2 ⟨⟨k, hk, rfl⟩, hb2⟩))
  go_ret2
  exact ⟨⟨k, hk, rfl⟩, hb2⟩
/-- of a log that may be -/
theorem wlFindD (v : Value) (l : Lg) (n : Int) (w : World) (h : IsWrts w v l.dirty) (hr : rightL l = true) (hn : -1000000 ≤ n ∧ n ≤ 1000000) :
    Calls Tryd.prog 42 #[v, .int .i64 n] w fun e w' => (∃ k : Nat, FindAt l.dirty n k ∧ e = .returned (.tuple #[.int .i64 k, .bool (foundB l.dirty n k)])) ∧ Below w.heap.size w w' := by
  obtain ⟨h1, h2, h3⟩ := right_dirty hr
  have h4 := dirty_small h1 h2
  exact wlFind v l.dirty n w h (by omega) hn (fun j hj => by have := (dirty_from h1 j hj).1; omega) (dirty_rises h1)
/-! which may be -/
def nextB (n : Nat) (p : Int) (x : Wrt) : Bool := homeB n x.sector && decide (p < x.sector) && fitsB x.bytes
def lastS (p : Int) : List Wrt → Int
  | [] => p
  | x :: l => lastS x.sector l
theorem dirtyB_snoc (n : Nat) (x : Wrt) : ∀ (p : Int) (l : List Wrt), dirtyB n p (l ++ [x]) = (dirtyB n p l && nextB n (lastS p l) x)
  | p, [] => by
    show (_ && true) = (true && _)
    rw [Bool.and_true, Bool.true_and]; rfl
  | p, y :: l => by
    show (_ && dirtyB n y.sector (l ++ [x])) = ((_ && dirtyB n y.sector l) && nextB n (lastS y.sector l) x)
    rw [dirtyB_snoc n x y.sector l, Bool.and_assoc, Bool.and_assoc, Bool.and_assoc]
    simp [Bool.and_assoc]
theorem lastS_snoc (x : Wrt) : ∀ (p : Int) (l : List Wrt), lastS p (l ++ [x]) = x.sector
  | p, [] => rfl
  | p, y :: l => lastS_snoc x y.sector l
theorem dirtyB_pre (n : Nat) : ∀ (p : Int) (l m : List Wrt), dirtyB n p l = false → dirtyB n p (l ++ m) = false
  | p, [], m, h => by cases h
  | p, y :: l, m, h => by
    unfold dirtyB at h ⊢
    rw [List.cons_append]
    simp only [Bool.and_eq_false_iff] at h ⊢
    rcases h with h | h
    · exact .inl h
    · exact .inr (dirtyB_pre n y.sector l m h)
end Go.Proofs.YtimiooiaohfelaaDoor
