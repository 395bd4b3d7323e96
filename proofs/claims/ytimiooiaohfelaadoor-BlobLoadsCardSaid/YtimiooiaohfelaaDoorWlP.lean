/- Logs: what they are in memory, and which may be; plain. -/
import Derived.Test.YtimiooiaohfelaaDoorDisk
import Derived.Test.YtimiooiaohfelaaDoorWcells
namespace Go.Proofs.YtimiooiaohfelaaDoor
open Go.RowKit
set_option linter.unusedVariables false

structure Lg where
  secs : List ByteArray
  pend : List Wrt
  left : Int
  epoch : Int
  seq : Int
  used : Int
  dirty : List Wrt
def Lg.dsk (l : Lg) : Dsk := ⟨l.secs, l.pend⟩
def i64ok (n : Int) : Prop := -9223372036854775808 ≤ n ∧ n ≤ 9223372036854775807
def Lg.bounded (l : Lg) : Prop := i64ok l.left ∧ i64ok l.epoch ∧ i64ok l.seq ∧ i64ok l.used
def IsLog (w : World) (v : Value) (l : Lg) : Prop :=
  l.bounded ∧ ∃ sv pv dv, v = .agg #[sv, pv, .int .i64 l.left, .int .i64 l.epoch, .int .i64 l.seq, .int .i64 l.used, dv] ∧ IsStrs w sv l.secs ∧ IsWrts w pv l.pend ∧ IsWrts w dv l.dirty
theorem IsLog.below {w w' : World} {v : Value} {l : Lg} (h : IsLog w v l) (hb : Below w.heap.size w w') : IsLog w' v l := by
  obtain ⟨h0, sv, pv, dv, rfl, h1, h2, h3⟩ := h
  exact ⟨h0, sv, pv, dv, rfl, h1.below hb, h2.below hb, h3.below hb⟩
theorem IsWrts.form {w : World} {v : Value} {l : List Wrt} (h : IsWrts w v l) : ∃ a cap, v = .slice a l.length cap ∧ l.length ≤ cap ∧ cap ≤ 9223372036854775807 := by
  obtain ⟨a, len, cap, rfl, rfl, h1, h2, _⟩ := h
  exact ⟨a, cap, rfl, h1, h2⟩
theorem IsStrs.form {w : World} {v : Value} {l : List ByteArray} (h : IsStrs w v l) : ∃ a cap, v = .slice a l.length cap ∧ l.length ≤ cap ∧ cap ≤ 9223372036854775807 := by
  obtain ⟨a, len, cap, rfl, rfl, h1, h2, _⟩ := h
  exact ⟨a, cap, rfl, h1, h2⟩
theorem IsLog.form {w : World} {v : Value} {l : Lg} (h : IsLog w v l) : ∃ a c a' c' a2 c2, v = .agg #[.slice a l.secs.length c, .slice a' l.pend.length c', .int .i64 l.left, .int .i64 l.epoch, .int .i64 l.seq, .int .i64 l.used, .slice a2 l.dirty.length c2] ∧
    (l.secs.length ≤ c ∧ c ≤ 9223372036854775807) ∧ (l.pend.length ≤ c' ∧ c' ≤ 9223372036854775807) ∧ (l.dirty.length ≤ c2 ∧ c2 ≤ 9223372036854775807) ∧ IsStrs w (.slice a l.secs.length c) l.secs ∧ IsWrts w (.slice a' l.pend.length c') l.pend ∧ IsWrts w (.slice a2 l.dirty.length c2) l.dirty := by
  obtain ⟨h0, sv, pv, dv, rfl, h1, h2, h3⟩ := h
  obtain ⟨a, c, rfl, k1, k2⟩ := h1.form
  obtain ⟨a', c', rfl, k3, k4⟩ := h2.form
  obtain ⟨a2, c2, rfl, k5, k6⟩ := h3.form
  exact ⟨a, c, a', c', a2, c2, rfl, ⟨k1, k2⟩, ⟨k3, k4⟩, ⟨k5, k6⟩, h1, h2, h3⟩
theorem IsLog.disk {w : World} {sv pv dv : Value} {l : Lg} {x y z t : Int} (h : IsLog w (.agg #[sv, pv, .int .i64 x, .int .i64 y, .int .i64 z, .int .i64 t, dv]) l) : IsDisk w (.agg #[sv, pv]) l.dsk := by
  obtain ⟨h0, sv', pv', dv', hv, h1, h2, h3⟩ := h
  injection hv with hv
  injection hv with hv
  injection hv with e1 hv
  injection hv with e2 hv
  subst e1 e2
  exact ⟨_, _, rfl, h1, h2⟩
/-- is there such a home sector? -/
def homeB (n : Nat) (s : Int) : Bool := decide (53 ≤ s ∧ s < n)
/-- a write that is to be done: its place is behind the one ahead of it -/
def dirtyB (n : Nat) : Int → List Wrt → Bool
  | _, [] => true
  | p, x :: l => homeB n x.sector && decide (p < x.sector) && fitsB x.bytes && dirtyB n x.sector l
def rightL (l : Lg) : Bool :=
  rightD l.dsk && decide (64 ≤ l.secs.length) && decide ((1 ≤ l.epoch ∧ l.epoch ≤ 1099511627776) ∧ (0 ≤ l.seq ∧ l.seq ≤ 6) ∧ (0 ≤ l.used ∧ l.used ≤ 40)) && dirtyB l.secs.length (-1) l.dirty
/-- rising places -/
def risesB (p : Int) : List Wrt → Prop
  | [] => True
  | x :: l => p < x.sector ∧ risesB x.sector l
/-- what is to be done, with one write more -/
def withW (x : Wrt) : List Wrt → List Wrt
  | [] => [x]
  | y :: l => if y.sector < x.sector then y :: withW x l else if y.sector = x.sector then x :: l else x :: y :: l
theorem withW_at (x : Wrt) : ∀ (l : List Wrt) (k : Nat), k ≤ l.length → (∀ j, j < k → (l.getD j wrtZ).sector < x.sector) → (∀ j, k ≤ j → j < l.length → x.sector ≤ (l.getD j wrtZ).sector) →
    withW x l = if k < l.length ∧ (l.getD k wrtZ).sector = x.sector then l.set k x else l.take k ++ x :: l.drop k
  | [], k, h, _, _ => by
    obtain rfl : k = 0 := by simpa using h
    rfl
  | y :: l, 0, _, _, h2 => by
    have h := h2 0 (Nat.le_refl _) (by simp)
    simp only [List.getD_cons_zero] at h
    unfold withW
    rw [if_neg (by omega)]
    by_cases e : y.sector = x.sector
    · rw [if_pos e, if_pos ⟨by simp, by simpa using e⟩]; rfl
    · rw [if_neg e, if_neg (fun h => e (by simpa using h.2))]; rfl
  | y :: l, k + 1, hk, h1, h2 => by
    have h := h1 0 (by omega)
    simp only [List.getD_cons_zero] at h
    unfold withW
    rw [if_pos h, withW_at x l k (by simpa using hk) (fun j hj => by simpa using h1 (j + 1) (by omega)) (fun j hj hl => by simpa using h2 (j + 1) (by omega) (by simpa using hl))]
    by_cases e : k < l.length ∧ (l.getD k wrtZ).sector = x.sector
    · rw [if_pos e, if_pos ⟨by simpa using e.1, by simpa using e.2⟩]; rfl
    · rw [if_neg e, if_neg (fun h => e ⟨by simpa using h.1, by simpa using h.2⟩)]; rfl
end Go.Proofs.YtimiooiaohfelaaDoor
