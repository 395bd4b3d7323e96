/- Boxes of logs: what they hold, and what stays. -/
import Derived.Test.YthnmnnlbglpjaaaGreatDoorRefH
import Derived.Test.YthnmnnlbglpjaaaGreatDoorWop
namespace Go.Proofs.YthnmnnlbglpjaaaGreatDoor
open Go.RowKit
set_option linter.unusedVariables false
set_option linter.unusedSimpArgs false

theorem Below.at' {a b : World} {g : Nat} {o : Obj} (h : Below a.heap.size a b) (hg : a.heap[g]? = some o) : b.heap[g]? = some o := (h.block _ (Array.getElem?_eq_some_iff.1 hg).1).trans hg
/-- a new object behind a call -/
theorem step_alloc {w u : World} (hb : Below w.heap.size w u) (o : Obj) : ∃ u2 D, u.alloc o = u2 ∧ u.heap.size = D ∧ u2.heap[D]? = some o ∧ Below w.heap.size w u2 ∧ Below u.heap.size u u2 ∧ w.heap.size ≤ D ∧ u2.heap.size = D + 1 := by
  have hal := (Below.refl u.heap.size u).alloc (Nat.le_refl _) o
  exact ⟨_, _, rfl, rfl, heap_alloc_new u o, hb.trans (hal.mono hb.size), hal, hb.size, World.size_alloc u o⟩
/-- a log's seven cells -/
def logCells (x1 : Option Addr) (c1 : Nat) (x2 : Option Addr) (c2 : Nat) (x3 : Option Addr) (c3 : Nat) (l : Lg) : Array Value := #[.slice x1 l.secs.length c1, .slice x2 l.pend.length c2, .int .i64 l.left, .int .i64 l.epoch, .int .i64 l.seq, .int .i64 l.used, .slice x3 l.dirty.length c3]
def LogBox (u : World) (g : Nat) (l : Lg) : Prop := ∃ x1 c1 x2 c2 x3 c3, u.heap[g]? = some (.cells #[.slice x1 l.secs.length c1, .slice x2 l.pend.length c2, .int .i64 l.left, .int .i64 l.epoch, .int .i64 l.seq, .int .i64 l.used, .slice x3 l.dirty.length c3] 29 (0, 0)) ∧
  IsLog u (.agg #[.slice x1 l.secs.length c1, .slice x2 l.pend.length c2, .int .i64 l.left, .int .i64 l.epoch, .int .i64 l.seq, .int .i64 l.used, .slice x3 l.dirty.length c3]) l
theorem LogBox.below {u u' : World} {g : Nat} {l : Lg} (h : LogBox u g l) (hb : Below u.heap.size u u') : LogBox u' g l := by
  obtain ⟨x1, c1, x2, c2, x3, c3, h1, h2⟩ := h
  exact ⟨x1, c1, x2, c2, x3, c3, Below.at' hb h1, h2.below hb⟩
theorem LogBox.lt {u : World} {g : Nat} {l : Lg} (h : LogBox u g l) : g < u.heap.size := by
  obtain ⟨x1, c1, x2, c2, x3, c3, h1, h2⟩ := h
  exact (Array.getElem?_eq_some_iff.1 h1).1
theorem logNoText (x1 : Option Addr) (c1 : Nat) (x2 : Option Addr) (c2 : Nat) (x3 : Option Addr) (c3 n1 n2 n3 : Nat) (a b c d : Int) : ∀ (j : Nat) (s : ByteArray), (#[Value.slice x1 n1 c1, .slice x2 n2 c2, .int .i64 a, .int .i64 b, .int .i64 c, .int .i64 d, .slice x3 n3 c3] : Array Value)[j]? ≠ some (Value.string s) := by
  intro j s h
  match j with
  | 0 => simp at h
  | 1 => simp at h
  | 2 => simp at h
  | 3 => simp at h
  | 4 => simp at h
  | 5 => simp at h
  | 6 => simp at h
  | j + 7 => simp at h
/-- a log stays where a box of a log is set anew -/
theorem LogBox.log_stays {u u' : World} {g : Nat} {m : Lg} (h : LogBox u g m) (hs : u.heap.size ≤ u'.heap.size) (hk : ∀ b, b ≠ g → u'.heap[b]? = u.heap[b]?) {v : Value} {l : Lg} (hl : IsLog u v l) : IsLog u' v l := by
  obtain ⟨x1, c1, x2, c2, x3, c3, h1, h2⟩ := h
  exact hl.apart h1 (logNoText _ _ _ _ _ _ _ _ _ _ _ _ _) hs hk
theorem LogBox.box_stays {u u' : World} {g : Nat} {m : Lg} (h : LogBox u g m) (hs : u.heap.size ≤ u'.heap.size) (hk : ∀ b, b ≠ g → u'.heap[b]? = u.heap[b]?) {f : Nat} (hf : f ≠ g) {l : Lg} (hl : LogBox u f l) : LogBox u' f l := by
  obtain ⟨x1, c1, x2, c2, x3, c3, h1, h2⟩ := hl
  exact ⟨x1, c1, x2, c2, x3, c3, (hk f hf).trans h1, h.log_stays hs hk h2⟩
theorem LogBox.strs_stay {u u' : World} {g : Nat} {m : Lg} (h : LogBox u g m) (hs : u.heap.size ≤ u'.heap.size) (hk : ∀ b, b ≠ g → u'.heap[b]? = u.heap[b]?) {v : Value} {l : List ByteArray} (hl : IsStrs u v l) : IsStrs u' v l := by
  obtain ⟨x1, c1, x2, c2, x3, c3, h1, h2⟩ := h
  exact hl.apart h1 (logNoText _ _ _ _ _ _ _ _ _ _ _ _ _) hs hk
/-- a log with its power set anew -/
theorem log_pow {w : World} {sv pv dv : Value} {l : Lg} {x y z t : Int} (h : IsLog w (.agg #[sv, pv, .int .i64 x, .int .i64 y, .int .i64 z, .int .i64 t, dv]) l) (n : Int) (hn : i64ok n) : IsLog w (.agg #[sv, pv, .int .i64 n, .int .i64 y, .int .i64 z, .int .i64 t, dv]) (l.pow n) := by
  obtain ⟨⟨_, h1, h2, h3⟩, sv', pv', dv', hv, k1, k2, k3⟩ := h
  injection hv with hv
  injection hv with hv
  injection hv with e1 hv
  injection hv with e2 hv
  injection hv with e3 hv
  injection hv with e4 hv
  injection hv with e5 hv
  injection hv with e6 hv
  injection hv with e7 hv
  subst e1 e2 e7
  injection e4 with _ e4
  injection e5 with _ e5
  injection e6 with _ e6
  subst e4 e5 e6
  exact ⟨⟨hn, h1, h2, h3⟩, _, _, _, rfl, k1, k2, k3⟩
theorem LogBox.pow {u : World} {g : Nat} {l : Lg} (h : LogBox u g l) (n : Int) (hn : i64ok n) : LogBox (u.setCell ⟨g, 2, none⟩ (.int .i64 n)) g (l.pow n) := by
  have h0 := h
  obtain ⟨x1, c1, x2, c2, x3, c3, h1, h2⟩ := h
  refine ⟨x1, c1, x2, c2, x3, c3, block_set h1 2 (.int .i64 n), ?_⟩
  exact h0.log_stays (by simp) (fun b hb => Below.heap_setCell u ⟨g, 2, none⟩ (.int .i64 n) b hb) (log_pow h2 n hn)
theorem IsLog.box {u : World} {g : Nat} {l : Lg} {x1 : Option Addr} {c1 : Nat} {x2 : Option Addr} {c2 : Nat} {x3 : Option Addr} {c3 : Nat} (h : IsLog u (.agg #[.slice x1 l.secs.length c1, .slice x2 l.pend.length c2, .int .i64 l.left, .int .i64 l.epoch, .int .i64 l.seq, .int .i64 l.used, .slice x3 l.dirty.length c3]) l)
    (hg : u.heap[g]? = some (.cells #[.slice x1 l.secs.length c1, .slice x2 l.pend.length c2, .int .i64 l.left, .int .i64 l.epoch, .int .i64 l.seq, .int .i64 l.used, .slice x3 l.dirty.length c3] 29 (0, 0))) : LogBox u g l := ⟨_, _, _, _, _, _, hg, h⟩
/-- a whole log is stored into a box of a log -/
theorem LogBox.set {u : World} {g : Nat} {m l : Lg} (h : LogBox u g m) {x1 : Option Addr} {c1 : Nat} {x2 : Option Addr} {c2 : Nat} {x3 : Option Addr} {c3 : Nat} (hl : IsLog u (.agg #[.slice x1 l.secs.length c1, .slice x2 l.pend.length c2, .int .i64 l.left, .int .i64 l.epoch, .int .i64 l.seq, .int .i64 l.used, .slice x3 l.dirty.length c3]) l) :
    LogBox (u.setRow g #[.slice x1 l.secs.length c1, .slice x2 l.pend.length c2, .int .i64 l.left, .int .i64 l.epoch, .int .i64 l.seq, .int .i64 l.used, .slice x3 l.dirty.length c3]) g l := by
  obtain ⟨y1, d1, y2, d2, y3, d3, h1, h2⟩ := id h
  exact ⟨_, _, _, _, _, _, setRow_heap u g _ _ _ _ h1, h.log_stays (by simp [World.setRow]) (fun b hb => setRow_other u g b _ hb) hl⟩
/-- a step of a play as a value -/
def IsAct (w : World) (v : Value) (x : Actn) : Prop := (i64ok x.left ∧ i64ok x.again) ∧ ∃ k1 k2, v = .agg #[k1, .bool x.check, .int .i64 x.left, .int .i64 x.again, k2] ∧ IsWrts w k1 x.writes ∧ IsBools w k2 x.keep
theorem IsAct.below {w w' : World} {v : Value} {x : Actn} (h : IsAct w v x) (hb : Below w.heap.size w w') : IsAct w' v x := by
  obtain ⟨h0, k1, k2, rfl, h1, h2⟩ := h
  exact ⟨h0, k1, k2, rfl, h1.below hb, h2.below hb⟩
end Go.Proofs.YthnmnnlbglpjaaaGreatDoor
