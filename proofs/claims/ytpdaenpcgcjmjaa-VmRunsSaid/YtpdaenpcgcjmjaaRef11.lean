/- The reference's machine: plain facts. -/
import Derived.Test.YtpdaenpcgcjmjaaVmD
import Derived.Test.YtpdaenpcgcjmjaaRef10Kn
import Derived.Test.YtpdaenpcgcjmjaaRef01Num
namespace Go.Proofs.Ytpdaenpcgcjmjaa
open Go.RowKit
set_option linter.unusedVariables false

structure RM where
  a : Nat
  x : Nat
  cells : List Nat
  at' : Int
  out : Nat
  done : Bool
  wrong : Bool
def RM.arr (r : RM) : Array Value := ((u32V r.a :: u32V r.x :: r.cells.map u32V) ++ [.int .i64 r.at', u32V r.out, .bool r.done, .bool r.wrong]).toArray
def RM.mach (r : RM) : Mach := ⟨r.a, r.x, r.cells, 0, r.out, r.done⟩
theorem rarr_gets (r : RM) (h : r.cells.length = 16) : r.arr[0]? = some (.int .u32 (r.a : Int)) ∧ r.arr[1]? = some (.int .u32 (r.x : Int)) ∧
    r.arr[18]? = some (.int .i64 r.at') ∧ r.arr[19]? = some (.int .u32 (r.out : Int)) ∧ r.arr[20]? = some (.bool r.done) ∧ r.arr[21]? = some (.bool r.wrong) := by
  obtain ⟨a, x, cells, at', out, done, wrong⟩ := r
  obtain ⟨c0, c1, c2, c3, c4, c5, c6, c7, c8, c9, c10, c11, c12, c13, c14, c15, rfl⟩ := list16 cells h
  exact ⟨rfl, rfl, rfl, rfl, rfl, rfl⟩
theorem rarr_cell (r : RM) (h : r.cells.length = 16) (k : Nat) (hk : k < 16) : r.arr[2 + k]? = some (.int .u32 ((r.cells.getD k 0 : Nat) : Int)) := by
  obtain ⟨a, x, cells, at', out, done, wrong⟩ := r
  obtain ⟨c0, c1, c2, c3, c4, c5, c6, c7, c8, c9, c10, c11, c12, c13, c14, c15, rfl⟩ := list16 cells h
  match k, hk with
  | 0, _ | 1, _ | 2, _ | 3, _ | 4, _ | 5, _ | 6, _ | 7, _ | 8, _ | 9, _ | 10, _ | 11, _ | 12, _ | 13, _ | 14, _ | 15, _ => rfl
  | k + 16, hh => exact absurd hh (by omega)
theorem rarr_a (r : RM) (v : Nat) : r.arr.setIfInBounds 0 (.int .u32 (v : Int)) = { r with a := v }.arr := by simp [RM.arr, u32V]
theorem rarr_x (r : RM) (v : Nat) : r.arr.setIfInBounds 1 (.int .u32 (v : Int)) = { r with x := v }.arr := by simp [RM.arr, u32V]
theorem rarr_at (r : RM) (h : r.cells.length = 16) (v : Int) : r.arr.setIfInBounds 18 (.int .i64 v) = { r with at' := v }.arr := by
  obtain ⟨a, x, cells, at', out, done, wrong⟩ := r
  obtain ⟨c0, c1, c2, c3, c4, c5, c6, c7, c8, c9, c10, c11, c12, c13, c14, c15, rfl⟩ := list16 cells h
  rfl
theorem rarr_out (r : RM) (h : r.cells.length = 16) (v : Nat) : r.arr.setIfInBounds 19 (.int .u32 (v : Int)) = { r with out := v }.arr := by
  obtain ⟨a, x, cells, at', out, done, wrong⟩ := r
  obtain ⟨c0, c1, c2, c3, c4, c5, c6, c7, c8, c9, c10, c11, c12, c13, c14, c15, rfl⟩ := list16 cells h
  rfl
theorem rarr_done (r : RM) (h : r.cells.length = 16) (v : Bool) : r.arr.setIfInBounds 20 (.bool v) = { r with done := v }.arr := by
  obtain ⟨a, x, cells, at', out, done, wrong⟩ := r
  obtain ⟨c0, c1, c2, c3, c4, c5, c6, c7, c8, c9, c10, c11, c12, c13, c14, c15, rfl⟩ := list16 cells h
  rfl
theorem rarr_wrong (r : RM) (h : r.cells.length = 16) (v : Bool) : r.arr.setIfInBounds 21 (.bool v) = { r with wrong := v }.arr := by
  obtain ⟨a, x, cells, at', out, done, wrong⟩ := r
  obtain ⟨c0, c1, c2, c3, c4, c5, c6, c7, c8, c9, c10, c11, c12, c13, c14, c15, rfl⟩ := list16 cells h
  rfl
theorem rarr_set (r : RM) (h : r.cells.length = 16) (k : Nat) (hk : k < 16) (v : Nat) : r.arr.setIfInBounds (2 + k) (.int .u32 (v : Int)) = { r with cells := r.cells.set k v }.arr := by
  obtain ⟨a, x, cells, at', out, done, wrong⟩ := r
  obtain ⟨c0, c1, c2, c3, c4, c5, c6, c7, c8, c9, c10, c11, c12, c13, c14, c15, rfl⟩ := list16 cells h
  match k, hk with
  | 0, _ | 1, _ | 2, _ | 3, _ | 4, _ | 5, _ | 6, _ | 7, _ | 8, _ | 9, _ | 10, _ | 11, _ | 12, _ | 13, _ | 14, _ | 15, _ => rfl
  | k + 16, hh => exact absurd hh (by omega)
theorem rarr_one (r : RM) : r.arr.all (·.oneCell') = true := by simp [RM.arr, u32V, Value.oneCell']
theorem rarr_size (r : RM) (h : r.cells.length = 16) : r.arr.size = 22 := by simp [RM.arr, h]
/-- block B is the reference's machine r -/
structure IsR (w : World) (B : Nat) (r : RM) : Prop where
  blk : w.heap[B]? = some (.cells r.arr 45 (0, 0))
  len : r.cells.length = 16
theorem IsR.facts {w : World} {B : Nat} {r : RM} (h : IsR w B r) : w.cell? ⟨B, 0, none⟩ = some (.int .u32 (r.a : Int)) ∧ w.cell? ⟨B, 1, none⟩ = some (.int .u32 (r.x : Int)) ∧
    w.cell? ⟨B, 18, none⟩ = some (.int .i64 r.at') ∧ w.cell? ⟨B, 19, none⟩ = some (.int .u32 (r.out : Int)) ∧ w.cell? ⟨B, 20, none⟩ = some (.bool r.done) ∧ w.cell? ⟨B, 21, none⟩ = some (.bool r.wrong) := by
  obtain ⟨a0, a1, a2, a3, a4, a5⟩ := rarr_gets r h.len
  have hb := Below.refl w.heap.size w
  exact ⟨below_cell hb h.blk 0 a0, below_cell hb h.blk 1 a1, below_cell hb h.blk 18 a2, below_cell hb h.blk 19 a3, below_cell hb h.blk 20 a4, below_cell hb h.blk 21 a5⟩
theorem IsR.cell {w : World} {B : Nat} {r : RM} (h : IsR w B r) (k : Nat) (hk : k < 16) : w.cell? ⟨B, 2 + k, none⟩ = some (.int .u32 ((r.cells.getD k 0 : Nat) : Int)) :=
  below_cell (Below.refl w.heap.size w) h.blk (2 + k) (rarr_cell r h.len k hk)
theorem IsR.below {w w' : World} {B : Nat} {r : RM} (h : IsR w B r) (hb : Below w.heap.size w w') : IsR w' B r :=
  ⟨(hb.block B (Array.getElem?_eq_some_iff.1 h.blk).1).trans h.blk, h.len⟩
theorem IsR.lt {w : World} {B : Nat} {r : RM} (h : IsR w B r) : B < w.heap.size := (Array.getElem?_eq_some_iff.1 h.blk).1
theorem IsR.setA {w : World} {B : Nat} {r : RM} (h : IsR w B r) (v : Nat) : IsR (w.setCell ⟨B, 0, none⟩ (.int .u32 (v : Int))) B { r with a := v } :=
  ⟨by have := block_set h.blk 0 (.int .u32 (v : Int)); rwa [rarr_a] at this, h.len⟩
theorem IsR.setX {w : World} {B : Nat} {r : RM} (h : IsR w B r) (v : Nat) : IsR (w.setCell ⟨B, 1, none⟩ (.int .u32 (v : Int))) B { r with x := v } :=
  ⟨by have := block_set h.blk 1 (.int .u32 (v : Int)); rwa [rarr_x] at this, h.len⟩
theorem IsR.setAt {w : World} {B : Nat} {r : RM} (h : IsR w B r) (v : Int) : IsR (w.setCell ⟨B, 18, none⟩ (.int .i64 v)) B { r with at' := v } :=
  ⟨by have := block_set h.blk 18 (.int .i64 v); rwa [rarr_at _ h.len] at this, h.len⟩
theorem IsR.setOut {w : World} {B : Nat} {r : RM} (h : IsR w B r) (v : Nat) : IsR (w.setCell ⟨B, 19, none⟩ (.int .u32 (v : Int))) B { r with out := v } :=
  ⟨by have := block_set h.blk 19 (.int .u32 (v : Int)); rwa [rarr_out _ h.len] at this, h.len⟩
theorem IsR.setDone {w : World} {B : Nat} {r : RM} (h : IsR w B r) (v : Bool) : IsR (w.setCell ⟨B, 20, none⟩ (.bool v)) B { r with done := v } :=
  ⟨by have := block_set h.blk 20 (.bool v); rwa [rarr_done _ h.len] at this, h.len⟩
theorem IsR.setWrong {w : World} {B : Nat} {r : RM} (h : IsR w B r) (v : Bool) : IsR (w.setCell ⟨B, 21, none⟩ (.bool v)) B { r with wrong := v } :=
  ⟨by have := block_set h.blk 21 (.bool v); rwa [rarr_wrong _ h.len] at this, h.len⟩
theorem IsR.setCellK {w : World} {B : Nat} {r : RM} (h : IsR w B r) (k : Nat) (hk : k < 16) (v : Nat) : IsR (w.setCell ⟨B, 2 + k, none⟩ (.int .u32 (v : Int))) B { r with cells := r.cells.set k v } :=
  ⟨by have := block_set h.blk (2 + k) (.int .u32 (v : Int)); rwa [rarr_set _ h.len k hk] at this, by show (r.cells.set k v).length = 16; rw [List.length_set]; exact h.len⟩
/-- what a deed makes of it -/
def Deed.runR (rec : ByteArray) (r : RM) : Deed → RM
  | .setA v => { r with a := v }
  | .setX v => { r with x := v }
  | .over v => { r with at' := wrap64 (r.at' + max v 0) }
  | .answer v => { r with done := true, out := v }
  | .ldm k => if k < 16 then { r with a := r.cells.getD k 0 } else { r with wrong := true }
  | .lxm k => if k < 16 then { r with x := r.cells.getD k 0 } else { r with wrong := true }
  | .st k => if k < 16 then { r with cells := r.cells.set k r.a } else { r with wrong := true }
  | .stx k => if k < 16 then { r with cells := r.cells.set k r.x } else { r with wrong := true }
  | .abs k => if wordOk k then { r with a := getL (cutL rec k 4), wrong := false } else { r with a := 0, wrong := true }
def stepR (l : List Ins) (rec : ByteArray) (r : RM) : RM :=
  if 0 ≤ r.at' ∧ r.at' < l.length ∧ insKnown (l.getD r.at'.toNat insZ).code = true then
    (deedD r.mach (l.getD r.at'.toNat insZ).code.toNat (l.getD r.at'.toNat insZ).k.toNat (l.getD r.at'.toNat insZ).jt (l.getD r.at'.toNat insZ).jf).runR rec { r with at' := r.at' + 1 }
  else { r with wrong := true }
theorem deedD_congr (m m' : Mach) (c k : Nat) (jt jf : Int) (ha : m.a = m'.a) (hx : m.x = m'.x) : deedD m c k jt jf = deedD m' c k jt jf := by
  unfold deedD moveD
  rw [ha, hx]
/-- both machines are alike, as long as there is a next instruction -/
structure Alike (n : Nat) (m : Mach) (r : RM) : Prop where
  a : r.a = m.a
  x : r.x = m.x
  cells : r.cells = m.cells
  ret : m.ret = false
  done : r.done = false
  wrong : r.wrong = false
  next : r.at' = m.next ∨ (n ≤ m.next ∧ (r.at' < 0 ∨ (n : Int) ≤ r.at'))
/-- one step of both -/
theorem alike_run (rec : ByteArray) (n : Nat) (m : Mach) (r : RM) (h : Alike n m r) (hn : r.at' = m.next) (hN : m.next ≤ 2000000) (hN2 : n ≤ 1000000) (D : Deed) (hD : D.small) :
    ((D.run rec n m).1 = false → (D.runR rec r).wrong = true) ∧
    ((D.run rec n m).1 = true → (D.runR rec r).wrong = false ∧ ((D.run rec n m).2.ret = true → (D.runR rec r).done = true ∧ (D.runR rec r).out = (D.run rec n m).2.ans) ∧
      ((D.run rec n m).2.ret = false → Alike n (D.run rec n m).2 (D.runR rec r))) := by
  obtain ⟨h1, h2, h3, h4, h5, h6, h7⟩ := h
  cases D with
  | setA v => exact ⟨fun h => (by cases h), fun _ => ⟨h6, fun h => by rw [show (Deed.run rec n m (.setA v)).2.ret = m.ret from rfl, h4] at h; exact absurd h (by decide), fun _ => ⟨rfl, h2, h3, h4, h5, h6, h7⟩⟩⟩
  | setX v => exact ⟨fun h => (by cases h), fun _ => ⟨h6, fun h => by rw [show (Deed.run rec n m (.setX v)).2.ret = m.ret from rfl, h4] at h; exact absurd h (by decide), fun _ => ⟨h1, rfl, h3, h4, h5, h6, h7⟩⟩⟩
  | answer v => exact ⟨fun h => (by cases h), fun _ => ⟨h6, fun _ => ⟨rfl, rfl⟩, fun h => (by cases h)⟩⟩
  | over v =>
    refine ⟨fun h => (by cases h), fun _ => ⟨h6, fun h => by rw [show (Deed.run rec n m (.over v)).2.ret = m.ret from rfl, h4] at h; exact absurd h (by decide), fun _ => ⟨h1, h2, h3, h4, h5, h6, ?_⟩⟩⟩
    show wrap64 (r.at' + max v 0) = ((m.next + (min (max v 0) n).toNat : Nat) : Int) ∨ (n ≤ m.next + (min (max v 0) n).toNat ∧ (wrap64 (r.at' + max v 0) < 0 ∨ (n : Int) ≤ wrap64 (r.at' + max v 0)))
    unfold Deed.small at hD
    rw [hn]
    unfold wrap64
    omega
  | ldm k =>
    by_cases hk : k < 16
    · rw [show Deed.run rec n m (.ldm k) = (true, { m with a := m.cells.getD k 0 }) from if_pos hk, show Deed.runR rec r (.ldm k) = { r with a := r.cells.getD k 0 } from if_pos hk]
      exact ⟨fun h => (by cases h), fun _ => ⟨h6, fun h => by rw [show ({ m with a := m.cells.getD k 0 } : Mach).ret = m.ret from rfl, h4] at h; exact absurd h (by decide), fun _ => ⟨by show r.cells.getD k 0 = m.cells.getD k 0; rw [h3], h2, h3, h4, h5, h6, h7⟩⟩⟩
    · rw [show Deed.run rec n m (.ldm k) = (false, m) from if_neg hk, show Deed.runR rec r (.ldm k) = { r with wrong := true } from if_neg hk]
      exact ⟨fun _ => rfl, fun h => (by cases h)⟩
  | lxm k =>
    by_cases hk : k < 16
    · rw [show Deed.run rec n m (.lxm k) = (true, { m with x := m.cells.getD k 0 }) from if_pos hk, show Deed.runR rec r (.lxm k) = { r with x := r.cells.getD k 0 } from if_pos hk]
      exact ⟨fun h => (by cases h), fun _ => ⟨h6, fun h => by rw [show ({ m with x := m.cells.getD k 0 } : Mach).ret = m.ret from rfl, h4] at h; exact absurd h (by decide), fun _ => ⟨h1, by show r.cells.getD k 0 = m.cells.getD k 0; rw [h3], h3, h4, h5, h6, h7⟩⟩⟩
    · rw [show Deed.run rec n m (.lxm k) = (false, m) from if_neg hk, show Deed.runR rec r (.lxm k) = { r with wrong := true } from if_neg hk]
      exact ⟨fun _ => rfl, fun h => (by cases h)⟩
  | st k =>
    by_cases hk : k < 16
    · rw [show Deed.run rec n m (.st k) = (true, { m with cells := m.cells.set k m.a }) from if_pos hk, show Deed.runR rec r (.st k) = { r with cells := r.cells.set k r.a } from if_pos hk]
      exact ⟨fun h => (by cases h), fun _ => ⟨h6, fun h => by rw [show ({ m with cells := m.cells.set k m.a } : Mach).ret = m.ret from rfl, h4] at h; exact absurd h (by decide), fun _ => ⟨h1, h2, by show r.cells.set k r.a = m.cells.set k m.a; rw [h3, h1], h4, h5, h6, h7⟩⟩⟩
    · rw [show Deed.run rec n m (.st k) = (false, m) from if_neg hk, show Deed.runR rec r (.st k) = { r with wrong := true } from if_neg hk]
      exact ⟨fun _ => rfl, fun h => (by cases h)⟩
  | stx k =>
    by_cases hk : k < 16
    · rw [show Deed.run rec n m (.stx k) = (true, { m with cells := m.cells.set k m.x }) from if_pos hk, show Deed.runR rec r (.stx k) = { r with cells := r.cells.set k r.x } from if_pos hk]
      exact ⟨fun h => (by cases h), fun _ => ⟨h6, fun h => by rw [show ({ m with cells := m.cells.set k m.x } : Mach).ret = m.ret from rfl, h4] at h; exact absurd h (by decide), fun _ => ⟨h1, h2, by show r.cells.set k r.x = m.cells.set k m.x; rw [h3, h2], h4, h5, h6, h7⟩⟩⟩
    · rw [show Deed.run rec n m (.stx k) = (false, m) from if_neg hk, show Deed.runR rec r (.stx k) = { r with wrong := true } from if_neg hk]
      exact ⟨fun _ => rfl, fun h => (by cases h)⟩
  | abs k =>
    by_cases hk : wordOk k = true
    · rw [show Deed.run rec n m (.abs k) = (true, { m with a := getL (cutL rec k 4) }) from if_pos hk, show Deed.runR rec r (.abs k) = { r with a := getL (cutL rec k 4), wrong := false } from if_pos hk]
      exact ⟨fun h => (by cases h), fun _ => ⟨rfl, fun h => by rw [show ({ m with a := getL (cutL rec k 4) } : Mach).ret = m.ret from rfl, h4] at h; exact absurd h (by decide), fun _ => ⟨rfl, h2, h3, h4, h5, rfl, h7⟩⟩⟩
    · rw [show Deed.run rec n m (.abs k) = (false, { m with a := 0 }) from if_neg hk, show Deed.runR rec r (.abs k) = { r with a := 0, wrong := true } from if_neg hk]
      exact ⟨fun _ => rfl, fun h => (by cases h)⟩
end Go.Proofs.Ytpdaenpcgcjmjaa
