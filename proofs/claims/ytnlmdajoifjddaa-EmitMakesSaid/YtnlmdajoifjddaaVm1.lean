/- The machine of layer 11: its cells, and what its deeds do. -/
import Derived.Test.YtnlmdajoifjddaaVmW
import Derived.Test.YtnlmdajoifjddaaIns
import Derived.Test.YtnlmdajoifjddaaResRow
import Derived.Deep.RegionHeld3
import Derived.BigQuiet
import Derived.IntWalk
namespace Go.Proofs.Ytnlmdajoifjddaa
open Go.RowKit
set_option linter.unusedVariables false

structure Mach where
  a : Nat
  x : Nat
  cells : List Nat
  next : Nat
  ans : Nat
  ret : Bool
def u32V (n : Nat) : Value := .int .u32 (n : Int)
def Mach.arr (rec : ByteArray) (n : Nat) (m : Mach) : Array Value :=
  ((.string rec :: u32V m.a :: u32V m.x :: m.cells.map u32V) ++ [.int .i64 (m.next : Int), .int .i64 (n : Int), u32V m.ans, .bool m.ret]).toArray
theorem list16 (l : List Nat) (h : l.length = 16) : ∃ c0 c1 c2 c3 c4 c5 c6 c7 c8 c9 c10 c11 c12 c13 c14 c15, l = [c0, c1, c2, c3, c4, c5, c6, c7, c8, c9, c10, c11, c12, c13, c14, c15] := by
  match l, h with
  | [c0, c1, c2, c3, c4, c5, c6, c7, c8, c9, c10, c11, c12, c13, c14, c15], _ => exact ⟨_, _, _, _, _, _, _, _, _, _, _, _, _, _, _, _, rfl⟩
/-- block B is the machine m's, with record rec and n instructions -/
structure IsM (w : World) (B : Nat) (rec : ByteArray) (n : Nat) (m : Mach) : Prop where
  blk : w.heap[B]? = some (.cells (m.arr rec n) 61 (0, 0))
  len : m.cells.length = 16
theorem arr_gets (rec : ByteArray) (n : Nat) (m : Mach) (h : m.cells.length = 16) : (m.arr rec n)[0]? = some (.string rec) ∧ (m.arr rec n)[1]? = some (.int .u32 (m.a : Int)) ∧ (m.arr rec n)[2]? = some (.int .u32 (m.x : Int)) ∧
    (m.arr rec n)[19]? = some (.int .i64 (m.next : Int)) ∧ (m.arr rec n)[20]? = some (.int .i64 (n : Int)) ∧ (m.arr rec n)[21]? = some (.int .u32 (m.ans : Int)) ∧ (m.arr rec n)[22]? = some (.bool m.ret) := by
  obtain ⟨a, x, cells, next, ans, ret⟩ := m
  obtain ⟨c0, c1, c2, c3, c4, c5, c6, c7, c8, c9, c10, c11, c12, c13, c14, c15, rfl⟩ := list16 cells h
  exact ⟨rfl, rfl, rfl, rfl, rfl, rfl, rfl⟩
theorem arr_cell (rec : ByteArray) (n : Nat) (m : Mach) (h : m.cells.length = 16) (k : Nat) (hk : k < 16) : (m.arr rec n)[3 + k]? = some (.int .u32 ((m.cells.getD k 0 : Nat) : Int)) := by
  obtain ⟨a, x, cells, next, ans, ret⟩ := m
  obtain ⟨c0, c1, c2, c3, c4, c5, c6, c7, c8, c9, c10, c11, c12, c13, c14, c15, rfl⟩ := list16 cells h
  match k, hk with
  | 0, _ | 1, _ | 2, _ | 3, _ | 4, _ | 5, _ | 6, _ | 7, _ | 8, _ | 9, _ | 10, _ | 11, _ | 12, _ | 13, _ | 14, _ | 15, _ => rfl
  | k + 16, hh => exact absurd hh (by omega)
theorem arr_a (rec : ByteArray) (n : Nat) (m : Mach) (v : Nat) : (m.arr rec n).setIfInBounds 1 (.int .u32 (v : Int)) = { m with a := v }.arr rec n := by simp [Mach.arr, u32V]
theorem arr_x (rec : ByteArray) (n : Nat) (m : Mach) (v : Nat) : (m.arr rec n).setIfInBounds 2 (.int .u32 (v : Int)) = { m with x := v }.arr rec n := by simp [Mach.arr, u32V]
theorem arr_next (rec : ByteArray) (n : Nat) (m : Mach) (h : m.cells.length = 16) (v : Nat) : (m.arr rec n).setIfInBounds 19 (.int .i64 (v : Int)) = { m with next := v }.arr rec n := by
  obtain ⟨a, x, cells, next, ans, ret⟩ := m
  obtain ⟨c0, c1, c2, c3, c4, c5, c6, c7, c8, c9, c10, c11, c12, c13, c14, c15, rfl⟩ := list16 cells h
  rfl
theorem arr_ans (rec : ByteArray) (n : Nat) (m : Mach) (h : m.cells.length = 16) (v : Nat) : ((m.arr rec n).setIfInBounds 21 (.int .u32 (v : Int))).setIfInBounds 22 (.bool true) = { m with ans := v, ret := true }.arr rec n := by
  obtain ⟨a, x, cells, next, ans, ret⟩ := m
  obtain ⟨c0, c1, c2, c3, c4, c5, c6, c7, c8, c9, c10, c11, c12, c13, c14, c15, rfl⟩ := list16 cells h
  rfl
theorem marr_set (rec : ByteArray) (n : Nat) (m : Mach) (h : m.cells.length = 16) (k : Nat) (hk : k < 16) (v : Nat) : (m.arr rec n).setIfInBounds (3 + k) (.int .u32 (v : Int)) = { m with cells := m.cells.set k v }.arr rec n := by
  obtain ⟨a, x, cells, next, ans, ret⟩ := m
  obtain ⟨c0, c1, c2, c3, c4, c5, c6, c7, c8, c9, c10, c11, c12, c13, c14, c15, rfl⟩ := list16 cells h
  match k, hk with
  | 0, _ | 1, _ | 2, _ | 3, _ | 4, _ | 5, _ | 6, _ | 7, _ | 8, _ | 9, _ | 10, _ | 11, _ | 12, _ | 13, _ | 14, _ | 15, _ => rfl
  | k + 16, hh => exact absurd hh (by omega)
theorem IsM.facts {w : World} {B : Nat} {rec : ByteArray} {n : Nat} {m : Mach} (h : IsM w B rec n m) : w.cell? ⟨B, 0, none⟩ = some (.string rec) ∧ w.cell? ⟨B, 1, none⟩ = some (.int .u32 (m.a : Int)) ∧ w.cell? ⟨B, 2, none⟩ = some (.int .u32 (m.x : Int)) ∧
    w.cell? ⟨B, 19, none⟩ = some (.int .i64 (m.next : Int)) ∧ w.cell? ⟨B, 20, none⟩ = some (.int .i64 (n : Int)) ∧ w.cell? ⟨B, 21, none⟩ = some (.int .u32 (m.ans : Int)) ∧ w.cell? ⟨B, 22, none⟩ = some (.bool m.ret) := by
  obtain ⟨a0, a1, a2, a3, a4, a5, a6⟩ := arr_gets rec n m h.len
  have hb := Below.refl w.heap.size w
  exact ⟨below_cell hb h.blk 0 a0, below_cell hb h.blk 1 a1, below_cell hb h.blk 2 a2, below_cell hb h.blk 19 a3, below_cell hb h.blk 20 a4, below_cell hb h.blk 21 a5, below_cell hb h.blk 22 a6⟩
theorem IsM.below {w w' : World} {B : Nat} {rec : ByteArray} {n : Nat} {m : Mach} (h : IsM w B rec n m) (hb : Below w.heap.size w w') : IsM w' B rec n m :=
  ⟨(hb.block B (Array.getElem?_eq_some_iff.1 h.blk).1).trans h.blk, h.len⟩
theorem IsM.setA {w : World} {B : Nat} {rec : ByteArray} {n : Nat} {m : Mach} (h : IsM w B rec n m) (v : Nat) : IsM (w.setCell ⟨B, 1, none⟩ (.int .u32 (v : Int))) B rec n { m with a := v } :=
  ⟨by have := block_set h.blk 1 (.int .u32 (v : Int)); rwa [arr_a] at this, h.len⟩
theorem IsM.setX {w : World} {B : Nat} {rec : ByteArray} {n : Nat} {m : Mach} (h : IsM w B rec n m) (v : Nat) : IsM (w.setCell ⟨B, 2, none⟩ (.int .u32 (v : Int))) B rec n { m with x := v } :=
  ⟨by have := block_set h.blk 2 (.int .u32 (v : Int)); rwa [arr_x] at this, h.len⟩
theorem IsM.setNext {w : World} {B : Nat} {rec : ByteArray} {n : Nat} {m : Mach} (h : IsM w B rec n m) (v : Nat) : IsM (w.setCell ⟨B, 19, none⟩ (.int .i64 (v : Int))) B rec n { m with next := v } :=
  ⟨by have := block_set h.blk 19 (.int .i64 (v : Int)); rwa [arr_next _ _ _ h.len] at this, h.len⟩
theorem IsM.setAns {w : World} {B : Nat} {rec : ByteArray} {n : Nat} {m : Mach} (h : IsM w B rec n m) (v : Nat) : IsM ((w.setCell ⟨B, 21, none⟩ (.int .u32 (v : Int))).setCell ⟨B, 22, none⟩ (.bool true)) B rec n { m with ans := v, ret := true } :=
  ⟨by have := block_set (block_set h.blk 21 (.int .u32 (v : Int))) 22 (.bool true); rwa [arr_ans _ _ _ h.len] at this, h.len⟩
theorem IsM.setCellK {w : World} {B : Nat} {rec : ByteArray} {n : Nat} {m : Mach} (h : IsM w B rec n m) (k : Nat) (hk : k < 16) (v : Nat) : IsM (w.setCell ⟨B, 3 + k, none⟩ (.int .u32 (v : Int))) B rec n { m with cells := m.cells.set k v } :=
  ⟨by have := block_set h.blk (3 + k) (.int .u32 (v : Int)); rwa [marr_set _ _ _ h.len k hk] at this, by show (m.cells.set k v).length = 16; rw [List.length_set]; exact h.len⟩
inductive Deed where
  | setA (v : Nat)
  | setX (v : Nat)
  | over (many : Int)
  | answer (v : Nat)
  | ldm (k : Nat)
  | lxm (k : Nat)
  | st (k : Nat)
  | stx (k : Nat)
  | abs (k : Nat)
/-- what a deed makes of a machine, and whether that went well -/
def Deed.run (rec : ByteArray) (n : Nat) (m : Mach) : Deed → Bool × Mach
  | .setA v => (true, { m with a := v })
  | .setX v => (true, { m with x := v })
  | .over many => (true, { m with next := m.next + (min (max many 0) n).toNat })
  | .answer v => (true, { m with ans := v, ret := true })
  | .ldm k => if k < 16 then (true, { m with a := m.cells.getD k 0 }) else (false, m)
  | .lxm k => if k < 16 then (true, { m with x := m.cells.getD k 0 }) else (false, m)
  | .st k => if k < 16 then (true, { m with cells := m.cells.set k m.a }) else (false, m)
  | .stx k => if k < 16 then (true, { m with cells := m.cells.set k m.x }) else (false, m)
  | .abs k => if wordOk k then (true, { m with a := getL (cutL rec k 4) }) else (false, { m with a := 0 })
/-- a box of one cell, elsewhere -/
def Box (w : World) (B : Nat) (p v : Value) : Prop := ∃ b, p = .pointer (some ⟨b, 0, none⟩) ∧ b ≠ B ∧ w.cell? ⟨b, 0, none⟩ = some v
def ptrTo (B : Nat) : Value := .pointer (some ⟨B, 0, none⟩)
/-- v is a function that does the deed -/
def IsDeed (w : World) (B : Nat) (f : Value) : Deed → Prop
  | .setA v => ∃ pn pm, f = .func (.func 53) #[] #[pn, pm] ∧ Box w B pn (.int .u32 (v : Int)) ∧ Box w B pm (ptrTo B)
  | .setX v => ∃ pn pm, f = .func (.func 57) #[] #[pn, pm] ∧ Box w B pn (.int .u32 (v : Int)) ∧ Box w B pm (ptrTo B)
  | .over v => ∃ pn pm, f = .func (.func 55) #[] #[pm, pn] ∧ Box w B pn (.int .i64 v) ∧ Box w B pm (ptrTo B)
  | .answer v => ∃ pn pm, f = .func (.func 54) #[] #[pn, pm] ∧ Box w B pn (.int .u32 (v : Int)) ∧ Box w B pm (ptrTo B)
  | .ldm k => ∃ pk pd pm pq, f = .func (.func 56) #[] #[pk, pd, pm] ∧ Box w B pk (.int .u32 (k : Int)) ∧ Box w B pd (.func (.func 48) #[] #[pq]) ∧ Box w B pm (ptrTo B) ∧ Box w B pq (ptrTo B)
  | .lxm k => ∃ pk pd pm pq, f = .func (.func 56) #[] #[pk, pd, pm] ∧ Box w B pk (.int .u32 (k : Int)) ∧ Box w B pd (.func (.func 49) #[] #[pq]) ∧ Box w B pm (ptrTo B) ∧ Box w B pq (ptrTo B)
  | .st k => ∃ pk pd pm pq, f = .func (.func 56) #[] #[pk, pd, pm] ∧ Box w B pk (.int .u32 (k : Int)) ∧ Box w B pd (.func (.func 50) #[] #[pq]) ∧ Box w B pm (ptrTo B) ∧ Box w B pq (ptrTo B)
  | .stx k => ∃ pk pd pm pq, f = .func (.func 56) #[] #[pk, pd, pm] ∧ Box w B pk (.int .u32 (k : Int)) ∧ Box w B pd (.func (.func 51) #[] #[pq]) ∧ Box w B pm (ptrTo B) ∧ Box w B pq (ptrTo B)
  | .abs k => ∃ pm bi c j f', f = .func (.func 46) #[] #[pm, .pointer (some ⟨bi, 0, none⟩)] ∧ bi ≠ B ∧ w.heap[bi]? = some (.cells #[c, j, f', .int .u32 (k : Int)] 44 (0, 0)) ∧ Box w B pm (ptrTo B)
/-- what stays behind a deed: all blocks but B -/
def Only (B : Nat) (w w' : World) : Prop := ∀ base w0, base ≤ B → Below base w0 w → Below base w0 w'
def DeedPost (rec : ByteArray) (n : Nat) (m : Mach) (B : Nat) (D : Deed) (w : World) (e : Ending) (w' : World) : Prop :=
  e = .returned (.bool (D.run rec n m).1) ∧ IsM w' B rec n (D.run rec n m).2 ∧ Only B w w' ∧ w.heap.size ≤ w'.heap.size
theorem Only.set (B j : Nat) (v : Value) (w : World) : Only B w (w.setCell ⟨B, j, none⟩ v) := fun base w0 hB h => h.setCell (p := ⟨B, j, none⟩) hB v
theorem Only.refl (B : Nat) (w : World) : Only B w w := fun _ _ _ h => h
theorem Only.trans {B : Nat} {a b c : World} (h : Only B a b) (k : Only B b c) : Only B a c := fun base w0 hB hh => k base w0 hB (h base w0 hB hh)
theorem Only.drew (B : Nat) (w : World) : Only B w w.drew := fun base w0 hB h => h.drew
set_option maxRecDepth 100000 in
theorem vm_setA (rec : ByteArray) (n : Nat) (m : Mach) (B v : Nat) (pn pm : Value) (w : World) (hM : IsM w B rec n m) (h1 : Box w B pn (.int .u32 (v : Int))) (h2 : Box w B pm (ptrTo B)) :
    Calls Try.prog 53 #[pn, pm] w (DeedPost rec n m B (.setA v) w) := by
  obtain ⟨bn, rfl, hn, c1⟩ := h1
  obtain ⟨bm, rfl, hm, c2⟩ := h2
  unfold ptrTo at c2
  have f1 := block_frozen hM.blk 1
  obtain ⟨_, m1, m2, _⟩ := hM.facts
  have HM := Lib.hid (hM.setA v)
  clear hM
  go_enter Try.func53, Try.ntmps53
  go_wp2_with fail
  go_ret
  exact ⟨rfl, HM.out, Only.set B 1 _ w, by rw [World.size_setCell]; exact Nat.le_refl _⟩
set_option maxRecDepth 100000 in
theorem vm_setX (rec : ByteArray) (n : Nat) (m : Mach) (B v : Nat) (pn pm : Value) (w : World) (hM : IsM w B rec n m) (h1 : Box w B pn (.int .u32 (v : Int))) (h2 : Box w B pm (ptrTo B)) :
    Calls Try.prog 57 #[pn, pm] w (DeedPost rec n m B (.setX v) w) := by
  obtain ⟨bn, rfl, hn, c1⟩ := h1
  obtain ⟨bm, rfl, hm, c2⟩ := h2
  unfold ptrTo at c2
  have f1 := block_frozen hM.blk 2
  obtain ⟨_, m1, m2, _⟩ := hM.facts
  have HM := Lib.hid (hM.setX v)
  clear hM
  go_enter Try.func57, Try.ntmps57
  go_wp2_with fail
  go_ret
  exact ⟨rfl, HM.out, Only.set B 2 _ w, by rw [World.size_setCell]; exact Nat.le_refl _⟩
set_option maxRecDepth 100000 in
theorem vm_answer (rec : ByteArray) (n : Nat) (m : Mach) (B v : Nat) (pn pm : Value) (w : World) (hM : IsM w B rec n m) (h1 : Box w B pn (.int .u32 (v : Int))) (h2 : Box w B pm (ptrTo B)) :
    Calls Try.prog 54 #[pn, pm] w (DeedPost rec n m B (.answer v) w) := by
  obtain ⟨bn, rfl, hn, c1⟩ := h1
  obtain ⟨bm, rfl, hm, c2⟩ := h2
  unfold ptrTo at c2
  have f1 := block_frozen hM.blk 21
  have f2 := block_frozen hM.blk 22
  obtain ⟨_, _, _, _, _, m1, m2⟩ := hM.facts
  have HM := Lib.hid (hM.setAns v)
  clear hM
  go_enter Try.func54, Try.ntmps54
  go_wp2_with fail
  go_region
  all_goals
    go_wp2_with fail
    go_ret
    exact ⟨rfl, ⟨HM.out.blk, HM.out.len⟩, ((Only.set B 21 _ w).trans (Only.set B 22 _ _)).trans (Only.drew B _), by rw [heap_drew, World.size_setCell, World.size_setCell]; exact Nat.le_refl _⟩
set_option maxRecDepth 100000 in
theorem vm_over (rec : ByteArray) (n : Nat) (m : Mach) (B : Nat) (v : Int) (pn pm : Value) (w : World) (hM : IsM w B rec n m) (hN : n ≤ 1000000) (hx : m.next ≤ 2000000) (h1 : Box w B pn (.int .i64 v)) (h2 : Box w B pm (ptrTo B)) :
    Calls Try.prog 55 #[pm, pn] w (DeedPost rec n m B (.over v) w) := by
  obtain ⟨bn, rfl, hn, c1⟩ := h1
  obtain ⟨bm, rfl, hm, c2⟩ := h2
  unfold ptrTo at c2
  have f1 := block_frozen hM.blk 19
  obtain ⟨_, _, _, m1, m2, _⟩ := hM.facts
  obtain ⟨p, hp, hp1⟩ : ∃ p : Nat, (min (max v 0) n).toNat = p ∧ p ≤ n := ⟨_, rfl, by omega⟩
  obtain ⟨q, hq⟩ : ∃ q : Int, (if v < 0 then 0 else v) = q := ⟨_, rfl⟩
  have hq2 : max v 0 = q := by rw [← hq]; split <;> omega
  have hq0 : 0 ≤ q := by omega
  have hq3 : (if (n : Int) < q then (n : Int) else q) = p := by
    rw [← hp, hq2]
    split <;> omega
  have hq4 : min q (n : Int) = p := by omega
  have hmo : ({ m with next := m.next + p } : Mach) = (Deed.run rec n m (.over v)).2 := by show _ = ({ m with next := m.next + (min (max v 0) n).toNat } : Mach); rw [hp]
  have HM := Lib.hid (hM.setNext (m.next + p))
  have HMO := Lib.hid hmo
  have hxI : (m.next : Int) ≤ 2000000 := by omega
  have hpI : (p : Int) ≤ 1000000 := by omega
  have hw1 : IntKind.i64.wrap ((m.next : Int) + p) = (m.next : Int) + p := IntWalk.i64_in _ (by omega)
  have hw2 : wrap64 ((m.next : Int) + p) = (m.next : Int) + p := by unfold wrap64; omega
  clear hM hp hmo
  generalize m.next = x at *
  go_enter Try.func55, Try.ntmps55
  go_wp2_with fail
  go_region
  all_goals
    go_wp2_with fail
    go_ret
    refine ⟨rfl, ?_, ?_, ?_⟩
    · rw [← HMO.out]
      have := HM.out
      rw [Int.natCast_add] at this
      exact ⟨this.blk, this.len⟩
    · exact (Only.set B 19 _ w).trans (Only.drew B _)
    · rw [heap_drew, World.size_setCell]; exact Nat.le_refl _
def DoPost (rec : ByteArray) (n : Nat) (B : Nat) (m' : Mach) (w : World) (e : Ending) (w' : World) : Prop :=
  e = .returned (.tuple #[]) ∧ IsM w' B rec n m' ∧ Only B w w' ∧ w'.heap.size = w.heap.size ∧ ∀ b, b ≠ B → w'.heap[b]? = w.heap[b]?
set_option maxRecDepth 100000 in
theorem vm_do2 (rec : ByteArray) (n : Nat) (m : Mach) (B k : Nat) (pq : Value) (w : World) (hM : IsM w B rec n m) (hk : k < 16) (h2 : Box w B pq (ptrTo B)) :
    Calls Try.prog 48 #[.pointer (some ⟨B, 3 + k, none⟩), pq] w (DoPost rec n B { m with a := m.cells.getD k 0 } w) := by
  obtain ⟨bm, rfl, hm, c2⟩ := h2
  unfold ptrTo at c2
  have f1 := block_frozen hM.blk 1
  obtain ⟨_, m1, m2, _⟩ := hM.facts
  have ck := below_cell (Below.refl _ w) hM.blk (3 + k) (arr_cell rec n m hM.len k hk)
  have HM := Lib.hid (hM.setA (m.cells.getD k 0))
  have hS := Lib.hid (show ∀ x, (w.setCell ⟨B, 1, none⟩ x).heap.size = w.heap.size from fun x => World.size_setCell _ _ _)
  have hO := Lib.hid (fun x => Only.set B (1) x w)
  have hE := Lib.hid (fun (b : Nat) (hb : b ≠ B) x => Below.heap_setCell w ⟨B, 1, none⟩ x b hb)
  clear hM
  generalize 3 + k = j at *
  generalize m.cells.getD k 0 = c at *
  go_enter Try.func48, Try.ntmps48
  go_wp2_with fail
  go_region
  all_goals
    try go_wp2_with fail
    go_end0
    exact ⟨rfl, ⟨HM.out.blk, HM.out.len⟩, by first | exact hO.out _ | exact (hO.out _).trans (Only.drew B _), by first | exact hS.out _ | (rw [heap_drew]; exact hS.out _), fun b hb => hE.out b hb _⟩
set_option maxRecDepth 100000 in
theorem vm_do3 (rec : ByteArray) (n : Nat) (m : Mach) (B k : Nat) (pq : Value) (w : World) (hM : IsM w B rec n m) (hk : k < 16) (h2 : Box w B pq (ptrTo B)) :
    Calls Try.prog 49 #[.pointer (some ⟨B, 3 + k, none⟩), pq] w (DoPost rec n B { m with x := m.cells.getD k 0 } w) := by
  obtain ⟨bm, rfl, hm, c2⟩ := h2
  unfold ptrTo at c2
  have f1 := block_frozen hM.blk 2
  obtain ⟨_, m1, m2, _⟩ := hM.facts
  have ck := below_cell (Below.refl _ w) hM.blk (3 + k) (arr_cell rec n m hM.len k hk)
  have HM := Lib.hid (hM.setX (m.cells.getD k 0))
  have hS := Lib.hid (show ∀ x, (w.setCell ⟨B, 2, none⟩ x).heap.size = w.heap.size from fun x => World.size_setCell _ _ _)
  have hO := Lib.hid (fun x => Only.set B (2) x w)
  have hE := Lib.hid (fun (b : Nat) (hb : b ≠ B) x => Below.heap_setCell w ⟨B, 2, none⟩ x b hb)
  clear hM
  generalize 3 + k = j at *
  generalize m.cells.getD k 0 = c at *
  go_enter Try.func49, Try.ntmps49
  go_wp2_with fail
  go_region
  all_goals
    try go_wp2_with fail
    go_end0
    exact ⟨rfl, ⟨HM.out.blk, HM.out.len⟩, by first | exact hO.out _ | exact (hO.out _).trans (Only.drew B _), by first | exact hS.out _ | (rw [heap_drew]; exact hS.out _), fun b hb => hE.out b hb _⟩
set_option maxRecDepth 100000 in
theorem vm_do4 (rec : ByteArray) (n : Nat) (m : Mach) (B k : Nat) (pq : Value) (w : World) (hM : IsM w B rec n m) (hk : k < 16) (h2 : Box w B pq (ptrTo B)) :
    Calls Try.prog 50 #[.pointer (some ⟨B, 3 + k, none⟩), pq] w (DoPost rec n B { m with cells := m.cells.set k m.a } w) := by
  obtain ⟨bm, rfl, hm, c2⟩ := h2
  unfold ptrTo at c2
  have f1 := block_frozen hM.blk (3 + k)
  obtain ⟨_, m1, m2, _⟩ := hM.facts
  have ck := below_cell (Below.refl _ w) hM.blk (3 + k) (arr_cell rec n m hM.len k hk)
  have HM := Lib.hid (hM.setCellK k hk m.a)
  have hS := Lib.hid (show ∀ x, (w.setCell ⟨B, (3 + k), none⟩ x).heap.size = w.heap.size from fun x => World.size_setCell _ _ _)
  have hO := Lib.hid (fun x => Only.set B ((3 + k)) x w)
  have hE := Lib.hid (fun (b : Nat) (hb : b ≠ B) x => Below.heap_setCell w ⟨B, 3 + k, none⟩ x b hb)
  clear hM
  generalize 3 + k = j at *
  generalize m.cells.getD k 0 = c at *
  go_enter Try.func50, Try.ntmps50
  go_wp2_with fail
  all_goals
    try go_wp2_with fail
    go_end0
    exact ⟨rfl, ⟨HM.out.blk, HM.out.len⟩, by first | exact hO.out _ | exact (hO.out _).trans (Only.drew B _), by first | exact hS.out _ | (rw [heap_drew]; exact hS.out _), fun b hb => hE.out b hb _⟩
set_option maxRecDepth 100000 in
theorem vm_do5 (rec : ByteArray) (n : Nat) (m : Mach) (B k : Nat) (pq : Value) (w : World) (hM : IsM w B rec n m) (hk : k < 16) (h2 : Box w B pq (ptrTo B)) :
    Calls Try.prog 51 #[.pointer (some ⟨B, 3 + k, none⟩), pq] w (DoPost rec n B { m with cells := m.cells.set k m.x } w) := by
  obtain ⟨bm, rfl, hm, c2⟩ := h2
  unfold ptrTo at c2
  have f1 := block_frozen hM.blk (3 + k)
  obtain ⟨_, m1, m2, _⟩ := hM.facts
  have ck := below_cell (Below.refl _ w) hM.blk (3 + k) (arr_cell rec n m hM.len k hk)
  have HM := Lib.hid (hM.setCellK k hk m.x)
  have hS := Lib.hid (show ∀ x, (w.setCell ⟨B, (3 + k), none⟩ x).heap.size = w.heap.size from fun x => World.size_setCell _ _ _)
  have hO := Lib.hid (fun x => Only.set B ((3 + k)) x w)
  have hE := Lib.hid (fun (b : Nat) (hb : b ≠ B) x => Below.heap_setCell w ⟨B, 3 + k, none⟩ x b hb)
  clear hM
  generalize 3 + k = j at *
  generalize m.cells.getD k 0 = c at *
  go_enter Try.func51, Try.ntmps51
  go_wp2_with fail
  all_goals
    try go_wp2_with fail
    go_end0
    exact ⟨rfl, ⟨HM.out.blk, HM.out.len⟩, by first | exact hO.out _ | exact (hO.out _).trans (Only.drew B _), by first | exact hS.out _ | (rw [heap_drew]; exact hS.out _), fun b hb => hE.out b hb _⟩
end Go.Proofs.Ytnlmdajoifjddaa
