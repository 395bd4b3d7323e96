/- A row of numbers that is being sorted: the row stands in a block, all else that was there stays. -/
import Derived.Test.YtbcoooaoofbboaaChecked
import Derived.Test.YtbcoooaoofbboaaRow1
import Derived.Sort.AssemblyPlain
namespace Go.Proofs.Ytbcoooaoofbboaa
open Go.RowKit Go.Sort
set_option linter.unusedVariables false

/-- the world wr is w0, but that block g has d in front -/
structure Srt (w0 : World) (g : Nat) (d : Array Int) (wr : World) : Prop where
  os : wr.os = w0.os
  tape : wr.tape = w0.tape
  output : wr.output = w0.output
  size : w0.heap.size ≤ wr.heap.size
  lt : g < w0.heap.size
  keep : ∀ k, k ≠ g → k < w0.heap.size → wr.heap[k]? = w0.heap[k]?
  row : ∃ cur0 cur : Array Value, w0.heap[g]? = some (.cells cur0 35 (0, 0)) ∧ wr.heap[g]? = some (.cells cur 35 (0, 0)) ∧ cur.size = cur0.size ∧ d.size ≤ cur0.size ∧ (∀ t, t < d.size → cur[t]? = some (.int .u32 d[t]!)) ∧ (∀ t, d.size ≤ t → cur[t]? = cur0[t]?)
theorem Srt.cell {w0 : World} {g : Nat} {d : Array Int} {wr : World} (h : Srt w0 g d wr) {t : Nat} (ht : t < d.size) : wr.cell? ⟨g, t, none⟩ = some (.int .u32 d[t]!) := by
  obtain ⟨cur0, cur, h1, h2, h3, h4, h5, h6⟩ := h.row
  rw [cell_of_row _ _ _ _ _ _ h2, h5 t ht]
theorem Srt.fr {w0 : World} {g : Nat} {d : Array Int} {wr : World} (h : Srt w0 g d wr) (t : Nat) : wr.frozen? ⟨g, t, none⟩ = false := by
  obtain ⟨cur0, cur, h1, h2, _⟩ := h.row
  exact block_frozen h2 t
theorem Srt.drew {w0 : World} {g : Nat} {d : Array Int} {wr : World} (h : Srt w0 g d wr) : Srt w0 g d wr.drew := ⟨h.os, h.tape, h.output, h.size, h.lt, h.keep, h.row⟩
theorem Srt.drewN {w0 : World} {g : Nat} {d : Array Int} {wr : World} (h : Srt w0 g d wr) (n : Nat) : Srt w0 g d (wr.drewN n) := ⟨h.os, h.tape, h.output, h.size, h.lt, h.keep, h.row⟩
theorem Srt.below {w0 : World} {g : Nat} {d : Array Int} {wr : World} (h : Srt w0 g d wr) {N : Nat} (hN : N ≤ g) : Below N w0 wr := ⟨h.os, h.tape, h.output, h.size, fun k hk => h.keep k (by omega) (by have := h.lt; omega)⟩
theorem Srt.grow {w0 : World} {g : Nat} {d : Array Int} {wr u : World} (h : Srt w0 g d wr) (hb : Below w0.heap.size wr u) : Srt w0 g d u := by
  refine ⟨hb.os.trans h.os, hb.tape.trans h.tape, hb.output.trans h.output, Nat.le_trans h.size hb.size, h.lt, fun k hk hl => (hb.block k hl).trans (h.keep k hk hl), ?_⟩
  obtain ⟨cur0, cur, h1, h2, r⟩ := h.row
  exact ⟨cur0, cur, h1, (hb.block g h.lt).trans h2, r⟩
theorem Srt.alloc {w0 : World} {g : Nat} {d : Array Int} {wr : World} (h : Srt w0 g d wr) (o : Obj) : Srt w0 g d (wr.alloc o) := h.grow ((Below.refl _ wr).alloc h.size o)
theorem Srt.new {w0 : World} {g : Nat} {d : Array Int} {wr : World} (h : Srt w0 g d wr) {p : Addr} (hp : w0.heap.size ≤ p.block) (v : Value) : Srt w0 g d (wr.setCell p v) := h.grow ((Below.refl _ wr).setCell hp v)
theorem Srt.set {w0 : World} {g : Nat} {d : Array Int} {wr : World} (h : Srt w0 g d wr) {i : Nat} (hi : i < d.size) (x : Int) : Srt w0 g (d.setIfInBounds i x) (wr.setCell ⟨g, i, none⟩ (.int .u32 x)) := by
  refine ⟨h.os, h.tape, h.output, by simpa using h.size, h.lt, fun k hk hl => (Below.heap_setCell _ _ _ _ hk).trans (h.keep k hk hl), ?_⟩
  obtain ⟨cur0, cur, h1, h2, h3, h4, h5, h6⟩ := h.row
  refine ⟨cur0, cur.setIfInBounds i (.int .u32 x), h1, block_set h2 i _, by simpa using h3, by simpa using h4, fun t ht => ?_, fun t ht => ?_⟩
  · have ht' : t < d.size := by simpa using ht
    by_cases e : t = i
    · subst e
      rw [getElem!_set_same d t x hi, Array.getElem?_setIfInBounds_self_of_lt (by omega)]
    · rw [getElem!_set_other d i t x e, Array.getElem?_setIfInBounds_ne (fun q => e q.symm)]
      exact h5 t ht'
  · have ht' : d.size ≤ t := by simpa using ht
    rw [Array.getElem?_setIfInBounds_ne (by omega)]
    exact h6 t ht'
theorem Srt.swp {w0 : World} {g : Nat} {d : Array Int} {wr : World} (h : Srt w0 g d wr) {i j : Nat} (hi : i < d.size) (hj : j < d.size) :
    Srt w0 g (Go.Sort.swp d i j) ((wr.setCell ⟨g, i, none⟩ (.int .u32 d[j]!)).setCell ⟨g, j, none⟩ (.int .u32 d[i]!)) :=
  (h.set hi d[j]!).set (by simpa using hj) d[i]!
/-- two stores, in either order -/
theorem setCell_two (w : World) (g i j : Nat) (x y : Value) (h : i ≠ j) : (w.setCell ⟨g, j, none⟩ y).setCell ⟨g, i, none⟩ x = (w.setCell ⟨g, i, none⟩ x).setCell ⟨g, j, none⟩ y := by
  rw [setCell_eq, setCell_eq, setCell_eq, setCell_eq, mapBlock_mapBlock, mapBlock_mapBlock]
  congr 1
  funext c
  exact Array.setIfInBounds_comm y x (fun e => h e.symm)
set_option maxRecDepth 100000 in
theorem srNaN (x : Int) (w : World) : Calls Try.prog 72 #[.int .u32 x] w fun e w' => e = .returned (.bool false) ∧ w' = w := by
  go_enter Try.func72, Try.ntmps72
  go_wp2
  go_ret
  exact ⟨by simp, rfl⟩
set_option maxRecDepth 100000 in
theorem srLess (x y : Int) (w : World) : Calls Try.prog 62 #[.int .u32 x, .int .u32 y] w fun e w' => e = .returned (.bool (ltInt x y)) ∧ w' = w := by
  go_enter Try.func62, Try.ntmps62
  go_wp2_with (go_at_call 72; refine (srNaN _ _).mono ?_; rintro e w' ⟨rfl, rfl⟩)
  go_ret
  exact ⟨rfl, rfl⟩
end Go.Proofs.Ytbcoooaoofbboaa
