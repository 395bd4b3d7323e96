/- The builder of steps: what it adds. -/
import Derived.Test.YtcejhfpdajbdcaaWm2
import Derived.Test.YtcejhfpdajbdcaaTrP
namespace Go.Proofs.Ytcejhfpdajbdcaa
open Go.RowKit Go.ChangeShapes
set_option linter.unusedVariables false

/-- the builder in memory: its steps, the next label, where calls go that no rule is about, what leaves do -/
structure Tk (b : Nat) (u : World) (B : Nat) (l : List Stp) (n m : Int) (fn v : Value) : Prop where
  blk : u.heap[B]? = some (.cells #[v, .int .i64 n, .int .i64 m, fn] 62 (0, 0))
  own : u.ownsRow b 67 4 v l.length (stpCells l)
  ne : v.ownBlock ≠ some B
  base : b ≤ B
  bnd : ∀ i ∈ l, i.bounded
theorem Tk.below {b B : Nat} {u u' : World} {l : List Stp} {n m : Int} {fn v : Value} (h : Tk b u B l n m fn v) (hb : Below u.heap.size u u') : Tk b u' B l n m fn v :=
  ⟨(hb.block _ (lt_of_block h.blk)).trans h.blk, own_stay4 h.own hb, h.ne, h.base, h.bnd⟩
def TkPost (b B : Nat) (v : Value) (u : World) (l : List Stp) (n m : Int) (fn : Value) (e : Ending) (u' : World) : Prop := e = .returned (.tuple #[]) ∧ ∃ v', Tk b u' B l n m fn v' ∧ KeepM b B v u v' u'
theorem Tk.added {b B : Nat} {u u2 w9 : World} {l : List Stp} {n m : Int} {fn v : Value} {o : Stp} {g2 cap H : Nat} (h : Tk b u B l n m fn v) (ho : o.bounded) (hu : Below u.heap.size u u2) (hd9 : w9.heap[B]? = some (.cells #[v, .int .i64 n, .int .i64 m, fn] 62 (0, 0)))
    (hown9 : w9.ownsRow b 67 4 (.slice (some ⟨g2, 0, none⟩) (l.length + 1) cap) (l.length + 1) (stpCells l ++ o.cells)) (hgr : u2.grownBy w9 v.ownBlock) (hat : v.ownBlock = some g2 ∨ g2 = H) (hH : u.heap.size ≤ H) :
    TkPost b B v u (l ++ [o]) n m fn (.returned (.tuple #[])) (w9.setCell ⟨B, 0, none⟩ (.slice (some ⟨g2, 0, none⟩) (l.length + 1) cap)) := by
  have hB := lt_of_block h.blk
  have hbase := h.base
  have hne : (.slice (some ⟨g2, 0, none⟩) (l.length + 1) cap : Value).ownBlock ≠ some B := by
    intro e
    have e : g2 = B := by simpa [Value.ownBlock] using e
    subst e
    rcases hat with h1 | h1
    · exact h.ne h1
    · omega
  refine ⟨rfl, _, ⟨?_, ?_, hne, hbase, fun i hi => ?_⟩, ?_, ?_, ?_, ?_⟩
  · exact block_set hd9 0 _
  · rw [stpCells_append, List.length_append]
    have : stpCells [o] = o.cells := by simp [stpCells]
    rw [this]
    exact hown9.kept (row := some B) ⟨rfl, rfl, rfl, by simp [World.setCell], fun k _ hk => Below.heap_setCell _ _ _ _ (fun e => hk (by simp [e]))⟩ (.inr hne)
  · rcases List.mem_append.1 hi with hi | hi
    · exact h.bnd i hi
    · rw [List.mem_singleton.1 hi]; exact ho
  · rw [World.size_setCell]; exact Nat.le_trans hu.size hgr.size
  · intro b0 w0 hb0 hw
    refine Below.setCell (p := ⟨B, 0, none⟩) ?_ (Nat.le_trans hb0 hbase) _
    exact (hw.trans (hu.mono (by omega))).grown hgr (by have := hu.size; omega) fun k hk => Nat.le_trans hb0 (h.own.lt k hk).1
  · intro g hg hgB hv
    rw [Below.heap_setCell _ _ _ _ hgB, hgr.block g (Nat.lt_of_lt_of_le hg hu.size) (fun e => hv e.symm), hu.block g hg]
  · intro g hg
    have e : g2 = g := by simpa [Value.ownBlock] using hg
    subst e
    rcases hat with h1 | h1
    · exact .inl h1
    · exact .inr (by omega)
set_option maxRecDepth 100000 in
set_option maxHeartbeats 1000000 in
theorem tmAdd (b B : Nat) (u : World) (l : List Stp) (n m : Int) (fn v : Value) (o : Stp) (h : Tk b u B l n m fn v) (ho : o.bounded) (hl : l.length ≤ 100000000) :
    Calls Try.prog 31 #[.pointer (some ⟨B, 0, none⟩), o.value] u (TkPost b B v u (l ++ [o]) n m fn) := by
  obtain ⟨iI, hNI, hzI0, hzI1, hzI2⟩ := info_parts infoOp
  obtain ⟨A, cv, rfl, hcl, hcm⟩ := own_form4 h.own
  have hw1 := (Below.refl u.heap.size u).alloc (Nat.le_refl _) (.cells o.cells.toArray 67)
  have hn1 := heap_alloc_new u (.cells o.cells.toArray 67)
  have h1 := h.below hw1
  have hB1 := lt_of_block h.blk
  obtain ⟨kind, k, t, f⟩ := o
  unfold Stp.value
  simp only [Stp.cells] at hw1 hn1 h1 ⊢
  obtain ⟨w1, eW⟩ : ∃ w1, w1 = u.alloc (.cells [.int .i64 kind, .int .u32 (k : Nat), .int .i64 t, .int .i64 f].toArray 67) := ⟨_, rfl⟩
  rw [← eW] at hw1 hn1 h1
  have x0 := below_cell (Below.refl _ _) hn1 0 rfl
  have x1 := below_cell (Below.refl _ _) hn1 1 rfl
  have x2 := below_cell (Below.refl _ _) hn1 2 rfl
  have x3 := below_cell (Below.refl _ _) hn1 3 rfl
  have c0 := below_cell (Below.refl _ _) h1.blk 0 rfl
  have c0a := (World.cell?_of_block (a := ⟨B, 0, none⟩) (Below.heap_alloc w1 (.cells #[.int .i64 kind, .int .u32 (k : Nat), .int .i64 t, .int .i64 f] 67) B (lt_of_block h1.blk))).trans c0
  have HM := Lib.hid h; have H1 := Lib.hid h1; have HW1 := Lib.hid hw1; have HL := Lib.hid hl; have HBD := Lib.hid ho
  clear h h1 hw1 hn1 hl ho
  go_enter Try.func31, Try.ntmps31
  go_upto_region 1 with fail
  rw [← eW]
  clear eW
  have HO2 := Lib.hid (World.ownsRow.drew' (H1.out.own.alloc (.cells #[.int .i64 kind, .int .u32 (k : Nat), .int .i64 t, .int .i64 f] 67))); have HNW2 := Lib.hid (heap_alloc_new w1 (.cells #[.int .i64 kind, .int .u32 (k : Nat), .int .i64 t, .int .i64 f] 67)); have HB2 := Lib.hid ((Below.heap_alloc w1 (.cells #[.int .i64 kind, .int .u32 (k : Nat), .int .i64 t, .int .i64 f] 67) B (lt_of_block H1.out.blk)).trans H1.out.blk)
  have hz2 : Hid ((w1.alloc (.cells #[.int .i64 kind, .int .u32 (k : Nat), .int .i64 t, .int .i64 f] 67)).heap.size = w1.heap.size + 1) := Lib.hid (World.size_alloc _ _)
  go_region_law (refine step_append_lies _ (by rfl) (Operand.tmp 8) (Operand.tmp 10) 41 (by rfl) b 67 _ _ 4 32 Try.underlying41 hNI hzI0 hzI1 hzI2 rfl (by decide) (.slice A l.length cv) l.length _ (by simp [go_sem]) HO2.out ⟨w1.heap.size, 0, none⟩ 1 1 [.int .i64 kind, .int .u32 (k : Nat), .int .i64 t, .int .i64 f] (by simp [go_sem]) rfl (World.news_of_block HNW2.out) (by simp [Value.oneCell']) (by omega) (by have := HL.out; unfold maxLen; omega) (by have := HL.out; omega) (by show b ≤ (w1.alloc (.cells #[.int .i64 kind, .int .u32 (k : Nat), .int .i64 t, .int .i64 f] 67)).heap.size; have := hz2.out; have := H1.out.base; have := lt_of_block H1.out.blk; omega) (w1.heap.size + 1) hz2.out ?_; intro g2 cap w9 hown9 hgr9 hat9 hlt9; have hd9 := (hgr9.block B (by show B < (w1.alloc (.cells #[.int .i64 kind, .int .u32 (k : Nat), .int .i64 t, .int .i64 f] 67)).heap.size; have := hz2.out; have := lt_of_block H1.out.blk; omega) (fun e => H1.out.ne e.symm)).trans HB2.out; have f9 := block_frozen hd9 0; have d9 := below_cell (Below.refl _ _) hd9 0 rfl)
  all_goals
    go_wp2_with fail
    go_end0
    exact HM.out.added HBD.out (HW1.out.trans (((Below.refl w1.heap.size w1).alloc (Nat.le_refl _) (.cells #[.int .i64 kind, .int .u32 (k : Nat), .int .i64 t, .int .i64 f] 67)).drew.mono HW1.out.size)) hd9 hown9 hgr9 hat9 (Nat.le_succ_of_le HW1.out.size)
end Go.Proofs.Ytcejhfpdajbdcaa
