/- The walk of FrameBack. -/
import Derived.Test.YtmanlogclbbgaaaFr14
import Derived.Test.YtmanlogclbbgaaaFr15
import Derived.Test.YtmanlogclbbgaaaLnF
import Derived.Test.YtmanlogclbbgaaaFrL
import Derived.Deep.RegionWith
namespace Go.Proofs.Ytmanlogclbbgaaa.lawFrameBack
open Go.RowKit
set_option linter.unusedVariables false
set_option linter.unusedSimpArgs false

theorem btr {w u u2 : World} (h : Below w.heap.size w u) (hb : Below u.heap.size u u2) : Below w.heap.size w u2 := h.trans (hb.mono h.size)
theorem bta {w u : World} (h : Below w.heap.size w u) (o : Obj) : Below w.heap.size w (u.alloc o) := h.alloc h.size o
def s5 (y : World) (B : Nat) (v0 v1 v2 v3 v4 : Value) : World := ((((y.setCell ⟨B, 0, none⟩ v0).setCell ⟨B, 1, none⟩ v1).setCell ⟨B, 2, none⟩ v2).setCell ⟨B, 3, none⟩ v3).setCell ⟨B, 4, none⟩ v4
def s7 (y : World) (B : Nat) (v0 v1 v2 v3 v4 v5 v6 : Value) : World := ((s5 y B v0 v1 v2 v3 v4).setCell ⟨B, 5, none⟩ v5).setCell ⟨B, 6, none⟩ v6
theorem s5_block {y : World} {B : Nat} {x0 x1 x2 x3 x4 : Value} {T : TypeId} {fr : Nat × Nat} (h : y.heap[B]? = some (.cells #[x0, x1, x2, x3, x4] T fr)) (v0 v1 v2 v3 v4 : Value) : (s5 y B v0 v1 v2 v3 v4).heap[B]? = some (.cells #[v0, v1, v2, v3, v4] T fr) :=
  block_set (block_set (block_set (block_set (block_set h 0 v0) 1 v1) 2 v2) 3 v3) 4 v4
theorem s7_block {y : World} {B : Nat} {x0 x1 x2 x3 x4 x5 x6 : Value} {T : TypeId} {fr : Nat × Nat} (h : y.heap[B]? = some (.cells #[x0, x1, x2, x3, x4, x5, x6] T fr)) (v0 v1 v2 v3 v4 v5 v6 : Value) : (s7 y B v0 v1 v2 v3 v4 v5 v6).heap[B]? = some (.cells #[v0, v1, v2, v3, v4, v5, v6] T fr) := by
  unfold s7 s5
  have h0 : (y.setCell ⟨B, 0, none⟩ v0).heap[B]? = some (.cells #[v0, x1, x2, x3, x4, x5, x6] T fr) := block_set h 0 v0
  have h1 : ((y.setCell ⟨B, 0, none⟩ v0).setCell ⟨B, 1, none⟩ v1).heap[B]? = some (.cells #[v0, v1, x2, x3, x4, x5, x6] T fr) := block_set h0 1 v1
  have h2 : (((y.setCell ⟨B, 0, none⟩ v0).setCell ⟨B, 1, none⟩ v1).setCell ⟨B, 2, none⟩ v2).heap[B]? = some (.cells #[v0, v1, v2, x3, x4, x5, x6] T fr) := block_set h1 2 v2
  have h3 : ((((y.setCell ⟨B, 0, none⟩ v0).setCell ⟨B, 1, none⟩ v1).setCell ⟨B, 2, none⟩ v2).setCell ⟨B, 3, none⟩ v3).heap[B]? = some (.cells #[v0, v1, v2, v3, x4, x5, x6] T fr) := block_set h2 3 v3
  have h4 : (((((y.setCell ⟨B, 0, none⟩ v0).setCell ⟨B, 1, none⟩ v1).setCell ⟨B, 2, none⟩ v2).setCell ⟨B, 3, none⟩ v3).setCell ⟨B, 4, none⟩ v4).heap[B]? = some (.cells #[v0, v1, v2, v3, v4, x5, x6] T fr) := block_set h3 4 v4
  have h5 : ((((((y.setCell ⟨B, 0, none⟩ v0).setCell ⟨B, 1, none⟩ v1).setCell ⟨B, 2, none⟩ v2).setCell ⟨B, 3, none⟩ v3).setCell ⟨B, 4, none⟩ v4).setCell ⟨B, 5, none⟩ v5).heap[B]? = some (.cells #[v0, v1, v2, v3, v4, v5, x6] T fr) := block_set h4 5 v5
  have h6 : (((((((y.setCell ⟨B, 0, none⟩ v0).setCell ⟨B, 1, none⟩ v1).setCell ⟨B, 2, none⟩ v2).setCell ⟨B, 3, none⟩ v3).setCell ⟨B, 4, none⟩ v4).setCell ⟨B, 5, none⟩ v5).setCell ⟨B, 6, none⟩ v6).heap[B]? = some (.cells #[v0, v1, v2, v3, v4, v5, v6] T fr) := block_set h5 6 v6
  exact h6
theorem s5_other (y : World) (B k : Nat) (v0 v1 v2 v3 v4 : Value) (h : k ≠ B) : (s5 y B v0 v1 v2 v3 v4).heap[k]? = y.heap[k]? := by
  unfold s5
  rw [Below.heap_setCell _ _ _ _ h, Below.heap_setCell _ _ _ _ h, Below.heap_setCell _ _ _ _ h, Below.heap_setCell _ _ _ _ h, Below.heap_setCell _ _ _ _ h]
theorem s7_other (y : World) (B k : Nat) (v0 v1 v2 v3 v4 v5 v6 : Value) (h : k ≠ B) : (s7 y B v0 v1 v2 v3 v4 v5 v6).heap[k]? = y.heap[k]? := by
  unfold s7
  rw [Below.heap_setCell _ _ _ _ h, Below.heap_setCell _ _ _ _ h, s5_other _ _ _ _ _ _ _ _ h]
theorem s5_below {N : Nat} {w y : World} (h : Below N w y) {B : Nat} (hB : N ≤ B) (v0 v1 v2 v3 v4 : Value) : Below N w (s5 y B v0 v1 v2 v3 v4) :=
  ((((h.setCell (p := ⟨B, 0, none⟩) hB v0).setCell (p := ⟨B, 1, none⟩) hB v1).setCell (p := ⟨B, 2, none⟩) hB v2).setCell (p := ⟨B, 3, none⟩) hB v3).setCell (p := ⟨B, 4, none⟩) hB v4
theorem s7_below {N : Nat} {w y : World} (h : Below N w y) {B : Nat} (hB : N ≤ B) (v0 v1 v2 v3 v4 v5 v6 : Value) : Below N w (s7 y B v0 v1 v2 v3 v4 v5 v6) :=
  ((s5_below h hB v0 v1 v2 v3 v4).setCell (p := ⟨B, 5, none⟩) hB v5).setCell (p := ⟨B, 6, none⟩) hB v6
theorem s5_own {y : World} {base n : Nat} {e : TypeId} {size : Nat} {v : Value} {xs : List Value} (h : y.ownsRow base e size v n xs) {B : Nat} (hB : B < base) (v0 v1 v2 v3 v4 : Value) : (s5 y B v0 v1 v2 v3 v4).ownsRow base e size v n xs :=
  ownsRow_setCell_below (a := ⟨B, 4, none⟩) (ownsRow_setCell_below (a := ⟨B, 3, none⟩) (ownsRow_setCell_below (a := ⟨B, 2, none⟩) (ownsRow_setCell_below (a := ⟨B, 1, none⟩) (ownsRow_setCell_below (a := ⟨B, 0, none⟩) h hB v0) hB v1) hB v2) hB v3) hB v4
theorem s7_own {y : World} {base n : Nat} {e : TypeId} {size : Nat} {v : Value} {xs : List Value} (h : y.ownsRow base e size v n xs) {B : Nat} (hB : B < base) (v0 v1 v2 v3 v4 v5 v6 : Value) : (s7 y B v0 v1 v2 v3 v4 v5 v6).ownsRow base e size v n xs :=
  ownsRow_setCell_below (a := ⟨B, 6, none⟩) (ownsRow_setCell_below (a := ⟨B, 5, none⟩) (s5_own h hB v0 v1 v2 v3 v4) hB v5) hB v6
theorem askB_small (q : Asq) (h : askOk q = true) : (askB q).size ≤ 3000 := by
  obtain ⟨_, _, h1, h2, h3⟩ := askOk_facts h
  have hn : ∀ n k, (numS n k).size = k := fun n k => by rw [← ba_len, numS_list, putL_length]
  rw [askB_in, sealL_size]
  unfold askIn
  simp only [ByteArray.size_append, hn, textL_size]
  omega
theorem rpB_small (r : Rp) (h : rpOk r = true) : (rpB r).size ≤ 3000 := by
  have := rpIn_len r (rp_fits h)
  unfold rpB
  rw [sealL_size, ba_size]
  omega
/-- what stays: the request, the answer, and all of old -/
def KB (w : World) (qc rc : Array Value) (rv : Value) (F : Rp) (u : World) : Prop :=
  u.heap[w.heap.size]? = some (.cells qc 23 (0, 0)) ∧ u.heap[w.heap.size + 1]? = some (.cells rc 37 (0, 0)) ∧ Below w.heap.size w u ∧ IsRp u rv F
theorem KB.call {w : World} {qc rc : Array Value} {rv : Value} {F : Rp} {u u' : World} (h : KB w qc rc rv F u) (hb : Below u.heap.size u u') : KB w qc rc rv F u' := by
  obtain ⟨h1, h2, h3, h4⟩ := h
  exact ⟨(hb.block _ (lt_of_block h1)).trans h1, (hb.block _ (lt_of_block h2)).trans h2, h3.trans (hb.mono h3.size), h4.below hb⟩
theorem KB.alloc {w : World} {qc rc : Array Value} {rv : Value} {F : Rp} {u : World} (h : KB w qc rc rv F u) (o : Obj) : KB w qc rc rv F (u.alloc o) := h.call ((Below.refl _ u).alloc (Nat.le_refl _) o)
set_option maxRecDepth 100000 in
set_option maxHeartbeats 16000000 in
theorem walk (v0 : Value) (q : Asq) (v1 : Value) (r : Rp) (s : ByteArray) (w : World) (w0 : IsAsk w v0 q) (w1 : IsRp w v1 r) (w2 : s.size ≤ maxLen) :
    Calls Try.prog 5 #[v0, v1, .string s] w fun e w' => e = .returned (.bool true) ∧ Below w.heap.size w w' := by
  obtain ⟨rfl, hk, hn, l1, l2, l3⟩ := w0
  unfold maxLen at l1 l2 l3 w2
  have hcs : cut0 s 3000 = s.extract 0 (min s.size 3000) := rfl
  have z5 : (cut0 s 3000).size ≤ 3000 := cut0_size _ _
  obtain ⟨s', hs'⟩ : ∃ s', cut0 s 3000 = s' := ⟨_, rfl⟩
  rw [hs'] at hcs z5
  have m1 : min s.size 3000 ≤ s.size := Nat.min_le_left _ _
  have i1 : min (s.size : Int) 3000 = ((min s.size 3000 : Nat) : Int) := by omega
  have j1 : (if (3000 : Int) < s.size then (3000 : Int) else s.size) = ((min s.size 3000 : Nat) : Int) := by split <;> omega
  generalize min s.size 3000 = n1 at *
  have hcs2 := hcs.symm
  clear hcs
  have HS := Lib.hid (fun u => frShort q u (by omega) (by omega) (by omega))
  have HAL := Lib.hid (fun u => frAlive u)
  have hfw := fun u (hu : Below w.heap.size w u) => frFewR r v1 w u w1 hu
  have hbdF : (fewR r).bounded := ⟨w1.1.1, w1.1.2.1, w1.1.2.2.1, (by have := cutR_size r.source 2100; show (cutR r.source 2100).size ≤ _; omega), w1.1.2.2.2.2⟩
  have hll : fewL r.lines = (fewR r).lines := rfl
  obtain ⟨F, hF⟩ : ∃ F, fewR r = F := ⟨_, rfl⟩
  rw [hll, hF] at hfw
  rw [hF] at hbdF
  obtain ⟨fw, fa, fn, fs, fi, fc, fl⟩ := F
  have HFW := Lib.hid (fun u (hu : Below w.heap.size w u) => (hfw u hu).mono (R' := fun e w' => ∃ A6 c6 xs, e = .returned (.agg #[.int .i64 fw, .int .i64 fa, .int .i64 fn, .string fs, .int .i64 fi, .int .u32 fc, .slice A6 fl.length c6]) ∧ RowL w xs fl ∧ w'.ownsRow (u.heap.size + 1 + 1) 66 3 (.slice A6 fl.length c6) fl.length xs ∧ Below u.heap.size u w') (fun e w' hh => by
    obtain ⟨A6, c6, xs, h1, h2, h3, h4⟩ := hh
    exact ⟨A6, c6, xs, by rw [h1]; rfl, h2, h3, h4⟩))
  have HBD := Lib.hid hbdF
  have HRP := Lib.hid (fun u (hu : IsRp u (.agg #[.int .i64 fw, .int .i64 fa, .int .i64 fn, .string fs, .int .i64 fi, .int .u32 fc, .slice none 0 0]) ⟨fw, fa, fn, fs, fi, fc, fl⟩) => hu)
  clear HRP hll hbdF
  clear hfw hF
  obtain ⟨hbd, kk, rfl, hkl⟩ := id w1
  obtain ⟨A, c, rfl, _, _⟩ := hkl.form
  clear hkl hbd
  obtain ⟨q', hq'⟩ : ∃ q', shortA q = q' := ⟨_, rfl⟩
  have z1 : q'.name.size ≤ 60 := by rw [← hq']; exact cut0_size _ _
  have z2 : q'.source.size ≤ 2100 := by rw [← hq']; exact cut0_size _ _
  have z3 : q'.record.size ≤ 150 := by rw [← hq']; exact cut0_size _ _
  have z4 : q'.no ≤ 9223372036854775807 := by rw [← hq']; exact hn.2
  rw [hq'] at HS
  have HA := Lib.hid (fun u => frAsk_any q' u (by omega) (by omega) (by omega) z4)
  have hAE : askOk q' = false → askE q' = 1 ∧ askS q' = ⟨#[]⟩ := fun h => by unfold askE askS; rw [h]; exact ⟨rfl, rfl⟩
  have hAO : askOk q' = true → askE q' = 0 ∧ askS q' = askB q' := fun h => by unfold askE askS; rw [h]; exact ⟨rfl, rfl⟩
  have hX1 : (askOk q' = false ∧ askE q' = 1 ∧ askS q' = ⟨#[]⟩) ∨ (askOk q' = true ∧ askE q' = 0 ∧ (askS q').size ≤ 3000 ∧ readV (askS q') = q' ∧ readX (askS q') = 0) := by
    cases ho : askOk q' with
    | false => exact .inl ⟨rfl, (hAE ho).1, (hAE ho).2⟩
    | true =>
      refine .inr ⟨rfl, (hAO ho).1, ?_⟩
      rw [(hAO ho).2]
      have hb := readQ_back q' ho z4
      exact ⟨askB_small q' ho, by unfold readV; rw [hb]; rfl, by unfold readX; rw [hb]; rfl⟩
  have HX1 := Lib.hid hX1
  have hne := fun u => neAsq q' q' u
  rw [decide_eq_true rfl] at hne
  have HNE := Lib.hid hne
  clear hne hX1
  have HAE := Lib.hid hAE; have HAO := Lib.hid hAO
  have HOKD : Hid (askOk q' = (rightA q' && decide (q'.record.size ≤ 100))) := Lib.hid rfl
  have z3I : (q'.record.size : Int) ≤ 150 := by omega
  clear hAE hAO z1 z2 z4 hq' hk hn l1 l2 l3
  obtain ⟨k0, n0, o0, s0, r0⟩ := q
  obtain ⟨k, nm, no, so, re⟩ := q'
  obtain ⟨why, at_, rno, source, insns, action, lines⟩ := r
  simp only [Rp.val] at *
  unfold Asq.value at *
  simp only at HS HA
  obtain ⟨n, hnn⟩ : ∃ n, lines.length = n := ⟨_, rfl⟩
  rw [hnn] at HFW ⊢
  have b0 := heap_alloc_new w (.cells #[.int .i64 k0, .string n0, .int .i64 o0, .string s0, .string r0] 23)
  have HX : Hid (∀ u : World, u = (w.alloc (.cells #[.int .i64 k0, .string n0, .int .i64 o0, .string s0, .string r0] 23)).alloc (.cells #[.int .i64 why, .int .i64 at_, .int .i64 rno, .string source, .int .i64 insns, .int .u32 action, .slice A n c] 37) →
      u.heap[w.heap.size]? = some (.cells #[.int .i64 k0, .string n0, .int .i64 o0, .string s0, .string r0] 23 (0, 0)) ∧ u.heap[w.heap.size + 1]? = some (.cells #[.int .i64 why, .int .i64 at_, .int .i64 rno, .string source, .int .i64 insns, .int .u32 action, .slice A n c] 37 (0, 0)) ∧ Below w.heap.size w u ∧ w.heap.size + 1 < u.heap.size) := Lib.hid (by
    rintro u rfl
    have e1 := heap_alloc_new (w.alloc (.cells #[.int .i64 k0, .string n0, .int .i64 o0, .string s0, .string r0] 23)) (.cells #[.int .i64 why, .int .i64 at_, .int .i64 rno, .string source, .int .i64 insns, .int .u32 action, .slice A n c] 37)
    rw [World.size_alloc] at e1
    exact ⟨(heap_alloc_old _ _ (lt_of_block b0)).trans b0, e1, ((Below.refl w.heap.size w).alloc (Nat.le_refl _) _).alloc (by simp) _, by rw [World.size_alloc, World.size_alloc]; omega⟩)
  clear b0 hnn w1
  go_enter Try.func5, Try.ntmps5
  go_upto_region 1 with fail
  obtain ⟨u, hW⟩ : ∃ u, (w.alloc (.cells #[.int .i64 k0, .string n0, .int .i64 o0, .string s0, .string r0] 23)).alloc (.cells #[.int .i64 why, .int .i64 at_, .int .i64 rno, .string source, .int .i64 insns, .int .u32 action, .slice A n c] 37) = u := ⟨_, rfl⟩
  rw [hW]
  obtain ⟨hA, hR, hb, hz⟩ := HX.out u hW.symm
  clear hW HX
  have c0 := below_cell (Below.refl _ _) hA 0 rfl
  have c1 := below_cell (Below.refl _ _) hA 1 rfl
  have c2 := below_cell (Below.refl _ _) hA 2 rfl
  have c3 := below_cell (Below.refl _ _) hA 3 rfl
  have c4 := below_cell (Below.refl _ _) hA 4 rfl
  have e0 := below_cell (Below.refl _ _) hR 0 rfl
  have e1 := below_cell (Below.refl _ _) hR 1 rfl
  have e2 := below_cell (Below.refl _ _) hR 2 rfl
  have e3 := below_cell (Below.refl _ _) hR 3 rfl
  have e4 := below_cell (Below.refl _ _) hR 4 rfl
  have e5 := below_cell (Below.refl _ _) hR 5 rfl
  have e6 := below_cell (Below.refl _ _) hR 6 rfl
  have HA1 := Lib.hid hA; have HR1 := Lib.hid hR; have HB1 := Lib.hid hb.drew
  clear hA hR hb
  go_cut [2] (fun sv wx => sv = .string s' ∧ ∃ A6 c6, wx.heap[w.heap.size]? = some (.cells #[.int .i64 k, .string nm, .int .i64 no, .string so, .string re] 23 (0, 0)) ∧ wx.heap[w.heap.size + 1]? = some (.cells #[.int .i64 fw, .int .i64 fa, .int .i64 fn, .string fs, .int .i64 fi, .int .u32 fc, .slice A6 fl.length c6] 37 (0, 0)) ∧ Below w.heap.size w wx ∧ IsRp wx (.agg #[.int .i64 fw, .int .i64 fa, .int .i64 fn, .string fs, .int .i64 fi, .int .u32 fc, .slice A6 fl.length c6]) ⟨fw, fa, fn, fs, fi, fc, fl⟩)
  case first =>
    go_region_with (first
      | (go_at_call 8; refine (HS.out _).mono ?_; rintro e w5 ⟨rfl, hb5⟩; have hR5 := (hb5.block _ (lt_of_block HR1.out)).trans HR1.out; have hA5 := (hb5.block _ (lt_of_block HA1.out)).trans HA1.out; have hB5 := HB1.out.trans (hb5.mono HB1.out.size); have e0 := below_cell (Below.refl _ w5) hR5 0 rfl; have e1 := below_cell (Below.refl _ w5) hR5 1 rfl; have e2 := below_cell (Below.refl _ w5) hR5 2 rfl; have e3 := below_cell (Below.refl _ w5) hR5 3 rfl; have e4 := below_cell (Below.refl _ w5) hR5 4 rfl; have e5 := below_cell (Below.refl _ w5) hR5 5 rfl; have e6 := below_cell (Below.refl _ w5) hR5 6 rfl)
      | (go_at_call 15; refine (HFW.out _ hB5).mono ?_; rintro e w6 ⟨A6, c6, xs, rfl, hrow6, hown6, hb6⟩; have hz5 : w.heap.size + 1 < w5.heap.size := Nat.lt_of_lt_of_le hz hb5.size; have hR6 := (hb6.block _ (lt_of_block hR5)).trans hR5; have hA6 := (hb6.block _ (lt_of_block hA5)).trans hA5; have hB6 := hB5.trans (hb6.mono hB5.size); have a0 := below_cell (Below.refl _ w6) hA6 0 rfl; have fa0 := block_frozen hA6 0; have a1 := below_cell (Below.refl _ w6) hA6 1 rfl; have fa1 := block_frozen hA6 1; have a2 := below_cell (Below.refl _ w6) hA6 2 rfl; have fa2 := block_frozen hA6 2; have a3 := below_cell (Below.refl _ w6) hA6 3 rfl; have fa3 := block_frozen hA6 3; have a4 := below_cell (Below.refl _ w6) hA6 4 rfl; have fa4 := block_frozen hA6 4; have r0 := below_cell (Below.refl _ w6) hR6 0 rfl; have fr0 := block_frozen hR6 0; have r1 := below_cell (Below.refl _ w6) hR6 1 rfl; have fr1 := block_frozen hR6 1; have r2 := below_cell (Below.refl _ w6) hR6 2 rfl; have fr2 := block_frozen hR6 2; have r3 := below_cell (Below.refl _ w6) hR6 3 rfl; have fr3 := block_frozen hR6 3; have r4 := below_cell (Below.refl _ w6) hR6 4 rfl; have fr4 := block_frozen hR6 4; have r5 := below_cell (Below.refl _ w6) hR6 5 rfl; have fr5 := block_frozen hR6 5; have r6 := below_cell (Below.refl _ w6) hR6 6 rfl; have fr6 := block_frozen hR6 6)
      | fail)
    all_goals
      have hAZ := (s7_other (s5 w6 w.heap.size (.int .i64 k) (.string nm) (.int .i64 no) (.string so) (.string re)) (w.heap.size + 1) w.heap.size (.int .i64 fw) (.int .i64 fa) (.int .i64 fn) (.string fs) (.int .i64 fi) (.int .u32 fc) (.slice A6 fl.length c6) (by omega)).trans (s5_block hA6 (.int .i64 k) (.string nm) (.int .i64 no) (.string so) (.string re))
      have hRZ := s7_block ((s5_other w6 w.heap.size (w.heap.size + 1) (.int .i64 k) (.string nm) (.int .i64 no) (.string so) (.string re) (by omega)).trans hR6) (.int .i64 fw) (.int .i64 fa) (.int .i64 fn) (.string fs) (.int .i64 fi) (.int .u32 fc) (.slice A6 fl.length c6)
      have hBZ := s7_below (s5_below hB6 (Nat.le_refl _) (.int .i64 k) (.string nm) (.int .i64 no) (.string so) (.string re)) (show w.heap.size ≤ w.heap.size + 1 by omega) (.int .i64 fw) (.int .i64 fa) (.int .i64 fn) (.string fs) (.int .i64 fi) (.int .u32 fc) (.slice A6 fl.length c6)
      have hOZ := s7_own (s5_own hown6 (show w.heap.size < w5.heap.size + 1 + 1 by omega) (.int .i64 k) (.string nm) (.int .i64 no) (.string so) (.string re)) (show w.heap.size + 1 < w5.heap.size + 1 + 1 by omega) (.int .i64 fw) (.int .i64 fa) (.int .i64 fn) (.string fs) (.int .i64 fi) (.int .u32 fc) (.slice A6 fl.length c6)
      have hLZ : IsRp _ _ _ := ⟨HBD.out, _, rfl, hrow6.reads hOZ rfl hBZ⟩
      unfold s7 s5 at hAZ hRZ hBZ hLZ
      go_wp2_with fail
      go_meet
      exact ⟨rfl, A6, c6, hAZ, hRZ, hBZ, hLZ⟩
  case rest =>
  obtain ⟨hsv, A6, c6, hK⟩ := hcut
  subst hsv
  have hK : KB w _ _ _ _ wc := hK
  have HK := Lib.hid hK
  have HR := Lib.hid (fun u (hu : IsRp u (.agg #[.int .i64 fw, .int .i64 fa, .int .i64 fn, .string fs, .int .i64 fi, .int .u32 fc, .slice A6 fl.length c6]) ⟨fw, fa, fn, fs, fi, fc, fl⟩) => frReply_all ⟨fw, fa, fn, fs, fi, fc, fl⟩ _ u hu)
  clear hK HFW HS HAE HAO HOKD
  try simp only at HNE
  obtain ⟨aE, haE⟩ : ∃ x, askE ⟨k, nm, no, so, re⟩ = x := ⟨_, rfl⟩
  obtain ⟨aS, haS⟩ : ∃ x, askS ⟨k, nm, no, so, re⟩ = x := ⟨_, rfl⟩
  rw [haE, haS] at HX1 HA
  clear haE haS
  obtain ⟨hA0, hR0, _, _⟩ := HK.out
  have c0 := below_cell (Below.refl _ wc) hA0 0 rfl
  have c1 := below_cell (Below.refl _ wc) hA0 1 rfl
  have c2 := below_cell (Below.refl _ wc) hA0 2 rfl
  have c3 := below_cell (Below.refl _ wc) hA0 3 rfl
  have c4 := below_cell (Below.refl _ wc) hA0 4 rfl
  clear hA0 hR0
  go_upto_if 38 with (first | (go_at_call 9; refine (HA.out _).mono ?_; rintro e w7 ⟨rfl, hb7⟩))
  have HK7 := Lib.hid (HK.out.call hb7)
  clear c0 c1 c2 c3 c4 hb7 HK HA
  go_cut [] (fun wx => KB w #[.int .i64 k, .string nm, .int .i64 no, .string so, .string re] #[.int .i64 fw, .int .i64 fa, .int .i64 fn, .string fs, .int .i64 fi, .int .u32 fc, .slice A6 fl.length c6] (.agg #[.int .i64 fw, .int .i64 fa, .int .i64 fn, .string fs, .int .i64 fi, .int .u32 fc, .slice A6 fl.length c6]) ⟨fw, fa, fn, fs, fi, fc, fl⟩ wx)
  case first =>
    rcases HX1.out with ⟨h1, rfl, rfl⟩ | ⟨h1, rfl, h2, h3, h4⟩
    · clear HX1 h1
      go_wp2_with fail
      go_meet
      exact HK7.out
    · have HRA := Lib.hid (fun u => frReadAsk aS u h2)
      rw [h3, h4] at HRA
      unfold Asq.value at HRA
      simp only at HRA
      clear HX1 h1 h2 h3 h4
      go_upto_region 5 with (first | (go_at_call 10; refine (HRA.out _).mono ?_; rintro e w8 ⟨rfl, hb8⟩))
      have HK8 := Lib.hid ((HK7.out.call hb8).alloc (.cells #[.int .i64 k, .string nm, .int .i64 no, .string so, .string re] 23))
      have hV := heap_alloc_new w8 (.cells #[.int .i64 k, .string nm, .int .i64 no, .string so, .string re] 23)
      obtain ⟨V, hVV⟩ : ∃ V, w8.heap.size = V := ⟨_, rfl⟩
      obtain ⟨z, hz⟩ : ∃ z, w8.alloc (.cells #[.int .i64 k, .string nm, .int .i64 no, .string so, .string re] 23) = z := ⟨_, rfl⟩
      rw [hz] at HK8 hV ⊢
      rw [hVV] at hV ⊢
      clear hz hVV hb8 HK7
      obtain ⟨hA0, hR0, _, _⟩ := HK8.out
      have c0 := below_cell (Below.refl _ z) hA0 0 rfl
      have c1 := below_cell (Below.refl _ z) hA0 1 rfl
      have c2 := below_cell (Below.refl _ z) hA0 2 rfl
      have c3 := below_cell (Below.refl _ z) hA0 3 rfl
      have c4 := below_cell (Below.refl _ z) hA0 4 rfl
      have d0 := below_cell (Below.refl _ z) hV 0 rfl
      have d1 := below_cell (Below.refl _ z) hV 1 rfl
      have d2 := below_cell (Below.refl _ z) hV 2 rfl
      have d3 := below_cell (Below.refl _ z) hV 3 rfl
      have d4 := below_cell (Below.refl _ z) hV 4 rfl
      have hne := HNE.out
      clear hA0 hR0 hV
      go_wp2_with fail
      go_meet
      exact HK8.out
  case rest =>
  clear HK7 HX1 HNE
  have HK := Lib.hid hcut
  clear hcut
  have hF := rp_fits (r := ⟨fw, fa, fn, fs, fi, fc, fl⟩)
  have hX2 : (rpX ⟨fw, fa, fn, fs, fi, fc, fl⟩ = 1) ∨ (rpX ⟨fw, fa, fn, fs, fi, fc, fl⟩ = 0 ∧ (rpT ⟨fw, fa, fn, fs, fi, fc, fl⟩).size ≤ 3000 ∧ readR (rpT ⟨fw, fa, fn, fs, fi, fc, fl⟩) = some ⟨fw, fa, fn, fs, fi, fc, fl⟩ ∧ RpFits ⟨fw, fa, fn, fs, fi, fc, fl⟩) := by
    unfold rpX rpT
    by_cases ho : rpOk ⟨fw, fa, fn, fs, fi, fc, fl⟩ = true
    · rw [if_pos ho, if_pos ho]
      exact .inr ⟨rfl, rpB_small _ ho, readR_back _ ho HBD.out.2.2.2.2.2, rp_fits ho⟩
    · rw [if_neg ho, if_neg ho]
      exact .inl rfl
  have HX2 := Lib.hid hX2
  clear hF hX2
  obtain ⟨bE, hbE⟩ : ∃ x, rpX ⟨fw, fa, fn, fs, fi, fc, fl⟩ = x := ⟨_, rfl⟩
  obtain ⟨bS, hbS⟩ : ∃ x, rpT ⟨fw, fa, fn, fs, fi, fc, fl⟩ = x := ⟨_, rfl⟩
  rw [hbE, hbS] at HX2 HR
  clear hbE hbS
  go_upto_region 7 with fail
  obtain ⟨wd, hwd⟩ : ∃ wd, wd = wc := ⟨_, rfl⟩
  subst hwd
  obtain ⟨hA0, hR0, _, hL0⟩ := HK.out
  have e0 := below_cell (Below.refl _ wd) hR0 0 rfl
  have e1 := below_cell (Below.refl _ wd) hR0 1 rfl
  have e2 := below_cell (Below.refl _ wd) hR0 2 rfl
  have e3 := below_cell (Below.refl _ wd) hR0 3 rfl
  have e4 := below_cell (Below.refl _ wd) hR0 4 rfl
  have e5 := below_cell (Below.refl _ wd) hR0 5 rfl
  have e6 := below_cell (Below.refl _ wd) hR0 6 rfl
  have HL0 := Lib.hid (HR.out _ hL0)
  clear hA0 hR0 hL0
  go_upto_if 57 with (first | (go_at_call 16; refine HL0.out.mono ?_; rintro e w7 ⟨rfl, hb7⟩))
  have HK7 := Lib.hid (HK.out.call hb7)
  clear e0 e1 e2 e3 e4 e5 e6 hb7 HL0 HK
  go_cut [] (fun wx => KB w #[.int .i64 k, .string nm, .int .i64 no, .string so, .string re] #[.int .i64 fw, .int .i64 fa, .int .i64 fn, .string fs, .int .i64 fi, .int .u32 fc, .slice A6 fl.length c6] (.agg #[.int .i64 fw, .int .i64 fa, .int .i64 fn, .string fs, .int .i64 fi, .int .u32 fc, .slice A6 fl.length c6]) ⟨fw, fa, fn, fs, fi, fc, fl⟩ wx)
  case first =>
    rcases HX2.out with rfl | ⟨rfl, h2, h3, h4⟩
    · clear HX2
      go_wp2_with fail
      go_meet
      exact HK7.out
    · have HRA := Lib.hid (fun u => frReadReply bS u h2)
      unfold ReadPost at HRA
      rw [h3] at HRA
      have H4 := Lib.hid h4
      clear HX2 h2 h3 h4
      have HRB := Lib.hid ((HRA.out w7).mono (R' := fun e w' => Below w7.heap.size w7 w' ∧ ∃ A c, e = .returned (.tuple #[.agg #[.int .i64 fw, .int .i64 fa, .int .i64 fn, .string fs, .int .i64 fi, .int .u32 fc, .slice A fl.length c], .int .i64 0]) ∧ IsRp w' (.agg #[.int .i64 fw, .int .i64 fa, .int .i64 fn, .string fs, .int .i64 fi, .int .u32 fc, .slice A fl.length c]) ⟨fw, fa, fn, fs, fi, fc, fl⟩) (fun e w' hh => by
        obtain ⟨h1, rv, ⟨hb, kk, rfl, hkl⟩, rfl⟩ := hh
        obtain ⟨A5, c5, rfl, _, _⟩ := id hkl.form
        exact ⟨h1, A5, c5, rfl, hb, _, rfl, hkl⟩))
      go_upto_region 10 with (first | (go_at_call 17; refine HRB.out.mono ?_; rintro e w8 ⟨hb8, A5, c5, rfl, hL8⟩))
      have HK8 := Lib.hid ((HK7.out.call hb8).alloc (.cells #[.int .i64 fw, .int .i64 fa, .int .i64 fn, .string fs, .int .i64 fi, .int .u32 fc, .slice A5 fl.length c5] 37))
      have hV := heap_alloc_new w8 (.cells #[.int .i64 fw, .int .i64 fa, .int .i64 fn, .string fs, .int .i64 fi, .int .u32 fc, .slice A5 fl.length c5] 37)
      have HL8 := Lib.hid (hL8.below ((Below.refl _ w8).alloc (Nat.le_refl _) (.cells #[.int .i64 fw, .int .i64 fa, .int .i64 fn, .string fs, .int .i64 fi, .int .u32 fc, .slice A5 fl.length c5] 37)))
      obtain ⟨V, hVV⟩ : ∃ V, w8.heap.size = V := ⟨_, rfl⟩
      obtain ⟨z, hz⟩ : ∃ z, w8.alloc (.cells #[.int .i64 fw, .int .i64 fa, .int .i64 fn, .string fs, .int .i64 fi, .int .u32 fc, .slice A5 fl.length c5] 37) = z := ⟨_, rfl⟩
      rw [hz] at HK8 hV HL8 ⊢
      rw [hVV] at hV ⊢
      clear hz hVV hb8 HK7 HRA HRB hL8
      obtain ⟨hA0, hR0, _, hL0⟩ := HK8.out
      have e0 := below_cell (Below.refl _ z) hR0 0 rfl
      have e1 := below_cell (Below.refl _ z) hR0 1 rfl
      have e2 := below_cell (Below.refl _ z) hR0 2 rfl
      have e3 := below_cell (Below.refl _ z) hR0 3 rfl
      have e4 := below_cell (Below.refl _ z) hR0 4 rfl
      have e5 := below_cell (Below.refl _ z) hR0 5 rfl
      have e6 := below_cell (Below.refl _ z) hR0 6 rfl
      have d0 := below_cell (Below.refl _ z) hV 0 rfl
      have d1 := below_cell (Below.refl _ z) hV 1 rfl
      have d2 := below_cell (Below.refl _ z) hV 2 rfl
      have d3 := below_cell (Below.refl _ z) hV 3 rfl
      have d4 := below_cell (Below.refl _ z) hV 4 rfl
      have d5 := below_cell (Below.refl _ z) hV 5 rfl
      have d6 := below_cell (Below.refl _ z) hV 6 rfl
      have HLK := Lib.hid (refLikeRp ⟨fw, fa, fn, fs, fi, fc, fl⟩ _ _ z HL8.out hL0 (by have := H4.out.lines; simp only at this ⊢; omega) (fun e he => by have := H4.out.each e he; have := this.nos; omega))
      clear hA0 hR0 hV hL0
      go_wp2_with (first | (go_at_call 19; refine HLK.out.mono ?_; rintro e w9 ⟨rfl, hb9⟩))
      go_meet
      exact HK8.out.call hb9
  case rest =>
  clear HK7 HX2 HR
  have HB := Lib.hid hcut.2.2.1
  clear hcut
  have hX3 : (readX s' = 70) ∨ (readX s' = 0 ∧ askE (readV s') = 0 ∧ askS (readV s') = s' ∧ (readV s').name.size ≤ 12 ∧ (readV s').source.size ≤ 2000 ∧ (readV s').record.size ≤ 100 ∧ (readV s').no ≤ 9223372036854775807) := by
    have hf := readV_facts s'
    unfold readX
    cases hq : readQ s' with
    | none => exact .inl rfl
    | some q3 =>
      have h1 := readQ_some hq
      have h2 : readV s' = q3 := by unfold readV; rw [hq]; rfl
      rw [h2] at hf ⊢
      refine .inr ⟨rfl, ?_, ?_, hf⟩
      · unfold askE; rw [if_pos h1.1]
      · unfold askS; rw [if_pos h1.1]; exact h1.2
  have hX4 : (readR s' = none) ∨ (∃ r3, readR s' = some r3 ∧ rpX r3 = 0 ∧ rpT r3 = s') := by
    cases hq : readR s' with
    | none => exact .inl rfl
    | some r3 =>
      have h1 := readR_some hq
      refine .inr ⟨r3, rfl, ?_, ?_⟩
      · unfold rpX; rw [if_pos h1.1]
      · unfold rpT; rw [if_pos h1.1]; exact h1.2
  have HX4 := Lib.hid hX4
  have HRA := Lib.hid (fun u => frReadAsk s' u z5)
  have HRP := Lib.hid (fun u => frReadReply s' u z5)
  unfold ReadPost at HRP
  obtain ⟨x, hx⟩ : ∃ x, readX s' = x := ⟨_, rfl⟩
  obtain ⟨v, hv⟩ : ∃ v, readV s' = v := ⟨_, rfl⟩
  rw [hx, hv] at hX3 HRA
  have HX3 := Lib.hid hX3
  clear hX3 hX4 hx hv
  obtain ⟨v1, v2, v3, v4, v5⟩ := v
  unfold Asq.value at HRA
  simp only at HRA HX3
  have hsq : (s'.toList == s'.toList) = true := by simp
  go_upto_region 13 with (first | (go_at_call 10; refine (HRA.out _).mono ?_; rintro e w8 ⟨rfl, hb8⟩))
  have hB8 := (btr HB.out hb8).alloc (btr HB.out hb8).size (.cells #[.int .i64 v1, .string v2, .int .i64 v3, .string v4, .string v5] 23)
  have hV := heap_alloc_new w8 (.cells #[.int .i64 v1, .string v2, .int .i64 v3, .string v4, .string v5] 23)
  obtain ⟨V, hVV⟩ : ∃ V, w8.heap.size = V := ⟨_, rfl⟩
  obtain ⟨z, hz3⟩ : ∃ z, w8.alloc (.cells #[.int .i64 v1, .string v2, .int .i64 v3, .string v4, .string v5] 23) = z := ⟨_, rfl⟩
  rw [hz3] at hB8 hV ⊢
  rw [hVV] at hV ⊢
  have HB8 := Lib.hid hB8
  clear hz3 hVV hb8 HB hB8
  go_upto_if 77 with fail
  go_cut [] (fun wx => Below w.heap.size w wx)
  case first =>
    rcases HX3.out with rfl | ⟨rfl, h1, h2, h3, h4, h5, h6⟩
    · go_wp2_with fail
      go_meet
      exact HB8.out
    · have HA3 := Lib.hid (fun u => frAsk_any ⟨v1, v2, v3, v4, v5⟩ u (by simp only; omega) (by simp only; omega) (by simp only; omega) h6)
      rw [h1, h2] at HA3
      unfold Asq.value at HA3
      simp only at HA3
      clear HX3 h1 h2 h3 h4 h5 h6
      have d0 := below_cell (Below.refl _ z) hV 0 rfl
      have d1 := below_cell (Below.refl _ z) hV 1 rfl
      have d2 := below_cell (Below.refl _ z) hV 2 rfl
      have d3 := below_cell (Below.refl _ z) hV 3 rfl
      have d4 := below_cell (Below.refl _ z) hV 4 rfl
      clear hV
      go_wp2_with (first | (go_at_call 9; refine (HA3.out _).mono ?_; rintro e w9 ⟨rfl, hb9⟩))
      go_meet
      exact btr HB8.out hb9
  case rest =>
  have HB := Lib.hid hcut
  clear hcut HB8 HX3 hV HRA
  generalize hR5 : (readR s').getD rpZ = R5 at HRP
  obtain ⟨q1, q2, q3, q4, q5, q6, ls⟩ := R5
  obtain ⟨g, hg⟩ : ∃ g : Int, (if (readR s').isSome = true then 0 else 70) = g := ⟨_, rfl⟩
  rw [hg] at HRP
  have hX5 : (g = 70) ∨ (g = 0 ∧ rpX ⟨q1, q2, q3, q4, q5, q6, ls⟩ = 0 ∧ rpT ⟨q1, q2, q3, q4, q5, q6, ls⟩ = s') := by
    rcases HX4.out with h | ⟨r3, h, h1, h2⟩
    · left; rw [← hg, h]; rfl
    · right
      have : r3 = ⟨q1, q2, q3, q4, q5, q6, ls⟩ := by rw [← hR5, h]; rfl
      rw [← this]
      exact ⟨by rw [← hg, h]; rfl, h1, h2⟩
  have HX5 := Lib.hid hX5
  clear hX5 HX4 hg hR5
  have HRB := Lib.hid (fun u => (HRP.out u).mono (R' := fun e w' => Below u.heap.size u w' ∧ ∃ A c, e = .returned (.tuple #[.agg #[.int .i64 q1, .int .i64 q2, .int .i64 q3, .string q4, .int .i64 q5, .int .u32 q6, .slice A ls.length c], .int .i64 g]) ∧ IsRp w' (.agg #[.int .i64 q1, .int .i64 q2, .int .i64 q3, .string q4, .int .i64 q5, .int .u32 q6, .slice A ls.length c]) ⟨q1, q2, q3, q4, q5, q6, ls⟩) (fun e w' hh => by
    obtain ⟨h1, rv, ⟨hb, kk, rfl, hkl⟩, rfl⟩ := hh
    obtain ⟨A5, c5, rfl, _, _⟩ := id hkl.form
    exact ⟨h1, A5, c5, rfl, hb, _, rfl, hkl⟩))
  clear HRP
  go_upto_region 18 with (first | (go_at_call 17; refine (HRB.out _).mono ?_; rintro e w8 ⟨hb8, A5, c5, rfl, hL8⟩))
  have hB8 := (btr HB.out hb8).alloc (btr HB.out hb8).size (.cells #[.int .i64 q1, .int .i64 q2, .int .i64 q3, .string q4, .int .i64 q5, .int .u32 q6, .slice A5 ls.length c5] 37)
  have hV := heap_alloc_new w8 (.cells #[.int .i64 q1, .int .i64 q2, .int .i64 q3, .string q4, .int .i64 q5, .int .u32 q6, .slice A5 ls.length c5] 37)
  have hL9 := hL8.below ((Below.refl _ w8).alloc (Nat.le_refl _) (.cells #[.int .i64 q1, .int .i64 q2, .int .i64 q3, .string q4, .int .i64 q5, .int .u32 q6, .slice A5 ls.length c5] 37))
  obtain ⟨V, hVV⟩ : ∃ V, w8.heap.size = V := ⟨_, rfl⟩
  obtain ⟨z, hz3⟩ : ∃ z, w8.alloc (.cells #[.int .i64 q1, .int .i64 q2, .int .i64 q3, .string q4, .int .i64 q5, .int .u32 q6, .slice A5 ls.length c5] 37) = z := ⟨_, rfl⟩
  rw [hz3] at hB8 hV hL9 ⊢
  rw [hVV] at hV ⊢
  have HB8 := Lib.hid hB8; have HL9 := Lib.hid hL9
  clear hz3 hVV hb8 HB hB8 HRB hL9 hL8
  go_upto_if 96 with fail
  go_cut [] (fun wx => Below w.heap.size w wx)
  case first =>
    rcases HX5.out with rfl | ⟨rfl, h1, h2⟩
    · go_wp2_with fail
      go_meet
      exact HB8.out
    · have HA3 := frReply_all ⟨q1, q2, q3, q4, q5, q6, ls⟩ _ z HL9.out
      rw [h1, h2] at HA3
      have HA3 := Lib.hid HA3
      clear HX5 h1 h2
      have d0 := below_cell (Below.refl _ z) hV 0 rfl
      have d1 := below_cell (Below.refl _ z) hV 1 rfl
      have d2 := below_cell (Below.refl _ z) hV 2 rfl
      have d3 := below_cell (Below.refl _ z) hV 3 rfl
      have d4 := below_cell (Below.refl _ z) hV 4 rfl
      have d5 := below_cell (Below.refl _ z) hV 5 rfl
      have d6 := below_cell (Below.refl _ z) hV 6 rfl
      clear hV
      go_wp2_with (first | (go_at_call 16; refine HA3.out.mono ?_; rintro e w9 ⟨rfl, hb9⟩))
      go_meet
      exact btr HB8.out hb9
  case rest =>
  go_wp2_with (first | (go_at_call 12; refine (HAL.out _).mono ?_; rintro e w9 ⟨rfl, hb9⟩))
  go_ret
  exact ⟨rfl, btr hcut hb9⟩
end Go.Proofs.Ytmanlogclbbgaaa.lawFrameBack
