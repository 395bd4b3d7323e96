/- The walk of FrameReplies. -/
import Derived.Test.YtmanlogclbbgaaaFr14
import Derived.Test.YtmanlogclbbgaaaLnF
import Derived.Test.YtmanlogclbbgaaaFrR
import Derived.Deep.RegionWith
namespace Go.Proofs.Ytmanlogclbbgaaa.lawFrameReplies
open Go.RowKit
set_option linter.unusedVariables false
set_option linter.unusedSimpArgs false

theorem btr {w u u2 : World} (h : Below w.heap.size w u) (hb : Below u.heap.size u u2) : Below w.heap.size w u2 := h.trans (hb.mono h.size)
theorem bta {w u : World} (h : Below w.heap.size w u) (o : Obj) : Below w.heap.size w (u.alloc o) := h.alloc h.size o
def s5 (y : World) (B : Nat) (v0 v1 v2 v3 v4 : Value) : World := ((((y.setCell ⟨B, 0, none⟩ v0).setCell ⟨B, 1, none⟩ v1).setCell ⟨B, 2, none⟩ v2).setCell ⟨B, 3, none⟩ v3).setCell ⟨B, 4, none⟩ v4
def s7 (y : World) (B : Nat) (v0 v1 v2 v3 v4 v5 v6 : Value) : World := ((s5 y B v0 v1 v2 v3 v4).setCell ⟨B, 5, none⟩ v5).setCell ⟨B, 6, none⟩ v6
theorem s5_block {y : World} {B : Nat} {x0 x1 x2 x3 x4 : Value} {T : TypeId} {fr : Nat × Nat} (h : y.heap[B]? = some (.cells #[x0, x1, x2, x3, x4] T fr)) (v0 v1 v2 v3 v4 : Value) : (s5 y B v0 v1 v2 v3 v4).heap[B]? = some (.cells #[v0, v1, v2, v3, v4] T fr) :=
  block_set (block_set (block_set (block_set (block_set h 0 v0) 1 v1) 2 v2) 3 v3) 4 v4
theorem s7_block {y : World} {B : Nat} {x0 x1 x2 x3 x4 x5 x6 : Value} {T : TypeId} {fr : Nat × Nat} (h : y.heap[B]? = some (.cells #[x0, x1, x2, x3, x4, x5, x6] T fr)) (v0 v1 v2 v3 v4 v5 v6 : Value) : (s7 y B v0 v1 v2 v3 v4 v5 v6).heap[B]? = some (.cells #[v0, v1, v2, v3, v4, v5, v6] T fr) := by
  unfold s7 s5
  have h0 : (y.setCell ⟨B, 0, none⟩ v0).heap[B]? = some (.cells #[v0, x1, x2, x3, x4, x5, x6] T fr) := block_set h 0 v0
  have h1 : ((y.setCell ⟨B, 0, none⟩ v0).setCell ⟨B, 1, none⟩ v1).heap[B]? = some (.cells #[v0, v1, x2, x3, x4, x5, x6] T fr) := block_set h0 1 v1
  have h2 : (((y.setCell ⟨B, 0, none⟩ v0).setCell ⟨B, 1, none⟩ v1).setCell ⟨B, 2, none⟩ v2).heap[B]? = some (.cells #[v0, v1, v2, x3, x4, x5, x6] T fr) := block_set h1 2 v2
  have h3 : ((((y.setCell ⟨B, 0, none⟩ v0).setCell ⟨B, 1, none⟩ v1).setCell ⟨B, 2, none⟩ v2).setCell ⟨B, 3, none⟩ v3).heap[B]? = some (.cells #[v0, v1, v2, v3, x4, x5, x6] T fr) := block_set h2 3 v3
  have h4 : (((((y.setCell ⟨B, 0, none⟩ v0).setCell ⟨B, 1, none⟩ v1).setCell ⟨B, 2, none⟩ v2).setCell ⟨B, 3, none⟩ v3).setCell ⟨B, 4, none⟩ v4).heap[B]? = some (.cells #[v0, v1, v2, v3, v4, x5, x6] T fr) := block_set h3 4 v4
  have h5 : ((((((y.setCell ⟨B, 0, none⟩ v0).setCell ⟨B, 1, none⟩ v1).setCell ⟨B, 2, none⟩ v2).setCell ⟨B, 3, none⟩ v3).setCell ⟨B, 4, none⟩ v4).setCell ⟨B, 5, none⟩ v5).heap[B]? = some (.cells #[v0, v1, v2, v3, v4, v5, x6] T fr) := block_set h4 5 v5
  have h6 : (((((((y.setCell ⟨B, 0, none⟩ v0).setCell ⟨B, 1, none⟩ v1).setCell ⟨B, 2, none⟩ v2).setCell ⟨B, 3, none⟩ v3).setCell ⟨B, 4, none⟩ v4).setCell ⟨B, 5, none⟩ v5).setCell ⟨B, 6, none⟩ v6).heap[B]? = some (.cells #[v0, v1, v2, v3, v4, v5, v6] T fr) := block_set h5 6 v6
  exact h6
theorem s5_other (y : World) (B k : Nat) (v0 v1 v2 v3 v4 : Value) (h : k ≠ B) : (s5 y B v0 v1 v2 v3 v4).heap[k]? = y.heap[k]? := by
  unfold s5
  rw [Below.heap_setCell _ _ _ _ h, Below.heap_setCell _ _ _ _ h, Below.heap_setCell _ _ _ _ h, Below.heap_setCell _ _ _ _ h, Below.heap_setCell _ _ _ _ h]
theorem s7_other (y : World) (B k : Nat) (v0 v1 v2 v3 v4 v5 v6 : Value) (h : k ≠ B) : (s7 y B v0 v1 v2 v3 v4 v5 v6).heap[k]? = y.heap[k]? := by
  unfold s7
  rw [Below.heap_setCell _ _ _ _ h, Below.heap_setCell _ _ _ _ h, s5_other _ _ _ _ _ _ _ _ h]
theorem s5_below {N : Nat} {w y : World} (h : Below N w y) {B : Nat} (hB : N ≤ B) (v0 v1 v2 v3 v4 : Value) : Below N w (s5 y B v0 v1 v2 v3 v4) :=
  ((((h.setCell (p := ⟨B, 0, none⟩) hB v0).setCell (p := ⟨B, 1, none⟩) hB v1).setCell (p := ⟨B, 2, none⟩) hB v2).setCell (p := ⟨B, 3, none⟩) hB v3).setCell (p := ⟨B, 4, none⟩) hB v4
theorem s7_below {N : Nat} {w y : World} (h : Below N w y) {B : Nat} (hB : N ≤ B) (v0 v1 v2 v3 v4 v5 v6 : Value) : Below N w (s7 y B v0 v1 v2 v3 v4 v5 v6) :=
  ((s5_below h hB v0 v1 v2 v3 v4).setCell (p := ⟨B, 5, none⟩) hB v5).setCell (p := ⟨B, 6, none⟩) hB v6
theorem s5_own {y : World} {base n : Nat} {e : TypeId} {size : Nat} {v : Value} {xs : List Value} (h : y.ownsRow base e size v n xs) {B : Nat} (hB : B < base) (v0 v1 v2 v3 v4 : Value) : (s5 y B v0 v1 v2 v3 v4).ownsRow base e size v n xs :=
  ownsRow_setCell_below (a := ⟨B, 4, none⟩) (ownsRow_setCell_below (a := ⟨B, 3, none⟩) (ownsRow_setCell_below (a := ⟨B, 2, none⟩) (ownsRow_setCell_below (a := ⟨B, 1, none⟩) (ownsRow_setCell_below (a := ⟨B, 0, none⟩) h hB v0) hB v1) hB v2) hB v3) hB v4
theorem s7_own {y : World} {base n : Nat} {e : TypeId} {size : Nat} {v : Value} {xs : List Value} (h : y.ownsRow base e size v n xs) {B : Nat} (hB : B < base) (v0 v1 v2 v3 v4 v5 v6 : Value) : (s7 y B v0 v1 v2 v3 v4 v5 v6).ownsRow base e size v n xs :=
  ownsRow_setCell_below (a := ⟨B, 6, none⟩) (ownsRow_setCell_below (a := ⟨B, 5, none⟩) (s5_own h hB v0 v1 v2 v3 v4) hB v5) hB v6
/-- what stays: the answer, and all of old -/
def KR (w : World) (rc : Array Value) (rv : Value) (F : Rp) (u : World) : Prop :=
  u.heap[w.heap.size]? = some (.cells rc 37 (0, 0)) ∧ Below w.heap.size w u ∧ IsRp u rv F
theorem KR.call {w : World} {rc : Array Value} {rv : Value} {F : Rp} {u u' : World} (h : KR w rc rv F u) (hb : Below u.heap.size u u') : KR w rc rv F u' := by
  obtain ⟨h2, h3, h4⟩ := h
  exact ⟨(hb.block _ (lt_of_block h2)).trans h2, h3.trans (hb.mono h3.size), h4.below hb⟩
theorem KR.alloc {w : World} {rc : Array Value} {rv : Value} {F : Rp} {u : World} (h : KR w rc rv F u) (o : Obj) : KR w rc rv F (u.alloc o) := h.call ((Below.refl _ u).alloc (Nat.le_refl _) o)
theorem few_got {s : ByteArray} {l : List Ln} {q1 q2 q3 q5 q6 : Int} {q4 : ByteArray} (h : (readR s).getD ⟨0, 0, 0, ⟨#[]⟩, 0, 0, []⟩ = ⟨q1, q2, q3, q4, q5, q6, l⟩) : l.length ≤ 100000 ∧ ∀ e ∈ l, e.nos.length ≤ 100000 := by
  cases hr : readR s with
  | none => rw [hr] at h; injection h with _ _ _ _ _ _ h; subst h; exact ⟨by simp, by simp⟩
  | some r =>
    rw [hr] at h
    have h : r = ⟨q1, q2, q3, q4, q5, q6, l⟩ := h
    have hf := rp_fits (readR_some hr).1
    rw [h] at hf
    refine ⟨by have := hf.lines; simp only at this; omega, fun e he => by have := (hf.each e he).nos; omega⟩
set_option maxRecDepth 100000 in
set_option maxHeartbeats 16000000 in
theorem walk (v1 : Value) (r : Rp) (s : ByteArray) (w : World) (w1 : IsRp w v1 r) (w2 : s.size ≤ maxLen) :
    Calls Try.prog 4 #[v1, .string s] w fun e w' => e = .returned (.bool true) ∧ Below w.heap.size w w' := by
  unfold maxLen at w2
  have hcs : cut0 s 3000 = s.extract 0 (min s.size 3000) := rfl
  have z5 : (cut0 s 3000).size ≤ 3000 := cut0_size _ _
  obtain ⟨s', hs'⟩ : ∃ s', cut0 s 3000 = s' := ⟨_, rfl⟩
  rw [hs'] at hcs z5
  have m1 : min s.size 3000 ≤ s.size := Nat.min_le_left _ _
  have i1 : min (s.size : Int) 3000 = ((min s.size 3000 : Nat) : Int) := by omega
  have j1 : (if (3000 : Int) < s.size then (3000 : Int) else s.size) = ((min s.size 3000 : Nat) : Int) := by split <;> omega
  generalize min s.size 3000 = n1 at *
  have hcs2 := hcs.symm
  clear hcs hs'
  have HAL := Lib.hid (fun u => frAlive u)
  have hfw := fun u (hu : Below w.heap.size w u) => frFewR r v1 w u w1 hu
  have hbdF : (fewR r).bounded := ⟨w1.1.1, w1.1.2.1, w1.1.2.2.1, (by have := cutR_size r.source 2100; show (cutR r.source 2100).size ≤ _; omega), w1.1.2.2.2.2⟩
  have hll : fewL r.lines = (fewR r).lines := rfl
  obtain ⟨F, hF⟩ : ∃ F, fewR r = F := ⟨_, rfl⟩
  rw [hll, hF] at hfw
  rw [hF] at hbdF
  obtain ⟨fw, fa, fn, fs, fi, fc, fl⟩ := F
  have HFW := Lib.hid (fun u (hu : Below w.heap.size w u) => (hfw u hu).mono (R' := fun e w' => ∃ A6 c6 xs, e = .returned (.agg #[.int .i64 fw, .int .i64 fa, .int .i64 fn, .string fs, .int .i64 fi, .int .u32 fc, .slice A6 fl.length c6]) ∧ RowL w xs fl ∧ w'.ownsRow (u.heap.size + 1 + 1) 66 3 (.slice A6 fl.length c6) fl.length xs ∧ Below u.heap.size u w') (fun e w' hh => by
    obtain ⟨A6, c6, xs, h1, h2, h3, h4⟩ := hh
    exact ⟨A6, c6, xs, by rw [h1]; rfl, h2, h3, h4⟩))
  have HBD := Lib.hid hbdF
  clear hll hbdF hfw hF
  obtain ⟨hbd, kk, rfl, hkl⟩ := id w1
  obtain ⟨A, c, rfl, _, _⟩ := hkl.form
  clear hkl hbd
  obtain ⟨why, at_, rno, source, insns, action, lines⟩ := r
  simp only [Rp.val] at *
  obtain ⟨n, hnn⟩ : ∃ n, lines.length = n := ⟨_, rfl⟩
  rw [hnn] at HFW ⊢
  have b0 := heap_alloc_new w (.cells #[.int .i64 why, .int .i64 at_, .int .i64 rno, .string source, .int .i64 insns, .int .u32 action, .slice A n c] 37)
  have hb := (Below.refl w.heap.size w).alloc (Nat.le_refl _) (.cells #[.int .i64 why, .int .i64 at_, .int .i64 rno, .string source, .int .i64 insns, .int .u32 action, .slice A n c] 37)
  clear hnn w1
  go_enter Try.func4, Try.ntmps4
  go_upto_region 1 with fail
  obtain ⟨u, hW⟩ : ∃ u, w.alloc (.cells #[.int .i64 why, .int .i64 at_, .int .i64 rno, .string source, .int .i64 insns, .int .u32 action, .slice A n c] 37) = u := ⟨_, rfl⟩
  rw [hW] at b0 hb ⊢
  clear hW
  have e0 := below_cell (Below.refl _ u) b0 0 rfl
  have e1 := below_cell (Below.refl _ u) b0 1 rfl
  have e2 := below_cell (Below.refl _ u) b0 2 rfl
  have e3 := below_cell (Below.refl _ u) b0 3 rfl
  have e4 := below_cell (Below.refl _ u) b0 4 rfl
  have e5 := below_cell (Below.refl _ u) b0 5 rfl
  have e6 := below_cell (Below.refl _ u) b0 6 rfl
  have HR1 := Lib.hid b0; have HR2 := Lib.hid (show u.drew.heap[w.heap.size]? = _ from b0); have HB1 := Lib.hid hb.drew; have HB0 := Lib.hid hb
  clear b0 hb
  go_cut [1] (fun sv wx => sv = .string s' ∧ ∃ A6 c6, KR w #[.int .i64 fw, .int .i64 fa, .int .i64 fn, .string fs, .int .i64 fi, .int .u32 fc, .slice A6 fl.length c6] (.agg #[.int .i64 fw, .int .i64 fa, .int .i64 fn, .string fs, .int .i64 fi, .int .u32 fc, .slice A6 fl.length c6]) ⟨fw, fa, fn, fs, fi, fc, fl⟩ wx)
  case first =>
    go_region_with (first
      | (go_at_call 15; refine (HFW.out _ HB1.out).mono ?_; rintro e w6 ⟨A6, c6, xs, rfl, hrow6, hown6, hb6⟩; have hR6 := (hb6.block _ (lt_of_block HR2.out)).trans HR2.out; have hB6 := HB1.out.trans (hb6.mono HB1.out.size); have r0 := below_cell (Below.refl _ w6) hR6 0 rfl; have fr0 := block_frozen hR6 0; have r1 := below_cell (Below.refl _ w6) hR6 1 rfl; have fr1 := block_frozen hR6 1; have r2 := below_cell (Below.refl _ w6) hR6 2 rfl; have fr2 := block_frozen hR6 2; have r3 := below_cell (Below.refl _ w6) hR6 3 rfl; have fr3 := block_frozen hR6 3; have r4 := below_cell (Below.refl _ w6) hR6 4 rfl; have fr4 := block_frozen hR6 4; have r5 := below_cell (Below.refl _ w6) hR6 5 rfl; have fr5 := block_frozen hR6 5; have r6 := below_cell (Below.refl _ w6) hR6 6 rfl; have fr6 := block_frozen hR6 6)
      | fail)
    all_goals
      have hRZ := s7_block hR6 (.int .i64 fw) (.int .i64 fa) (.int .i64 fn) (.string fs) (.int .i64 fi) (.int .u32 fc) (.slice A6 fl.length c6)
      have hBZ := s7_below hB6 (Nat.le_refl _) (.int .i64 fw) (.int .i64 fa) (.int .i64 fn) (.string fs) (.int .i64 fi) (.int .u32 fc) (.slice A6 fl.length c6)
      have hOZ := s7_own hown6 (show w.heap.size < _ by have := HB0.out.size; first | (show w.heap.size < u.heap.size + 1 + 1; omega) | (show w.heap.size < u.drew.heap.size + 1 + 1; show w.heap.size < u.heap.size + 1 + 1; omega)) (.int .i64 fw) (.int .i64 fa) (.int .i64 fn) (.string fs) (.int .i64 fi) (.int .u32 fc) (.slice A6 fl.length c6)
      have hLZ : IsRp _ _ _ := ⟨HBD.out, _, rfl, hrow6.reads hOZ rfl hBZ⟩
      unfold s7 s5 at hRZ hBZ hLZ
      go_wp2_with fail
      go_meet
      exact ⟨rfl, A6, c6, hRZ, hBZ, hLZ⟩
  case rest =>
  obtain ⟨hsv, A6, c6, hK⟩ := hcut
  subst hsv
  have HK := Lib.hid hK
  clear HFW HR1 HR2 HB1 HB0 e0 e1 e2 e3 e4 e5 e6
  go_upto_region 2 with fail
  obtain ⟨y0, hy0⟩ : ∃ y0, y0 = wc := ⟨_, rfl⟩
  subst hy0
  have HF := Lib.hid (frReply_all ⟨fw, fa, fn, fs, fi, fc, fl⟩ _ y0 HK.out.2.2)
  have hcase : (rpOk ⟨fw, fa, fn, fs, fi, fc, fl⟩ = false ∧ rpX ⟨fw, fa, fn, fs, fi, fc, fl⟩ = 1 ∧ rpT ⟨fw, fa, fn, fs, fi, fc, fl⟩ = ⟨#[]⟩) ∨ (rpOk ⟨fw, fa, fn, fs, fi, fc, fl⟩ = true ∧ rpX ⟨fw, fa, fn, fs, fi, fc, fl⟩ = 0 ∧ rpT ⟨fw, fa, fn, fs, fi, fc, fl⟩ = rpB ⟨fw, fa, fn, fs, fi, fc, fl⟩) := by
    unfold rpX rpT
    cases rpOk ⟨fw, fa, fn, fs, fi, fc, fl⟩ with
    | false => exact .inl ⟨rfl, rfl, rfl⟩
    | true => exact .inr ⟨rfl, rfl, rfl⟩
  have HIS := Lib.hid (fun v u hu => rfIsReply ⟨fw, fa, fn, fs, fi, fc, fl⟩ v u hu)
  have HRF := Lib.hid (fun v u hu (h : rpOk ⟨fw, fa, fn, fs, fi, fc, fl⟩ = true) => rfReply ⟨fw, fa, fn, fs, fi, fc, fl⟩ v u hu h)
  generalize rpX ⟨fw, fa, fn, fs, fi, fc, fl⟩ = bE at *
  generalize rpT ⟨fw, fa, fn, fs, fi, fc, fl⟩ = bS at *
  generalize hok : rpOk ⟨fw, fa, fn, fs, fi, fc, fl⟩ = ok at *
  have HCASE := Lib.hid hcase
  have HOK := Lib.hid hok
  clear hcase hok
  have HRP := Lib.hid (fun u => frReadReply s' u z5)
  have HRQ := Lib.hid (fun u => rfReadReply s' u z5)
  unfold ReadPost at HRP HRQ
  generalize hR5 : (readR s').getD rpZ = R5 at HRP HRQ
  obtain ⟨q1, q2, q3, q4, q5, q6, ls⟩ := R5
  have hgot := few_got (s := s') (l := ls) hR5
  obtain ⟨g, hg⟩ : ∃ g : Int, (if (readR s').isSome = true then 0 else 70) = g := ⟨_, rfl⟩
  rw [hg] at HRP HRQ
  have HGOT := Lib.hid hgot
  clear hg hR5 hgot
  have conv : ∀ (u w' : World) (e : Ending), (Below u.heap.size u w' ∧ ∃ v, IsRp w' v ⟨q1, q2, q3, q4, q5, q6, ls⟩ ∧ e = .returned (.tuple #[v, .int .i64 g])) → Below u.heap.size u w' ∧ ∃ A c, e = .returned (.tuple #[.agg #[.int .i64 q1, .int .i64 q2, .int .i64 q3, .string q4, .int .i64 q5, .int .u32 q6, .slice A ls.length c], .int .i64 g]) ∧ IsRp w' (.agg #[.int .i64 q1, .int .i64 q2, .int .i64 q3, .string q4, .int .i64 q5, .int .u32 q6, .slice A ls.length c]) ⟨q1, q2, q3, q4, q5, q6, ls⟩ := by
    rintro u w' e ⟨h1, rv, ⟨hb, kk, rfl, hkl⟩, rfl⟩
    obtain ⟨A5, c5, rfl, _, _⟩ := id hkl.form
    exact ⟨h1, A5, c5, rfl, hb, _, rfl, hkl⟩
  have HRB := Lib.hid (fun u => (HRP.out u).mono (fun e w' hh => conv u w' e hh))
  have HRC := Lib.hid (fun u => (HRQ.out u).mono (fun e w' hh => conv u w' e hh))
  clear HRP HRQ conv
  have e0 := below_cell (Below.refl _ y0) HK.out.1 0 rfl
  have e1 := below_cell (Below.refl _ y0) HK.out.1 1 rfl
  have e2 := below_cell (Below.refl _ y0) HK.out.1 2 rfl
  have e3 := below_cell (Below.refl _ y0) HK.out.1 3 rfl
  have e4 := below_cell (Below.refl _ y0) HK.out.1 4 rfl
  have e5 := below_cell (Below.refl _ y0) HK.out.1 5 rfl
  have e6 := below_cell (Below.refl _ y0) HK.out.1 6 rfl
  go_upto_region 3 with (first | (go_at_call 16; refine HF.out.mono ?_; rintro e y1 ⟨rfl, hb1⟩))
  have HK1 := Lib.hid (HK.out.call hb1)
  clear e0 e1 e2 e3 e4 e5 e6 hb1 HK HF
  go_upto_region 4 with (first | (go_at_call 17; refine (HRB.out _).mono ?_; rintro e y2 ⟨hb2, A5, c5, rfl, hL2⟩))
  have HK2 := Lib.hid ((HK1.out.call hb2).alloc (.cells #[.int .i64 q1, .int .i64 q2, .int .i64 q3, .string q4, .int .i64 q5, .int .u32 q6, .slice A5 ls.length c5] 37))
  have hV := heap_alloc_new y2 (.cells #[.int .i64 q1, .int .i64 q2, .int .i64 q3, .string q4, .int .i64 q5, .int .u32 q6, .slice A5 ls.length c5] 37)
  have hL2 := hL2.below ((Below.refl _ y2).alloc (Nat.le_refl _) (.cells #[.int .i64 q1, .int .i64 q2, .int .i64 q3, .string q4, .int .i64 q5, .int .u32 q6, .slice A5 ls.length c5] 37))
  obtain ⟨V, hVV⟩ : ∃ V, y2.heap.size = V := ⟨_, rfl⟩
  obtain ⟨z2, hz⟩ : ∃ z, y2.alloc (.cells #[.int .i64 q1, .int .i64 q2, .int .i64 q3, .string q4, .int .i64 q5, .int .u32 q6, .slice A5 ls.length c5] 37) = z := ⟨_, rfl⟩
  rw [hz] at HK2 hV hL2 ⊢
  rw [hVV] at hV ⊢
  have HV2 := Lib.hid hV; have HL2 := Lib.hid hL2
  clear hz hVV hb2 HK1 HRB hV hL2
  go_upto_region 5 with (first | (go_at_call 18; refine (HRC.out _).mono ?_; rintro e y3 ⟨hb3, A7, c7, rfl, hL3⟩))
  have HK3 := Lib.hid ((HK2.out.call hb3).alloc (.cells #[.int .i64 q1, .int .i64 q2, .int .i64 q3, .string q4, .int .i64 q5, .int .u32 q6, .slice A7 ls.length c7] 37))
  have hV := heap_alloc_new y3 (.cells #[.int .i64 q1, .int .i64 q2, .int .i64 q3, .string q4, .int .i64 q5, .int .u32 q6, .slice A7 ls.length c7] 37)
  have hal := (Below.refl _ y3).alloc (Nat.le_refl _) (.cells #[.int .i64 q1, .int .i64 q2, .int .i64 q3, .string q4, .int .i64 q5, .int .u32 q6, .slice A7 ls.length c7] 37)
  have hL3 := hL3.below hal
  have hV2 := (hal.block _ (lt_of_block ((hb3.block _ (lt_of_block HV2.out)).trans HV2.out))).trans ((hb3.block _ (lt_of_block HV2.out)).trans HV2.out)
  have hL4 := (HL2.out.below hb3).below hal
  obtain ⟨U, hVV⟩ : ∃ V, y3.heap.size = V := ⟨_, rfl⟩
  obtain ⟨z3, hz⟩ : ∃ z, y3.alloc (.cells #[.int .i64 q1, .int .i64 q2, .int .i64 q3, .string q4, .int .i64 q5, .int .u32 q6, .slice A7 ls.length c7] 37) = z := ⟨_, rfl⟩
  rw [hz] at HK3 hV hL3 hV2 hL4 ⊢
  rw [hVV] at hV ⊢
  have HLK := Lib.hid (refLikeRp ⟨q1, q2, q3, q4, q5, q6, ls⟩ _ _ z3 hL4 hL3 HGOT.out.1 HGOT.out.2)
  clear hz hVV hb3 HK2 HRC hL3 hL4 hal HV2 HL2
  have d0 := below_cell (Below.refl _ z3) hV2 0 rfl
  have d1 := below_cell (Below.refl _ z3) hV2 1 rfl
  have d2 := below_cell (Below.refl _ z3) hV2 2 rfl
  have d3 := below_cell (Below.refl _ z3) hV2 3 rfl
  have d4 := below_cell (Below.refl _ z3) hV2 4 rfl
  have d5 := below_cell (Below.refl _ z3) hV2 5 rfl
  have d6 := below_cell (Below.refl _ z3) hV2 6 rfl
  have e0 := below_cell (Below.refl _ z3) hV 0 rfl
  have e1 := below_cell (Below.refl _ z3) hV 1 rfl
  have e2 := below_cell (Below.refl _ z3) hV 2 rfl
  have e3 := below_cell (Below.refl _ z3) hV 3 rfl
  have e4 := below_cell (Below.refl _ z3) hV 4 rfl
  have e5 := below_cell (Below.refl _ z3) hV 5 rfl
  have e6 := below_cell (Below.refl _ z3) hV 6 rfl
  have hgg : (g != g) = false := by simp
  clear hV hV2
  go_upto_region 7 with (first
    | (go_at_call 19; refine HLK.out.mono ?_; rintro e y4 ⟨rfl, hb4⟩)
    | (go_at_call 12; refine (HAL.out _).mono ?_; rintro e y5 ⟨rfl, hb5⟩))
  have HK5 := Lib.hid ((HK3.out.call hb4).call hb5)
  clear d0 d1 d2 d3 d4 d5 d6 e0 e1 e2 e3 e4 e5 e6 hb4 hb5 HK3 HLK hgg
  have e0 := below_cell (Below.refl _ y5) HK5.out.1 0 rfl
  have e1 := below_cell (Below.refl _ y5) HK5.out.1 1 rfl
  have e2 := below_cell (Below.refl _ y5) HK5.out.1 2 rfl
  have e3 := below_cell (Below.refl _ y5) HK5.out.1 3 rfl
  have e4 := below_cell (Below.refl _ y5) HK5.out.1 4 rfl
  have e5 := below_cell (Below.refl _ y5) HK5.out.1 5 rfl
  have e6 := below_cell (Below.refl _ y5) HK5.out.1 6 rfl
  have HI := Lib.hid (HIS.out _ y5 HK5.out.2.2)
  clear HIS
  rcases HCASE.out with ⟨rfl, rfl, rfl⟩ | ⟨rfl, rfl, rfl⟩
  · go_wp2_with (first | (go_at_call 20; refine HI.out.mono ?_; rintro e y6 ⟨rfl, hb6⟩))
    go_ret
    exact ⟨rfl, (HK5.out.call hb6).2.1⟩
  · go_upto_region 9 with (first | (go_at_call 20; refine HI.out.mono ?_; rintro e y6 ⟨rfl, hb6⟩))
    have HK6 := Lib.hid (HK5.out.call hb6)
    clear e0 e1 e2 e3 e4 e5 e6 hb6 HK5 HI
    have e0 := below_cell (Below.refl _ y6) HK6.out.1 0 rfl
    have e1 := below_cell (Below.refl _ y6) HK6.out.1 1 rfl
    have e2 := below_cell (Below.refl _ y6) HK6.out.1 2 rfl
    have e3 := below_cell (Below.refl _ y6) HK6.out.1 3 rfl
    have e4 := below_cell (Below.refl _ y6) HK6.out.1 4 rfl
    have e5 := below_cell (Below.refl _ y6) HK6.out.1 5 rfl
    have e6 := below_cell (Below.refl _ y6) HK6.out.1 6 rfl
    have HQ := Lib.hid (HRF.out _ y6 HK6.out.2.2 (by first | trivial | exact HOK.out))
    generalize rpB ⟨fw, fa, fn, fs, fi, fc, fl⟩ = B at *
    have hsq : (B.toList == B.toList) = true := by simp
    go_wp2_with (first | (go_at_call 21; refine HQ.out.mono ?_; rintro e y7 ⟨rfl, hb7⟩))
    go_ret
    exact ⟨rfl, (HK6.out.call hb7).2.1⟩
end Go.Proofs.Ytmanlogclbbgaaa.lawFrameReplies
