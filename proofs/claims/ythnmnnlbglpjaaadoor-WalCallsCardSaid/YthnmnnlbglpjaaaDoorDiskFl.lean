/- A flush. -/
import Derived.Test.YthnmnnlbglpjaaaDoorDiskO
import Derived.Test.YthnmnnlbglpjaaaDoorRep
import Derived.Deep.RegionHeld3
namespace Go.Proofs.YthnmnnlbglpjaaaDoor
open Go.RowKit
set_option linter.unusedVariables false

theorem bools_form {w : World} {v : Value} {l : List Bool} (h : IsBools w v l) : ∃ a n c, v = .slice a n c ∧ IsBools w (.slice a n c) l := by
  have h2 := h
  obtain ⟨a, n, c, rfl, _⟩ := h
  exact ⟨a, n, c, rfl, h2⟩
def flushD (d : Dsk) : Dsk := crashD d (List.replicate d.pend.length true)
def nilDsk : Array Value := #[.slice none 0 0, .slice none 0 0]
theorem nilDsk_text (j : Nat) (s : ByteArray) : nilDsk[j]? ≠ some (Value.string s) := by
  match j with
  | 0 => simp [nilDsk]
  | 1 => simp [nilDsk]
  | j + 2 => simp [nilDsk]
theorem disk_set2 {w : World} {v : Value} {d : Dsk} (h : IsDisk w v d) {g : Nat} {t : TypeId} {fr : Nat × Nat} (hg : w.heap[g]? = some (.cells nilDsk t fr)) (x y : Value) : IsDisk ((w.setCell ⟨g, 0, none⟩ x).setCell ⟨g, 1, none⟩ y) v d := by
  obtain ⟨sv, pv, rfl, h1, h2⟩ := h
  have hk : ∀ b, b ≠ g → ((w.setCell ⟨g, 0, none⟩ x).setCell ⟨g, 1, none⟩ y).heap[b]? = w.heap[b]? := fun b h => (Below.heap_setCell _ _ _ _ h).trans (Below.heap_setCell _ _ _ _ h)
  exact ⟨sv, pv, rfl, h1.apart hg nilDsk_text (by simp) hk, h2.apart hg nilDsk_text (by simp) hk⟩
theorem set2_block {w : World} {g : Nat} {t : TypeId} (h : w.heap[g]? = some (.cells nilDsk t (0, 0))) (x y : Value) : ((w.setCell ⟨g, 0, none⟩ x).setCell ⟨g, 1, none⟩ y).heap[g]? = some (.cells #[x, y] t (0, 0)) :=
  block_set (block_set h 0 x) 1 y
theorem set2_below {a w : World} {B g : Nat} (h : Below B a w) (hg : B ≤ g) (x y : Value) : Below B a ((w.setCell ⟨g, 0, none⟩ x).setCell ⟨g, 1, none⟩ y) :=
  (h.setCell (p := ⟨g, 0, none⟩) hg _).setCell (p := ⟨g, 1, none⟩) hg _
theorem keepFl {w3 u : World} {g : Nat} {x y z : Value} {t : TypeId} {fr : Nat × Nat} (h : w3.heap[g]? = some (.cells #[x, y, z] t fr)) (hb : Below w3.heap.size w3 u) :
    Below w3.heap.size w3 u ∧ u.cell? ⟨g, 0, none⟩ = some x ∧ u.cell? ⟨g, 1, none⟩ = some y := ⟨hb, below_cell hb h 0 rfl, below_cell hb h 1 rfl⟩
theorem heap_new_old (w : World) (o o' : Obj) : ((w.alloc o).drew.alloc o').heap[w.heap.size]? = some o := (heap_alloc_old _ _ (by simp)).trans (heap_alloc_new w o)
theorem heap_new_two (w : World) (o o' : Obj) : ((w.alloc o).drew.alloc o').heap[w.heap.size + 1]? = some o' := by
  have := heap_alloc_new (w.alloc o).drew o'
  rwa [show (w.alloc o).drew.heap.size = w.heap.size + 1 from World.size_alloc _ _] at this
theorem keepFlA {w3 u : World} {R : Prop} (h : Below w3.heap.size w3 u ∧ R) (o : Obj) : Below w3.heap.size w3 (u.alloc o) := h.1.alloc h.1.size o
theorem keepFlC {w3 u u' : World} {R : Prop} (h : Below w3.heap.size w3 u ∧ R) (hb : Below u.heap.size u u') : Below w3.heap.size w3 u' := h.1.trans (hb.mono h.1.size)
set_option maxRecDepth 100000 in
set_option maxHeartbeats 1000000 in
theorem diskFlush_ok (v : Value) (d : Dsk) (left : Int) (w : World) (h : IsPower w v d left) (h0 : left ≠ 0) (hlo : -9223372036854775808 ≤ left) (hhi : left ≤ 9223372036854775807) (hr : rightD d = true)
    (hk4 : d.pend.length ≤ 1000) :
    Calls Tryd.prog 53 #[v] w fun e w' => ∃ v', e = .returned (.tuple #[v', .int .i64 0]) ∧ IsPower w' v' (flushD d) (spentI left) ∧ Below w.heap.size w w' := by
  have HRY := Lib.hid (fun u hu => diskReady_ok v d left u hu h0 hr)
  have hE : rightE d = 0 := by unfold rightE; rw [hr]; rfl
  obtain ⟨a, cap, a', cap', rfl, hd⟩ := h.form
  have hp := h
  have HC := Lib.hid (fun kv u hu hk => diskCrash_any (.agg #[.slice a d.secs.length cap, .slice a' d.pend.length cap']) kv d (List.replicate d.pend.length true) u hu hk)
  rw [hE] at HC
  have hfl : crashD d (List.replicate d.pend.length true) = flushD d := rfl
  rw [hfl] at HC
  have HD := Lib.hid hd; have HP := Lib.hid hp
  have HSP := Lib.hid (fun u => diskSpent_any left u hlo hhi)
  have hc1 : d.secs.length ≤ cap ∧ cap ≤ 9223372036854775807 ∧ d.pend.length ≤ cap' ∧ cap' ≤ 9223372036854775807 := by
    obtain ⟨_, _, e, ⟨_, _, _, e1, _, h1, h2, _⟩, ⟨_, _, _, e2, _, h3, h4, _⟩⟩ := hd
    injection e with e
    have f1 := congrArg (fun z : Array Value => z[0]?) e
    have f2 := congrArg (fun z : Array Value => z[1]?) e
    simp at f1 f2
    subst f1 f2
    injection e1 with _ g1 g2
    injection e2 with _ g3 g4
    omega
  generalize d.secs.length = m at *
  generalize d.pend.length = k at *
  have hkI : (k : Int) ≤ 1000 := by omega
  clear hd hp h hr h0 hE hfl
  go_enter Tryd.func53, Tryd.ntmps53
  go_wp2_with fail
  have hb2 : Below w.heap.size w ((w.alloc (.cells #[.slice a m cap, .slice a' k cap', .int .i64 left] 27)).alloc (.cells #[.slice none 0 0, .slice none 0 0, .int .i64 0] 27)) := ((Below.refl w.heap.size w).alloc (Nat.le_refl _) _).alloc (by simp) _
  have hA : ((w.alloc (.cells #[.slice a m cap, .slice a' k cap', .int .i64 left] 27)).alloc (.cells #[.slice none 0 0, .slice none 0 0, .int .i64 0] 27)).heap[w.heap.size]? = some (.cells #[.slice a m cap, .slice a' k cap', .int .i64 left] 27 (0, 0)) := (Below.heap_alloc _ _ _ (by simp)).trans (heap_alloc_new w _)
  have hB : ((w.alloc (.cells #[.slice a m cap, .slice a' k cap', .int .i64 left] 27)).alloc (.cells #[.slice none 0 0, .slice none 0 0, .int .i64 0] 27)).heap[w.heap.size + 1]? = some (.cells #[.slice none 0 0, .slice none 0 0, .int .i64 0] 27 (0, 0)) := by
    have := heap_alloc_new (w.alloc (.cells #[.slice a m cap, .slice a' k cap', .int .i64 left] 27)) (.cells #[.slice none 0 0, .slice none 0 0, .int .i64 0] 27)
    rwa [World.size_alloc] at this
  obtain ⟨w2, hW2⟩ : ∃ w2, ((w.alloc (.cells #[.slice a m cap, .slice a' k cap', .int .i64 left] 27)).alloc (.cells #[.slice none 0 0, .slice none 0 0, .int .i64 0] 27)) = w2 := ⟨_, rfl⟩
  rw [hW2] at hb2 hA hB ⊢
  clear hW2
  refine (HRY.out w2 (HP.out.below hb2)).mono ?_
  rintro e w3 ⟨rfl, hb3⟩
  have hA3 := (hb3.block _ (Array.getElem?_eq_some_iff.1 hA).1).trans hA
  have hB3 := (hb3.block _ (Array.getElem?_eq_some_iff.1 hB).1).trans hB
  have hw3 := hb2.trans (hb3.mono hb2.size)
  have x0 := below_cell (Below.refl _ w3) hA3 0 rfl
  have x1 := below_cell (Below.refl _ w3) hA3 1 rfl
  have x0' := fun o : Obj => (World.cell?_of_block (a := ⟨w.heap.size, 0, none⟩) (Below.heap_alloc w3 o w.heap.size (Array.getElem?_eq_some_iff.1 hA3).1)).trans x0
  have x1' := fun o : Obj => (World.cell?_of_block (a := ⟨w.heap.size, 1, none⟩) (Below.heap_alloc w3 o w.heap.size (Array.getElem?_eq_some_iff.1 hA3).1)).trans x1
  clear hb2 hA hB hb3 HRY
  go_upto_region 4 with fail
  go_cut [5] (fun pv wx => ∃ g p n pc p' n' pc', pv = .pointer (some ⟨g, 0, none⟩) ∧ wx.heap[g]? = some (.cells #[.slice p n pc, .slice p' n' pc'] 25 (0, 0)) ∧ w3.heap.size ≤ g ∧ IsDisk wx (.agg #[.slice p n pc, .slice p' n' pc']) (flushD d) ∧ Below w3.heap.size w3 wx)
  case first =>
    have HA3 := Lib.hid hA3; have HB3 := Lib.hid hB3; have HW3 := Lib.hid hw3
    have HDK := Lib.hid (fun u (R : Prop) (h : Below w3.heap.size w3 u ∧ R) => HD.out.below (hw3.trans (h.1.mono hw3.size)))
    clear hA3 hB3 hw3 x0 x1 x0' x1'
    go_region_held3 (fun u => Below w3.heap.size w3 u ∧ u.cell? ⟨w.heap.size, 0, none⟩ = some (.slice a m cap) ∧ u.cell? ⟨w.heap.size, 1, none⟩ = some (.slice a' k cap'))
      ((refine keepFl HA3.out ?_; first | assumption | exact Below.alloc (by assumption) (Below.size (by assumption)) _ | exact (Below.setCell (Below.setCell (by assumption) (by first | (simp; done) | (simp; omega) | (dsimp only; omega)) _) (by first | (simp; done) | (simp; omega) | (dsimp only; omega)) _) | exact (Below.refl _ _).drew | exact keepFlA (by assumption) _ | exact keepFlC (by assumption) (by assumption)))
      (first
      | (go_at_call 71; refine (repeat_any k _ _ ?_ hk4).mono ?_; (first | exact heap_alloc_new _ _ | exact heap_new_old _ _ _ | exact heap_new_two _ _ _); rintro e w4 ⟨kv, rfl, hbl, hb4⟩; obtain ⟨ka, kn, kc, rfl, hbl'⟩ := bools_form hbl; have hz4 := Below.size (keepFlC (by assumption) hb4); (first | have hT4 := (hb4.block _ (by first | (simp; done) | (simp; omega) | (dsimp only; omega))).trans (heap_new_two w3 (.cells #[.bool true] 4) (.cells #[.slice none 0 0, .slice none 0 0] 25)) | have hT4 := (hb4.block _ (by first | (simp; done) | (simp; omega) | (dsimp only; omega))).trans (heap_new_old w3 (.cells #[.slice none 0 0, .slice none 0 0] 25) (.cells #[.bool true] 4)) | skip))
      | (go_at_call 70; refine (HC.out _ _ (HDK.out _ _ (by assumption)) ?_).mono ?_; (first | exact hbl' | exact hbl'.below ((Below.refl _ _).alloc (Nat.le_refl _) _)); rintro e w5 ⟨dv, he5, hd5, hb5⟩; obtain ⟨p, pc, p', pc', rfl, _⟩ := hd5.form; subst he5; have hw5 := keepFlC (by assumption) hb5; (first | (have hT5 := (hb5.block _ (Array.getElem?_eq_some_iff.1 hT4).1).trans hT4; have t0 := below_cell (Below.refl _ w5) hT5 0 rfl; have t1 := below_cell (Below.refl _ w5) hT5 1 rfl; have tf0 := block_frozen hT5 0; have tf1 := block_frozen hT5 1) | (have hT5 := (hb5.block _ (by first | (simp; done) | (simp; omega) | (dsimp only; omega))).trans (heap_alloc_new w4 (.cells #[.slice none 0 0, .slice none 0 0] 25)); have t0 := below_cell (Below.refl _ w5) hT5 0 rfl; have t1 := below_cell (Below.refl _ w5) hT5 1 rfl; have tf0 := block_frozen hT5 0; have tf1 := block_frozen hT5 1) | skip)))
    all_goals
      go_wp2_with fail
      go_meet
    · exact ⟨_, _, _, _, _, _, _, rfl, heap_alloc_new w5 _, hw5.size, hd5.below ((Below.refl _ w5).alloc (Nat.le_refl _) _), hw5.alloc hw5.size _⟩
    · exact ⟨_, _, _, _, _, _, _, rfl, set2_block hT5 _ _, hz4, disk_set2 hd5 hT5 _ _, set2_below hw5 hz4 _ _⟩
    · exact ⟨_, _, _, _, _, _, _, rfl, set2_block hT5 _ _, by omega, disk_set2 hd5 hT5 _ _, set2_below hw5 (by omega) _ _⟩
    · exact ⟨_, _, _, _, _, _, _, rfl, set2_block hT5 _ _, by omega, disk_set2 hd5 hT5 _ _, set2_below hw5 (by omega) _ _⟩
  case rest =>
  obtain ⟨g, p, n, pc, p', n', pc', rfl, hT, hg, hd5, hw5⟩ := hcut
  have hA6 := (hw5.block _ (Array.getElem?_eq_some_iff.1 hA3).1).trans hA3
  have hB6 := (hw5.block _ (Array.getElem?_eq_some_iff.1 hB3).1).trans hB3
  have hlB := (Array.getElem?_eq_some_iff.1 hB3).1
  have hw6 := hw3.trans (hw5.mono hw3.size)
  have y0 := below_cell (Below.refl _ wc) hT 0 rfl
  have y1 := below_cell (Below.refl _ wc) hT 1 rfl
  have z2 := below_cell (Below.refl _ wc) hA6 2 rfl
  have e0 := below_cell (Below.refl _ wc) hB6 0 rfl
  have e1 := below_cell (Below.refl _ wc) hB6 1 rfl
  have e2 := below_cell (Below.refl _ wc) hB6 2 rfl
  have f0 := block_frozen hB6 0
  have f1 := block_frozen hB6 1
  have f2 := block_frozen hB6 2
  obtain ⟨sl, hsl⟩ : ∃ sl, spentI left = sl := ⟨_, rfl⟩
  rw [hsl] at HSP
  have HSL := Lib.hid hsl
  have hset := set3_block hB6 (.slice p n pc) (.slice p' n' pc') (.int .i64 sl)
  have hp6 : IsPower wc (.agg #[.slice p n pc, .slice p' n' pc', .int .i64 sl]) (flushD d) sl := power_of sl hd5
  have hp7 := hp6.apart hB6 (no_text _ _ _ _ _ _ _) (Nat.le_of_eq (set3_size wc (w.heap.size + 1) (.slice p n pc) (.slice p' n' pc') (.int .i64 sl)).symm) (set3_other wc (w.heap.size + 1) (.slice p n pc) (.slice p' n' pc') (.int .i64 sl))
  have hw7 := set3_below hw6 (show w.heap.size ≤ w.heap.size + 1 by omega) (.slice p n pc) (.slice p' n' pc') (.int .i64 sl)
  have HSET := Lib.hid hset; have HP7 := Lib.hid hp7; have HW7 := Lib.hid hw7
  clear hsl hset hp6 hp7 hw7 hA3 hB3 hw3 x0 x1 x0' x1' hw5 hd5 hT hA6 hB6 hlB hw6 HC HD HP hg
  unfold set3 at HSET HP7 HW7
  go_wp2_with fail
  go_region_with (go_at_call 69; refine (HSP.out _).mono ?_; rintro e w' ⟨rfl, rfl⟩)
  all_goals
    go_wp2_with fail
    refine bodyPost_ret (results_row_tmp rfl _ _ (w.heap.size + 1) _ _ _ _ rfl HSET.out Tryd.underlying27 rfl (by kernel_rfl)) rfl ⟨.agg #[.slice p n pc, .slice p' n' pc', .int .i64 sl], by first | (simp; rfl) | (simp [Act.put]; done), by rw [HSL.out]; exact HP7.out, HW7.out.drew⟩
end Go.Proofs.YthnmnnlbglpjaaaDoor
