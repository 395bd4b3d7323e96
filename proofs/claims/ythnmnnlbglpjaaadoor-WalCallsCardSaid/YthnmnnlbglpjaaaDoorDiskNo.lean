/- Calls that are refused. -/
import Derived.Test.YthnmnnlbglpjaaaDoorDiskFl
namespace Go.Proofs.YthnmnnlbglpjaaaDoor
open Go.RowKit
set_option linter.unusedVariables false

def readyE (d : Dsk) (left : Int) : Int := if left = 0 then 21 else if rightD d = true then 0 else 1
set_option maxRecDepth 100000 in
theorem diskReady_any (v : Value) (d : Dsk) (left : Int) (w : World) (h : IsPower w v d left) :
    Calls Tryd.prog 67 #[v] w fun e w' => e = .returned (.int .i64 (readyE d left)) ∧ Below w.heap.size w w' := by
  by_cases h0 : left = 0
  · subst h0
    rw [show readyE d 0 = 21 from rfl]
    obtain ⟨sv, pv, rfl, hs, hp⟩ := h
    have hd : IsDisk w (.agg #[sv, pv]) d := ⟨_, _, rfl, hs, hp⟩
    obtain ⟨a, cap, a', cap', hv, hc1, hc2, hc1', hc2'⟩ := hd.form
    injection hv with hv
    obtain rfl : sv = .slice a d.secs.length cap := by have := congrArg (fun z : Array Value => z[0]?) hv; simpa using this
    obtain rfl : pv = .slice a' d.pend.length cap' := by have := congrArg (fun z : Array Value => z[1]?) hv; simpa using this
    generalize d.secs.length = m at *
    generalize d.pend.length = k at *
    clear hs hp hd hv
    go_enter Tryd.func67, Tryd.ntmps67
    go_wp2_with fail
    go_ret
    exact ⟨rfl, (Below.refl w.heap.size w).alloc (Nat.le_refl _) _⟩
  · by_cases hr : rightD d = true
    · rw [show readyE d left = 0 by unfold readyE; rw [if_neg h0, if_pos hr]]
      exact diskReady_ok v d left w h h0 hr
    · rw [show readyE d left = 1 by unfold readyE; rw [if_neg h0, if_neg hr]]
      have hr : rightD d = false := by cases h : rightD d with | true => exact absurd h hr | false => rfl
      obtain ⟨sv, pv, rfl, hs, hp⟩ := h
      have hd : IsDisk w (.agg #[sv, pv]) d := ⟨_, _, rfl, hs, hp⟩
      obtain ⟨a, cap, a', cap', hv, hc1, hc2, hc1', hc2'⟩ := hd.form
      injection hv with hv
      obtain rfl : sv = .slice a d.secs.length cap := by have := congrArg (fun z : Array Value => z[0]?) hv; simpa using this
      obtain rfl : pv = .slice a' d.pend.length cap' := by have := congrArg (fun z : Array Value => z[1]?) hv; simpa using this
      have HR := Lib.hid (fun u hu => diskRight_any (.agg #[.slice a d.secs.length cap, .slice a' d.pend.length cap']) d u hu)
      rw [hr] at HR
      have HD := Lib.hid hd
      generalize d.secs.length = m at *
      generalize d.pend.length = k at *
      clear hs hp hd hv hr
      go_enter Tryd.func67, Tryd.ntmps67
      go_wp2_with fail
      have hb1 := (Below.refl w.heap.size w).alloc (Nat.le_refl _) (.cells #[.slice a m cap, .slice a' k cap', .int .i64 left] 27)
      refine (HR.out _ (HD.out.below hb1)).mono ?_
      rintro e w2 ⟨rfl, hb2⟩
      have hw2 := hb1.trans (hb2.mono hb1.size)
      clear hb1 hb2
      go_wp2_with fail
      go_ret
      exact ⟨rfl, hw2⟩
set_option maxRecDepth 100000 in
set_option maxHeartbeats 1000000 in
theorem diskFlush_no (v : Value) (d : Dsk) (left : Int) (w : World) (h : IsPower w v d left) (h0 : readyE d left ≠ 0) :
    Calls Tryd.prog 53 #[v] w fun e w' => e = .returned (.tuple #[v, .int .i64 (readyE d left)]) ∧ Below w.heap.size w w' := by
  have HRY := Lib.hid (fun u hu => diskReady_any v d left u hu)
  obtain ⟨a, cap, a', cap', rfl, hd⟩ := h.form
  have HP := Lib.hid h
  generalize readyE d left = c at *
  generalize d.secs.length = m at *
  generalize d.pend.length = k at *
  have h0' : (c == 0) = false := by rw [beq_eq_false_iff_ne]; exact h0
  clear h hd
  go_enter Tryd.func53, Tryd.ntmps53
  go_wp2_with fail
  have hb2 : Below w.heap.size w ((w.alloc (.cells #[.slice a m cap, .slice a' k cap', .int .i64 left] 27)).alloc (.cells #[.slice none 0 0, .slice none 0 0, .int .i64 0] 27)) := ((Below.refl w.heap.size w).alloc (Nat.le_refl _) _).alloc (by simp) _
  have hA : ((w.alloc (.cells #[.slice a m cap, .slice a' k cap', .int .i64 left] 27)).alloc (.cells #[.slice none 0 0, .slice none 0 0, .int .i64 0] 27)).heap[w.heap.size]? = some (.cells #[.slice a m cap, .slice a' k cap', .int .i64 left] 27 (0, 0)) := (Below.heap_alloc _ _ _ (by simp)).trans (heap_alloc_new w _)
  have hB : ((w.alloc (.cells #[.slice a m cap, .slice a' k cap', .int .i64 left] 27)).alloc (.cells #[.slice none 0 0, .slice none 0 0, .int .i64 0] 27)).heap[w.heap.size + 1]? = some (.cells #[.slice none 0 0, .slice none 0 0, .int .i64 0] 27 (0, 0)) := by
    have := heap_alloc_new (w.alloc (.cells #[.slice a m cap, .slice a' k cap', .int .i64 left] 27)) (.cells #[.slice none 0 0, .slice none 0 0, .int .i64 0] 27)
    rwa [World.size_alloc] at this
  obtain ⟨w2, hW2⟩ : ∃ w2, ((w.alloc (.cells #[.slice a m cap, .slice a' k cap', .int .i64 left] 27)).alloc (.cells #[.slice none 0 0, .slice none 0 0, .int .i64 0] 27)) = w2 := ⟨_, rfl⟩
  rw [hW2] at hb2 hA hB ⊢
  clear hW2
  refine (HRY.out w2 (HP.out.below hb2)).mono ?_
  rintro e w3 ⟨rfl, hb3⟩
  have hA3 := (hb3.block _ (Array.getElem?_eq_some_iff.1 hA).1).trans hA
  have hB3 := (hb3.block _ (Array.getElem?_eq_some_iff.1 hB).1).trans hB
  have hw3 := hb2.trans (hb3.mono hb2.size)
  have x0 := below_cell (Below.refl _ w3) hA3 0 rfl
  have x1 := below_cell (Below.refl _ w3) hA3 1 rfl
  have x2 := below_cell (Below.refl _ w3) hA3 2 rfl
  have e0 := below_cell (Below.refl _ w3) hB3 0 rfl
  have e1 := below_cell (Below.refl _ w3) hB3 1 rfl
  have e2 := below_cell (Below.refl _ w3) hB3 2 rfl
  have f0 := block_frozen hB3 0
  have f1 := block_frozen hB3 1
  have f2 := block_frozen hB3 2
  have hset := set3_block hB3 (.slice a m cap) (.slice a' k cap') (.int .i64 left)
  have hw7 := set3_below hw3 (show w.heap.size ≤ w.heap.size + 1 by omega) (.slice a m cap) (.slice a' k cap') (.int .i64 left)
  have HSET := Lib.hid hset; have HW7 := Lib.hid hw7
  clear hb2 hA hB hb3 HRY hset hw7 hA3 hB3 hw3 HP
  unfold set3 at HSET HW7
  go_wp2_with fail
  refine bodyPost_ret (results_row_tmp rfl _ _ (w.heap.size + 1) _ _ _ _ rfl HSET.out Tryd.underlying27 rfl (by kernel_rfl)) rfl ⟨by first | (simp; rfl) | (simp; done), HW7.out⟩
set_option maxRecDepth 100000 in
set_option maxHeartbeats 1000000 in
theorem diskWrite_no (v : Value) (d : Dsk) (left s c : Int) (x : ByteArray) (w : World) (h : IsPower w v d left) (hxs : x.size ≤ 9223372036854775807)
    (hc : (readyE d left ≠ 0 ∧ c = readyE d left) ∨ (readyE d left = 0 ∧ ¬ (0 ≤ s ∧ s < d.secs.length) ∧ c = 20) ∨ (readyE d left = 0 ∧ (0 ≤ s ∧ s < d.secs.length) ∧ 512 < (trimS x).size ∧ c = 2)) :
    Calls Tryd.prog 52 #[v, .int .i64 s, .string x] w fun e w' => e = .returned (.tuple #[v, .int .i64 c]) ∧ Below w.heap.size w w' := by
  have HRY := Lib.hid (fun u hu => diskReady_any v d left u hu)
  obtain ⟨a, cap, a', cap', rfl, hd⟩ := h.form
  have HH := Lib.hid (fun u hu => diskHas_any (.agg #[.slice a d.secs.length cap, .slice a' d.pend.length cap']) d s u hu)
  have HT := Lib.hid (fun u => leTrim_any x u hxs)
  have HP := Lib.hid h; have HD := Lib.hid hd
  have hxs2 : (trimS x).size ≤ 9223372036854775807 := Nat.le_trans (trimS_le x) hxs
  generalize readyE d left = r at *
  generalize d.secs.length = m at *
  generalize d.pend.length = k at *
  generalize trimS x = X at *
  have hxI : (X.size : Int) ≤ 9223372036854775807 := by omega
  clear h hd hxs2
  go_enter Tryd.func52, Tryd.ntmps52
  go_wp2_with fail
  have hb2 : Below w.heap.size w ((w.alloc (.cells #[.slice a m cap, .slice a' k cap', .int .i64 left] 27)).alloc (.cells #[.slice none 0 0, .slice none 0 0, .int .i64 0] 27)) := ((Below.refl w.heap.size w).alloc (Nat.le_refl _) _).alloc (by simp) _
  have hA : ((w.alloc (.cells #[.slice a m cap, .slice a' k cap', .int .i64 left] 27)).alloc (.cells #[.slice none 0 0, .slice none 0 0, .int .i64 0] 27)).heap[w.heap.size]? = some (.cells #[.slice a m cap, .slice a' k cap', .int .i64 left] 27 (0, 0)) := (Below.heap_alloc _ _ _ (by simp)).trans (heap_alloc_new w _)
  have hB : ((w.alloc (.cells #[.slice a m cap, .slice a' k cap', .int .i64 left] 27)).alloc (.cells #[.slice none 0 0, .slice none 0 0, .int .i64 0] 27)).heap[w.heap.size + 1]? = some (.cells #[.slice none 0 0, .slice none 0 0, .int .i64 0] 27 (0, 0)) := by
    have := heap_alloc_new (w.alloc (.cells #[.slice a m cap, .slice a' k cap', .int .i64 left] 27)) (.cells #[.slice none 0 0, .slice none 0 0, .int .i64 0] 27)
    rwa [World.size_alloc] at this
  obtain ⟨w2, hW2⟩ : ∃ w2, ((w.alloc (.cells #[.slice a m cap, .slice a' k cap', .int .i64 left] 27)).alloc (.cells #[.slice none 0 0, .slice none 0 0, .int .i64 0] 27)) = w2 := ⟨_, rfl⟩
  rw [hW2] at hb2 hA hB ⊢
  clear hW2
  refine (HRY.out w2 (HP.out.below hb2)).mono ?_
  rintro e w3 ⟨rfl, hb3⟩
  have hA3 := (hb3.block _ (Array.getElem?_eq_some_iff.1 hA).1).trans hA
  have hB3 := (hb3.block _ (Array.getElem?_eq_some_iff.1 hB).1).trans hB
  have hw3 := hb2.trans (hb3.mono hb2.size)
  clear hb2 hA hB hb3 HRY
  by_cases hr : r = 0
  · subst hr
    have hc' : (¬ (0 ≤ s ∧ s < m) ∧ c = 20) ∨ ((0 ≤ s ∧ s < m) ∧ 512 < X.size ∧ c = 2) := by
      rcases hc with h | h | h
      · exact absurd rfl h.1
      · exact .inl h.2
      · exact .inr h.2
    clear hc
    have x0 := below_cell (Below.refl _ w3) hA3 0 rfl
    have x1 := below_cell (Below.refl _ w3) hA3 1 rfl
    go_wp2_with fail
    refine (HH.out w3 (HD.out.below hw3)).mono ?_
    rintro e w4 ⟨rfl, hb4⟩
    have hA4 := (hb4.block _ (Array.getElem?_eq_some_iff.1 hA3).1).trans hA3
    have hB4 := (hb4.block _ (Array.getElem?_eq_some_iff.1 hB3).1).trans hB3
    have hw4 := hw3.trans (hb4.mono hw3.size)
    clear x0 x1 HH hA3 hB3 hw3 hb4
    rcases hc' with ⟨hn, rfl⟩ | ⟨hn, hX, rfl⟩
    · rw [decide_eq_false hn]
      clear hn HT
      have x0 := below_cell (Below.refl _ w4) hA4 0 rfl
      have x1 := below_cell (Below.refl _ w4) hA4 1 rfl
      have x2 := below_cell (Below.refl _ w4) hA4 2 rfl
      have e0 := below_cell (Below.refl _ w4) hB4 0 rfl
      have e1 := below_cell (Below.refl _ w4) hB4 1 rfl
      have e2 := below_cell (Below.refl _ w4) hB4 2 rfl
      have f0 := block_frozen hB4 0
      have f1 := block_frozen hB4 1
      have f2 := block_frozen hB4 2
      have hset := set3_block hB4 (.slice a m cap) (.slice a' k cap') (.int .i64 left)
      have hw7 := set3_below hw4 (show w.heap.size ≤ w.heap.size + 1 by omega) (.slice a m cap) (.slice a' k cap') (.int .i64 left)
      have HSET := Lib.hid hset; have HW7 := Lib.hid hw7
      clear hset hw7 hA4 hB4 hw4
      unfold set3 at HSET HW7
      go_wp2_with fail
      refine bodyPost_ret (results_row_tmp rfl _ _ (w.heap.size + 1) _ _ _ _ rfl HSET.out Tryd.underlying27 rfl (by kernel_rfl)) rfl ⟨by first | (simp; rfl) | (simp; done), HW7.out⟩
    · rw [decide_eq_true hn]
      have hXI : (512 : Int) < X.size := by omega
      clear hn
      go_wp2_with fail
      refine (HT.out w4).mono ?_
      rintro e w5 ⟨rfl, rfl⟩
      clear HT
      have x0 := below_cell (Below.refl _ w4) hA4 0 rfl
      have x1 := below_cell (Below.refl _ w4) hA4 1 rfl
      have x2 := below_cell (Below.refl _ w4) hA4 2 rfl
      have e0 := below_cell (Below.refl _ w4) hB4 0 rfl
      have e1 := below_cell (Below.refl _ w4) hB4 1 rfl
      have e2 := below_cell (Below.refl _ w4) hB4 2 rfl
      have f0 := block_frozen hB4 0
      have f1 := block_frozen hB4 1
      have f2 := block_frozen hB4 2
      have hset := set3_block hB4 (.slice a m cap) (.slice a' k cap') (.int .i64 left)
      have hw7 := set3_below hw4 (show w.heap.size ≤ w.heap.size + 1 by omega) (.slice a m cap) (.slice a' k cap') (.int .i64 left)
      have HSET := Lib.hid hset; have HW7 := Lib.hid hw7
      clear hset hw7 hA4 hB4 hw4
      unfold set3 at HSET HW7
      go_wp2_with fail
      refine bodyPost_ret (results_row_tmp rfl _ _ (w.heap.size + 1) _ _ _ _ rfl HSET.out Tryd.underlying27 rfl (by kernel_rfl)) rfl ⟨by first | (simp; rfl) | (simp; done), HW7.out⟩
  · have hc' : c = r := by
      rcases hc with h | h | h
      · exact h.2
      · exact absurd h.1 hr
      · exact absurd h.1 hr
    subst hc'
    have hr' : (c == 0) = false := by rw [beq_eq_false_iff_ne]; exact hr
    clear hc HH HT HP HD hr
    have x0 := below_cell (Below.refl _ w3) hA3 0 rfl
    have x1 := below_cell (Below.refl _ w3) hA3 1 rfl
    have x2 := below_cell (Below.refl _ w3) hA3 2 rfl
    have e0 := below_cell (Below.refl _ w3) hB3 0 rfl
    have e1 := below_cell (Below.refl _ w3) hB3 1 rfl
    have e2 := below_cell (Below.refl _ w3) hB3 2 rfl
    have f0 := block_frozen hB3 0
    have f1 := block_frozen hB3 1
    have f2 := block_frozen hB3 2
    have hset := set3_block hB3 (.slice a m cap) (.slice a' k cap') (.int .i64 left)
    have hw7 := set3_below hw3 (show w.heap.size ≤ w.heap.size + 1 by omega) (.slice a m cap) (.slice a' k cap') (.int .i64 left)
    have HSET := Lib.hid hset; have HW7 := Lib.hid hw7
    clear hset hw7 hA3 hB3 hw3
    unfold set3 at HSET HW7
    go_wp2_with fail
    refine bodyPost_ret (results_row_tmp rfl _ _ (w.heap.size + 1) _ _ _ _ rfl HSET.out Tryd.underlying27 rfl (by kernel_rfl)) rfl ⟨by first | (simp; rfl) | (simp; done), HW7.out⟩
end Go.Proofs.YthnmnnlbglpjaaaDoor
