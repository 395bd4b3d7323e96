/- The walk of SlotReads. -/
import Derived.Test.YtmhondkomcmmoaaDoorSlotA
import Derived.Outline
namespace Go.Proofs.YtmhondkomcmmoaaDoor.lawSlotReads
open Go.RowKit
set_option linter.unusedVariables false

set_option maxRecDepth 100000 in
set_option maxHeartbeats 1000000 in
theorem walk (s0 : ByteArray) (w : World) (ws : s0.size ≤ 9223372036854775807) :
    Calls Tryd.prog 4 #[.string s0] w fun e w' => e = .returned (.bool true) ∧ Below w.heap.size w w' := by
  obtain ⟨p, hp, hp1, hp2, hp3⟩ := min_if s0.size 700 (by omega)
  have hpp : min (s0.size : Int) 700 = p := by omega
  have hpI : (p : Int) ≤ s0.size := by omega
  have hxI : (s0.size : Int) ≤ 9223372036854775807 := by omega
  go_enter Tryd.func4, Tryd.ntmps4
  go_upto_region 2 with fail
  obtain ⟨s, hs⟩ : ∃ s, s0.extract 0 (min s0.size 700) = s := ⟨_, rfl⟩
  rw [hs]
  have hsz : s.size ≤ 2000 := by rw [← hs, ByteArray.size_extract]; omega
  clear hs hp hp1 hp2 hp3 hpp hpI hxI ws
  have HRS := Lib.hid (fun u => slotReadSuper_any s u hsz)
  have HRS' := Lib.hid (fun u => ref4ReadSuper_any s u hsz)
  have HRH := Lib.hid (fun u => slotReadHead_any s u hsz)
  have HRH' := Lib.hid (fun u => ref4ReadHead_any s u hsz)
  have HRC := Lib.hid (fun u => slotReadCommit_any s u hsz)
  have HRC' := Lib.hid (fun u => ref4ReadCommit_any s u hsz)
  clear hsz
  generalize superV s = a at *
  generalize superE s = e1 at *
  generalize headV s = h at *
  generalize headE s = e2 at *
  generalize commitV s = c1 at *
  generalize commitW s = c2 at *
  generalize commitE s = e3 at *
  go_wp2_with fail
  refine (HRS.out _).mono ?_
  rintro e w1 ⟨rfl, hw1⟩
  go_upto_region 3 with fail
  have hB1 := heap_alloc_new w1 (.cells #[.int .i64 a] 30)
  have hw2 := hw1.alloc hw1.size (.cells #[.int .i64 a] 30)
  obtain ⟨w2, hW⟩ : ∃ w2, w1.alloc (.cells #[.int .i64 a] 30) = w2 := ⟨_, rfl⟩
  rw [hW] at hB1 hw2 ⊢
  clear hW hw1 HRS
  go_wp2_with fail
  refine (HRS'.out _).mono ?_
  rintro e w3 ⟨rfl, hb3⟩
  have hB1' := (hb3.block _ (Array.getElem?_eq_some_iff.1 hB1).1).trans hB1
  have hw3 := hw2.trans (hb3.mono hw2.size)
  clear hB1 hw2 hb3 HRS'
  go_upto_region 4 with fail
  have hal := (Below.refl _ w3).alloc (Nat.le_refl _) (.cells #[.int .i64 a] 30)
  have hB2 := heap_alloc_new w3 (.cells #[.int .i64 a] 30)
  have hB1 := (hal.block _ (Array.getElem?_eq_some_iff.1 hB1').1).trans hB1'
  have hw4 := hw3.alloc hw3.size (.cells #[.int .i64 a] 30)
  obtain ⟨w4, hW⟩ : ∃ w4, w3.alloc (.cells #[.int .i64 a] 30) = w4 := ⟨_, rfl⟩
  rw [hW] at hB1 hB2 hw4 ⊢
  clear hW hw3 hB1' hal
  go_wp2_with fail
  refine (HRH.out _).mono ?_
  rintro e w5 ⟨v5, rfl, hh5, hb5⟩
  have hh5' := hh5
  obtain ⟨tv, rfl, ta, tn, tc, rfl, _⟩ := hh5'
  have hB1' := (hb5.block _ (Array.getElem?_eq_some_iff.1 hB1).1).trans hB1
  have hB2' := (hb5.block _ (Array.getElem?_eq_some_iff.1 hB2).1).trans hB2
  have hw5 := hw4.trans (hb5.mono hw4.size)
  clear hB1 hB2 hw4 hb5 HRH
  go_upto_region 5 with fail
  have hal := (Below.refl _ w5).alloc (Nat.le_refl _) (.cells #[.int .i64 h.epoch, .int .i64 h.seq, .slice ta tn tc] 24)
  have hB3 := heap_alloc_new w5 (.cells #[.int .i64 h.epoch, .int .i64 h.seq, .slice ta tn tc] 24)
  have hB1 := (hal.block _ (Array.getElem?_eq_some_iff.1 hB1').1).trans hB1'
  have hB2 := (hal.block _ (Array.getElem?_eq_some_iff.1 hB2').1).trans hB2'
  have hh6 := hh5.below hal
  have hw6 := hw5.alloc hw5.size (.cells #[.int .i64 h.epoch, .int .i64 h.seq, .slice ta tn tc] 24)
  obtain ⟨w6, hW⟩ : ∃ w6, w5.alloc (.cells #[.int .i64 h.epoch, .int .i64 h.seq, .slice ta tn tc] 24) = w6 := ⟨_, rfl⟩
  rw [hW] at hB1 hB2 hB3 hw6 hh6 ⊢
  clear hW hw5 hB1' hB2' hal hh5
  go_wp2_with fail
  refine (HRH'.out _).mono ?_
  rintro e w7 ⟨v7, rfl, hh7, hb7⟩
  have hh7' := hh7
  obtain ⟨tv', rfl, ta', tn', tc', rfl, _⟩ := hh7'
  have hB1' := (hb7.block _ (Array.getElem?_eq_some_iff.1 hB1).1).trans hB1
  have hB2' := (hb7.block _ (Array.getElem?_eq_some_iff.1 hB2).1).trans hB2
  have hB3' := (hb7.block _ (Array.getElem?_eq_some_iff.1 hB3).1).trans hB3
  have hh6' := hh6.below hb7
  have hw7 := hw6.trans (hb7.mono hw6.size)
  clear hB1 hB2 hB3 hw6 hb7 HRH' hh6
  go_upto_region 6 with fail
  have hal := (Below.refl _ w7).alloc (Nat.le_refl _) (.cells #[.int .i64 h.epoch, .int .i64 h.seq, .slice ta' tn' tc'] 24)
  have hB4 := heap_alloc_new w7 (.cells #[.int .i64 h.epoch, .int .i64 h.seq, .slice ta' tn' tc'] 24)
  have hB1 := (hal.block _ (Array.getElem?_eq_some_iff.1 hB1').1).trans hB1'
  have hB2 := (hal.block _ (Array.getElem?_eq_some_iff.1 hB2').1).trans hB2'
  have hB3 := (hal.block _ (Array.getElem?_eq_some_iff.1 hB3').1).trans hB3'
  have hh8 := hh6'.below hal
  have hk8 := hh7.below hal
  have hw8 := hw7.alloc hw7.size (.cells #[.int .i64 h.epoch, .int .i64 h.seq, .slice ta' tn' tc'] 24)
  obtain ⟨w8, hW⟩ : ∃ w8, w7.alloc (.cells #[.int .i64 h.epoch, .int .i64 h.seq, .slice ta' tn' tc'] 24) = w8 := ⟨_, rfl⟩
  rw [hW] at hB1 hB2 hB3 hB4 hw8 hh8 hk8 ⊢
  clear hW hw7 hB1' hB2' hB3' hal hh6' hh7
  go_wp2_with fail
  refine (HRC.out _).mono ?_
  rintro e w9 ⟨rfl, hb9⟩
  go_wp2_with fail
  refine (HRC'.out _).mono ?_
  rintro e w10 ⟨rfl, hb10⟩
  go_wp2_with fail
  refine (slotAlive _).mono ?_
  rintro e w11 ⟨rfl, hb11⟩
  have hbb := hb9.trans ((hb10.trans (hb11.mono hb10.size)).mono hb9.size)
  have hB1' := (hbb.block _ (Array.getElem?_eq_some_iff.1 hB1).1).trans hB1
  have hB2' := (hbb.block _ (Array.getElem?_eq_some_iff.1 hB2).1).trans hB2
  have hB3' := (hbb.block _ (Array.getElem?_eq_some_iff.1 hB3).1).trans hB3
  have hB4' := (hbb.block _ (Array.getElem?_eq_some_iff.1 hB4).1).trans hB4
  have hh11 := hh8.below hbb
  have hk11 := hk8.below hbb
  have hw11 := hw8.trans (hbb.mono hw8.size)
  have a0 := below_cell (Below.refl _ w11) hB1' 0 rfl
  have b0 := below_cell (Below.refl _ w11) hB2' 0 rfl
  have x0 := below_cell (Below.refl _ w11) hB3' 0 rfl
  have x1 := below_cell (Below.refl _ w11) hB3' 1 rfl
  have x2 := below_cell (Below.refl _ w11) hB3' 2 rfl
  have y0 := below_cell (Below.refl _ w11) hB4' 0 rfl
  have y1 := below_cell (Below.refl _ w11) hB4' 1 rfl
  have y2 := below_cell (Below.refl _ w11) hB4' 2 rfl
  clear hb9 hb10 hb11 hbb hB1 hB2 hB3 hB4 hB1' hB2' hB3' hB4' hh8 hk8 hw8 HRC HRC'
  go_wp2_with fail
  refine (ref4LikeHead_any _ _ h h w11 hh11 hk11).mono ?_
  rw [decide_eq_true (rfl : h = h)]
  rintro e w12 ⟨rfl, hb12⟩
  go_wp2_with fail
  go_ret
  exact ⟨rfl, hw11.trans (hb12.mono hw11.size)⟩
end Go.Proofs.YtmhondkomcmmoaaDoor.lawSlotReads
