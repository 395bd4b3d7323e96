/- The walk of DiskCalls. -/
import Derived.Test.YtabkpoolhcpihaaDoorDiskAny
import Derived.Test.YtabkpoolhcpihaaDoorPower
import Derived.Outline
namespace Go.Proofs.YtabkpoolhcpihaaDoor.lawDiskCalls
open Go.RowKit
set_option linter.unusedVariables false

set_option maxRecDepth 100000 in
set_option maxHeartbeats 1000000 in
theorem walk (v0 : Value) (d : Dsk × Int) (sn : Int) (x0 : ByteArray) (w : World) (w0 : IsPower w v0 d.1 d.2 ∧ -9223372036854775808 ≤ d.2 ∧ d.2 ≤ 9223372036854775807) (ws : (Lit.int .i64 sn).wf = true) (wx : x0.size ≤ 9223372036854775807) :
    Calls Tryd.prog 4 #[v0, .int .i64 sn, .string x0] w fun e w' => e = .returned (.bool true) ∧ Below w.heap.size w w' := by
  obtain ⟨d, left⟩ := d
  obtain ⟨⟨sv, pv, rfl, hs, hp⟩, hlo, hhi⟩ := w0
  obtain ⟨a, len, cap, rfl, hl, hc1, hc2, hts⟩ := hs.take
  obtain ⟨a', len', cap', rfl, hl', hc1', hc2', htp⟩ := hp.take
  have hD : IsPower w (.agg #[.slice a (min len 300) cap, .slice a' (min len' 40) cap', .int .i64 left]) ⟨d.secs.take (min len 300), d.pend.take (min len' 40)⟩ left := ⟨_, _, rfl, hts _ (Nat.min_le_left _ _), htp _ (Nat.min_le_left _ _)⟩
  have HFEW := Lib.hid (fun u => diskFew_any a a' len cap len' cap' u hc1 hc2 hc1' hc2')
  generalize (⟨d.secs.take (min len 300), d.pend.take (min len' 40)⟩ : Dsk) = D at *
  generalize min len 300 = m at *
  have hk4 : min len' 40 ≤ 40 := Nat.min_le_right _ _
  generalize min len' 40 = k at *
  have HD := Lib.hid hD
  have hDk : D.pend.length ≤ 1000 := by obtain ⟨_, _, e, _, h2⟩ := hD; injection e with e; have f2 := congrArg (fun z : Array Value => z[1]?) e; simp at f2; subst f2; have := wrts_len h2; omega
  clear hs hp hts htp hD hl hl' hc1 hc2 hc1' hc2'
  have hwf := wf_i64 ws
  clear ws
  have hlo' : -9223372036854775808 ≤ left := hlo
  have hhi' : left ≤ 9223372036854775807 := hhi
  clear hlo hhi
  have hb1 := (Below.refl w.heap.size w).alloc (Nat.le_refl _) (.cells #[.slice a len cap, .slice a' len' cap', .int .i64 left] 31)
  have hblk := heap_alloc_new w (.cells #[.slice a len cap, .slice a' len' cap', .int .i64 left] 31)
  obtain ⟨p, hp, hp1, hp2, hp3⟩ := min_if x0.size 700 (by omega)
  have hpp : min (x0.size : Int) 700 = p := by omega
  have hpI : (p : Int) ≤ x0.size := by omega
  have hxI : (x0.size : Int) ≤ 9223372036854775807 := by omega
  go_enter Tryd.func4, Tryd.ntmps4
  go_wp2_with fail
  refine (HFEW.out _).mono ?_
  rintro e w2 ⟨rfl, hb2⟩
  have hblk2 := (hb2.block _ (by simp)).trans hblk
  have hw2 : Below w.heap.size w w2 := hb1.trans (hb2.mono hb1.size)
  have z0 := below_cell (Below.refl _ w2) hblk2 0 rfl
  have z1 := below_cell (Below.refl _ w2) hblk2 1 rfl
  have f0 := block_frozen hblk2 0
  have f1 := block_frozen hblk2 1
  clear hb1 hb2 hblk
  go_upto_region 2 with fail
  have hblk3 := block_set (block_set hblk2 0 (.slice a m cap)) 1 (.slice a' k cap')
  have hw3 : Below w.heap.size w ((w2.setCell ⟨w.heap.size, 0, none⟩ (.slice a m cap)).setCell ⟨w.heap.size, 1, none⟩ (.slice a' k cap')) :=
    (hw2.setCell (p := ⟨w.heap.size, 0, none⟩) (Nat.le_refl _) _).setCell (p := ⟨w.heap.size, 1, none⟩) (Nat.le_refl _) _
  rw [show (((#[Value.slice a len cap, Value.slice a' len' cap', .int .i64 left] : Array Value).setIfInBounds 0 (.slice a m cap)).setIfInBounds 1 (.slice a' k cap')) = #[.slice a m cap, .slice a' k cap', .int .i64 left] from rfl] at hblk3
  clear hblk2 hw2 z0 z1 f0 f1
  generalize (w2.setCell ⟨w.heap.size, 0, none⟩ (.slice a m cap)).setCell ⟨w.heap.size, 1, none⟩ (.slice a' k cap') = w3 at *
  go_upto_region 3 with fail
  obtain ⟨X, hX⟩ : ∃ X, x0.extract 0 (min x0.size 700) = X := ⟨_, rfl⟩
  rw [hX]
  have hXs : X.size ≤ 9223372036854775807 := by rw [← hX, ByteArray.size_extract]; omega
  clear hX hp hp1 hp2 hp3 hpp hpI hxI wx
  have x0 := below_cell (Below.refl _ w3) hblk3 0 rfl
  have x1 := below_cell (Below.refl _ w3) hblk3 1 rfl
  have x2 := below_cell (Below.refl _ w3) hblk3 2 rfl
  have HD3 := HD.out.below hw3
  go_wp2_with fail
  refine (diskWrite_any _ D left sn X w3 HD3 hlo' hhi' hXs hDk).mono ?_
  rintro e w4 ⟨u1, rfl, hq1, hb⟩
  obtain ⟨b1, bc1, b1', bc1', rfl, _⟩ := hq1.form
  generalize (wrO D left sn X).dsk.secs.length = n1 at *
  generalize (wrO D left sn X).dsk.pend.length = m1 at *
  have hal := hb.trans (((Below.refl _ w4).alloc (Nat.le_refl _) (.cells #[.slice b1 n1 bc1, .slice b1' m1 bc1', .int .i64 (wrO D left sn X).left] 31)).mono hb.size)
  have hqb1 := hq1.below ((Below.refl _ w4).alloc (Nat.le_refl _) (.cells #[.slice b1 n1 bc1, .slice b1' m1 bc1', .int .i64 (wrO D left sn X).left] 31))
  have hR1 := heap_alloc_new w4 (.cells #[.slice b1 n1 bc1, .slice b1' m1 bc1', .int .i64 (wrO D left sn X).left] 31)
  have hblk5 := (hal.block _ (Array.getElem?_eq_some_iff.1 hblk3).1).trans hblk3
  have hw5 := hw3.trans (hal.mono hw3.size)
  clear hq1 x0 x1 x2 hb
  go_upto_region 4 with fail
  obtain ⟨w5, hW⟩ : ∃ w5, w4.alloc (.cells #[.slice b1 n1 bc1, .slice b1' m1 bc1', .int .i64 (wrO D left sn X).left] 31) = w5 := ⟨_, rfl⟩
  rw [hW] at hblk5 hw5 hqb1 hR1 hal ⊢
  clear hW
  have x0 := below_cell (Below.refl _ w5) hblk5 0 rfl
  have x1 := below_cell (Below.refl _ w5) hblk5 1 rfl
  have x2 := below_cell (Below.refl _ w5) hblk5 2 rfl
  have HD5 := HD.out.below hw5
  clear hblk3 hal
  go_wp2_with fail
  refine (diskFlush_any _ D left w5 HD5 hlo' hhi' hDk).mono ?_
  rintro e w6 ⟨u2, rfl, hq2, hb⟩
  obtain ⟨b2, bc2, b2', bc2', rfl, _⟩ := hq2.form
  generalize (flO D left).dsk.secs.length = n2 at *
  generalize (flO D left).dsk.pend.length = m2 at *
  have hal := hb.trans (((Below.refl _ w6).alloc (Nat.le_refl _) (.cells #[.slice b2 n2 bc2, .slice b2' m2 bc2', .int .i64 (flO D left).left] 31)).mono hb.size)
  have hqb2 := hq2.below ((Below.refl _ w6).alloc (Nat.le_refl _) (.cells #[.slice b2 n2 bc2, .slice b2' m2 bc2', .int .i64 (flO D left).left] 31))
  have hR2 := heap_alloc_new w6 (.cells #[.slice b2 n2 bc2, .slice b2' m2 bc2', .int .i64 (flO D left).left] 31)
  have hblk7 := (hal.block _ (Array.getElem?_eq_some_iff.1 hblk5).1).trans hblk5
  have hw7 := hw5.trans (hal.mono hw5.size)
  have hR1 := (hal.block _ (Array.getElem?_eq_some_iff.1 hR1).1).trans hR1
  have hqb1 := hqb1.below hal
  clear hq2 x0 x1 x2 hb
  go_upto_region 5 with fail
  obtain ⟨w7, hW⟩ : ∃ w7, w6.alloc (.cells #[.slice b2 n2 bc2, .slice b2' m2 bc2', .int .i64 (flO D left).left] 31) = w7 := ⟨_, rfl⟩
  rw [hW] at hblk7 hw7 hqb2 hR2 hal hR1 hqb1 ⊢
  clear hW
  have x0 := below_cell (Below.refl _ w7) hblk7 0 rfl
  have x1 := below_cell (Below.refl _ w7) hblk7 1 rfl
  have x2 := below_cell (Below.refl _ w7) hblk7 2 rfl
  have HD7 := HD.out.below hw7
  clear hblk5 hal
  obtain ⟨s1, hs1, hs2, hs3, hs4⟩ : ∃ s1 : Int, max sn 0 = s1 ∧ 0 ≤ s1 ∧ (0 ≤ sn → s1 = sn) ∧ (sn < 0 → s1 = 0) := ⟨_, rfl, by omega, by omega, by omega⟩
  have hs5 : (if sn < 0 then 0 else sn) = s1 := by split <;> omega
  go_wp2_with fail
  refine (refDo_any _ D left s1 X w7 HD7 hlo' hhi' hXs hDk hs2).mono ?_
  rintro e w8 ⟨u3, rfl, hq3, hb⟩
  obtain ⟨b3, bc3, b3', bc3', rfl, _⟩ := hq3.form
  generalize (wrO D left s1 X).dsk.secs.length = n3 at *
  generalize (wrO D left s1 X).dsk.pend.length = m3 at *
  have hal := hb.trans (((Below.refl _ w8).alloc (Nat.le_refl _) (.cells #[.slice b3 n3 bc3, .slice b3' m3 bc3', .int .i64 (wrO D left s1 X).left] 31)).mono hb.size)
  have hqb3 := hq3.below ((Below.refl _ w8).alloc (Nat.le_refl _) (.cells #[.slice b3 n3 bc3, .slice b3' m3 bc3', .int .i64 (wrO D left s1 X).left] 31))
  have hR3 := heap_alloc_new w8 (.cells #[.slice b3 n3 bc3, .slice b3' m3 bc3', .int .i64 (wrO D left s1 X).left] 31)
  have hblk9 := (hal.block _ (Array.getElem?_eq_some_iff.1 hblk7).1).trans hblk7
  have hw9 := hw7.trans (hal.mono hw7.size)
  have hR1 := (hal.block _ (Array.getElem?_eq_some_iff.1 hR1).1).trans hR1
  have hqb1 := hqb1.below hal
  have hR2 := (hal.block _ (Array.getElem?_eq_some_iff.1 hR2).1).trans hR2
  have hqb2 := hqb2.below hal
  clear hq3 x0 x1 x2 hb
  go_upto_region 6 with fail
  obtain ⟨w9, hW⟩ : ∃ w9, w8.alloc (.cells #[.slice b3 n3 bc3, .slice b3' m3 bc3', .int .i64 (wrO D left s1 X).left] 31) = w9 := ⟨_, rfl⟩
  rw [hW] at hblk9 hw9 hqb3 hR3 hal hR1 hqb1 hR2 hqb2 ⊢
  clear hW
  have x0 := below_cell (Below.refl _ w9) hblk9 0 rfl
  have x1 := below_cell (Below.refl _ w9) hblk9 1 rfl
  have x2 := below_cell (Below.refl _ w9) hblk9 2 rfl
  have HD9 := HD.out.below hw9
  clear hblk7 hal
  go_wp2_with fail
  refine (refDo_neg _ D left (-1) ⟨#[]⟩ w9 HD9 hlo' hhi' (by simp [ByteArray.size]) (by omega)).mono ?_
  rintro e w10 ⟨u4, rfl, hq4, hb⟩
  obtain ⟨b4, bc4, b4', bc4', rfl, _⟩ := hq4.form
  generalize (flO D left).dsk.secs.length = n4 at *
  generalize (flO D left).dsk.pend.length = m4 at *
  have hal := hb.trans (((Below.refl _ w10).alloc (Nat.le_refl _) (.cells #[.slice b4 n4 bc4, .slice b4' m4 bc4', .int .i64 (flO D left).left] 31)).mono hb.size)
  have hqb4 := hq4.below ((Below.refl _ w10).alloc (Nat.le_refl _) (.cells #[.slice b4 n4 bc4, .slice b4' m4 bc4', .int .i64 (flO D left).left] 31))
  have hR4 := heap_alloc_new w10 (.cells #[.slice b4 n4 bc4, .slice b4' m4 bc4', .int .i64 (flO D left).left] 31)
  have hblk11 := (hal.block _ (Array.getElem?_eq_some_iff.1 hblk9).1).trans hblk9
  have hw11 := hw9.trans (hal.mono hw9.size)
  have hR1 := (hal.block _ (Array.getElem?_eq_some_iff.1 hR1).1).trans hR1
  have hqb1 := hqb1.below hal
  have hR2 := (hal.block _ (Array.getElem?_eq_some_iff.1 hR2).1).trans hR2
  have hqb2 := hqb2.below hal
  have hR3 := (hal.block _ (Array.getElem?_eq_some_iff.1 hR3).1).trans hR3
  have hqb3 := hqb3.below hal
  clear hq4 x0 x1 x2 hb
  go_upto_region 7 with fail
  obtain ⟨w11, hW⟩ : ∃ w11, w10.alloc (.cells #[.slice b4 n4 bc4, .slice b4' m4 bc4', .int .i64 (flO D left).left] 31) = w11 := ⟨_, rfl⟩
  rw [hW] at hblk11 hw11 hqb4 hR4 hal hR1 hqb1 hR2 hqb2 hR3 hqb3 ⊢
  clear hW
  have x0 := below_cell (Below.refl _ w11) hblk11 0 rfl
  have x1 := below_cell (Below.refl _ w11) hblk11 1 rfl
  have x2 := below_cell (Below.refl _ w11) hblk11 2 rfl
  have HD11 := HD.out.below hw11
  clear hblk9 hal
  have y0 := below_cell (Below.refl _ w11) hR2 0 rfl
  have y1 := below_cell (Below.refl _ w11) hR2 1 rfl
  have y2 := below_cell (Below.refl _ w11) hR2 2 rfl
  have z0 := below_cell (Below.refl _ w11) hR4 0 rfl
  have z1 := below_cell (Below.refl _ w11) hR4 1 rfl
  have z2 := below_cell (Below.refl _ w11) hR4 2 rfl
  clear x0 x1 x2
  go_upto_region 7 with fail
  go_wp2_with fail
  refine (refLikePower_any _ _ _ _ _ _ w11 hqb2 hqb4).mono ?_
  rw [decide_eq_true (show (flO D left).left = (flO D left).left ∧ (flO D left).dsk = (flO D left).dsk from ⟨rfl, rfl⟩)]
  rintro e w12 ⟨rfl, hb⟩
  clear y0 y1 y2 z0 z1 z2
  go_wp2_with fail
  refine (diskAlive w12).mono ?_
  rintro e w13 ⟨rfl, hb'⟩
  have hbb := hb.trans (hb'.mono hb.size)
  have hR1' := (hbb.block _ (Array.getElem?_eq_some_iff.1 hR1).1).trans hR1
  have hR3' := (hbb.block _ (Array.getElem?_eq_some_iff.1 hR3).1).trans hR3
  have hblk13 := (hbb.block _ (Array.getElem?_eq_some_iff.1 hblk11).1).trans hblk11
  have hw13 := hw11.trans (hbb.mono hw11.size)
  have hq1' := hqb1.below hbb
  have hq3' := hqb3.below hbb
  have HD13 := HD.out.below hw13
  clear hR1 hR2 hR3 hR4 hblk11 hw11 hqb1 hqb2 hqb3 hqb4 hb hb' hbb
  have y0 := below_cell (Below.refl _ w13) hR1' 0 rfl
  have y1 := below_cell (Below.refl _ w13) hR1' 1 rfl
  have y2 := below_cell (Below.refl _ w13) hR1' 2 rfl
  have z0 := below_cell (Below.refl _ w13) hR3' 0 rfl
  have z1 := below_cell (Below.refl _ w13) hR3' 1 rfl
  have z2 := below_cell (Below.refl _ w13) hR3' 2 rfl
  have x0 := below_cell (Below.refl _ w13) hblk13 0 rfl
  have x1 := below_cell (Below.refl _ w13) hblk13 1 rfl
  have x2 := below_cell (Below.refl _ w13) hblk13 2 rfl
  by_cases hsn : sn < 0
  · obtain rfl : s1 = 0 := hs4 hsn
    obtain ⟨g1, g2, g3⟩ := wrO_neg D left sn X hsn
    rw [g1, g2] at hq1'
    rw [g2] at y0 y1 y2
    clear g1 g2
    generalize wrO D left sn X = O1 at *
    generalize wrO D left 0 X = O3 at *
    generalize hc1 : O1.code = c1 at *
    generalize hc3 : O3.code = c3 at *
    clear hs1 hs2 hs3 hs4 hs5 hc1 hc3
    rcases g3 with ⟨_, rfl, g4, g5⟩ | ⟨rfl, rfl | rfl⟩
    · have g4' : (c3 == 21) = false := by rw [beq_eq_false_iff_ne]; exact g4
      have g5' : (c3 == 1) = false := by rw [beq_eq_false_iff_ne]; exact g5
      go_wp2_with fail
      refine (refLikePower_any _ _ _ _ _ _ w13 hq1' HD13).mono ?_
      rw [decide_eq_true (show left = left ∧ D = D from ⟨rfl, rfl⟩)]
      rintro e w14 ⟨rfl, hb⟩
      go_wp2_with fail
      go_ret
      exact ⟨rfl, hw13.trans (hb.mono hw13.size)⟩
    · go_wp2_with fail
      refine (refLikePower_any _ _ _ _ _ _ w13 hq1' HD13).mono ?_
      rw [decide_eq_true (show left = left ∧ D = D from ⟨rfl, rfl⟩)]
      rintro e w14 ⟨rfl, hb⟩
      go_wp2_with fail
      go_ret
      exact ⟨rfl, hw13.trans (hb.mono hw13.size)⟩
    · go_wp2_with fail
      refine (refLikePower_any _ _ _ _ _ _ w13 hq1' HD13).mono ?_
      rw [decide_eq_true (show left = left ∧ D = D from ⟨rfl, rfl⟩)]
      rintro e w14 ⟨rfl, hb⟩
      go_wp2_with fail
      go_ret
      exact ⟨rfl, hw13.trans (hb.mono hw13.size)⟩
  · obtain rfl : s1 = sn := hs3 (by omega)
    clear hs1 hs3 hs4 hs5
    go_wp2_with fail
    refine (refLikePower_any _ _ _ _ _ _ w13 hq1' hq3').mono ?_
    rw [decide_eq_true (show (wrO D left s1 X).left = (wrO D left s1 X).left ∧ (wrO D left s1 X).dsk = (wrO D left s1 X).dsk from ⟨rfl, rfl⟩)]
    rintro e w14 ⟨rfl, hb⟩
    go_wp2_with fail
    go_ret
    exact ⟨rfl, hw13.trans (hb.mono hw13.size)⟩
end Go.Proofs.YtabkpoolhcpihaaDoor.lawDiskCalls
