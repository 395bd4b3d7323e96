/- The walk of DiskOrder. -/
import Derived.Test.YtpgcemfbkoaocaaDoorDiskM
import Derived.Test.YtpgcemfbkoaocaaDoorDiskO
import Derived.Test.YtpgcemfbkoaocaaDoorRef03R
import Derived.Outline
namespace Go.Proofs.YtpgcemfbkoaocaaDoor.lawDiskOrder
open Go.RowKit
set_option linter.unusedVariables false

theorem toList_iff (x y : ByteArray) : x.toList = y.toList ↔ x = y := ⟨fun h => ByteArray.ext (Array.toList_inj.1 (by rwa [ByteArray.toList_eq, ByteArray.toList_eq] at h)), fun h => by rw [h]⟩
theorem power_disk {w : World} {sv pv x : Value} {d : Dsk} {left : Int} (h : IsPower w (.agg #[sv, pv, x]) d left) : IsDisk w (.agg #[sv, pv]) d := by
  obtain ⟨s, p, hv, h1, h2⟩ := h
  injection hv with hv
  have e1 : sv = s := by have := congrArg (fun z : Array Value => z[0]?) hv; simpa using this
  have e2 : pv = p := by have := congrArg (fun z : Array Value => z[1]?) hv; simpa using this
  rw [e1, e2]
  exact ⟨_, _, rfl, h1, h2⟩
set_option maxRecDepth 100000 in
set_option maxHeartbeats 1000000 in
theorem walk (v0 : Value) (d : Dsk) (an bn : Int) (x0 y0 : ByteArray) (w : World) (w0 : IsDisk w v0 d) (wa : (Lit.int .i64 an).wf = true) (wb : (Lit.int .i64 bn).wf = true) (wx : x0.size ≤ 9223372036854775807) (wy : y0.size ≤ 9223372036854775807) :
    Calls Tryd.prog 8 #[v0, .int .i64 an, .int .i64 bn, .string x0, .string y0] w fun e w' => e = .returned (.bool true) ∧ Below w.heap.size w w' := by
  obtain ⟨sv, pv, rfl, hs, hp⟩ := w0
  obtain ⟨a, len, cap, rfl, hl, hc1, hc2, hts⟩ := hs.take
  obtain ⟨a', len', cap', rfl, hl', hc1', hc2', htp⟩ := hp.take
  have hD : IsDisk w (.agg #[.slice a (min len 300) cap, .slice a' (min len' 40) cap']) ⟨d.secs.take (min len 300), d.pend.take (min len' 40)⟩ := ⟨_, _, rfl, hts _ (Nat.min_le_left _ _), htp _ (Nat.min_le_left _ _)⟩
  have HFEW := Lib.hid (fun u => diskFew_any a a' len cap len' cap' u hc1 hc2 hc1' hc2')
  generalize (⟨d.secs.take (min len 300), d.pend.take (min len' 40)⟩ : Dsk) = D at *
  generalize min len 300 = m at *
  have hk4 : min len' 40 ≤ 40 := Nat.min_le_right _ _
  generalize min len' 40 = k at *
  have HD := Lib.hid hD
  have hDl := strs_len hD.secs; have hDk := wrts_len hD.pend
  clear hs hp hts htp hD hl hl' hc1 hc2 hc1' hc2'
  have HR := Lib.hid (fun u hu => refDiskRight_any (.agg #[.slice a m cap, .slice a' k cap']) D u hu)
  have hwa := wf_i64 wa
  have hwb := wf_i64 wb
  clear wa wb
  have hb1 := (Below.refl w.heap.size w).alloc (Nat.le_refl _) (.cells #[.slice a len cap, .slice a' len' cap'] 25)
  have hblk := heap_alloc_new w (.cells #[.slice a len cap, .slice a' len' cap'] 25)
  go_enter Tryd.func8, Tryd.ntmps8
  go_wp2_with fail
  refine (HFEW.out _).mono ?_
  rintro e w2 ⟨rfl, hb2⟩
  have hblk2 : w2.heap[w.heap.size]? = some (.cells #[.slice a len cap, .slice a' len' cap'] 25 (0, 0)) := (hb2.block _ (by simp)).trans hblk
  have hw2 : Below w.heap.size w w2 := hb1.trans (hb2.mono hb1.size)
  have hz0 : w2.cell? ⟨w.heap.size, 0, none⟩ = some (.slice a len cap) := by rw [cell_of_row _ _ 0 _ _ _ hblk2]; rfl
  have hz1 : w2.cell? ⟨w.heap.size, 1, none⟩ = some (.slice a' len' cap') := by rw [cell_of_row _ _ 1 _ _ _ hblk2]; rfl
  have hf0 := block_frozen hblk2 0
  have hf1 := block_frozen hblk2 1
  clear hb1 hb2 hblk
  go_wp2_with fail
  have hblk3 := block_set (block_set hblk2 0 (.slice a m cap)) 1 (.slice a' k cap')
  have hw3 : Below w.heap.size w ((w2.setCell ⟨w.heap.size, 0, none⟩ (.slice a m cap)).setCell ⟨w.heap.size, 1, none⟩ (.slice a' k cap')) :=
    (hw2.setCell (p := ⟨w.heap.size, 0, none⟩) (Nat.le_refl _) _).setCell (p := ⟨w.heap.size, 1, none⟩) (Nat.le_refl _) _
  rw [show (((#[Value.slice a len cap, Value.slice a' len' cap'] : Array Value).setIfInBounds 0 (.slice a m cap)).setIfInBounds 1 (.slice a' k cap')) = #[.slice a m cap, .slice a' k cap'] from rfl] at hblk3
  clear hblk2 hw2 hz0 hz1 hf0 hf1
  generalize (w2.setCell ⟨w.heap.size, 0, none⟩ (.slice a m cap)).setCell ⟨w.heap.size, 1, none⟩ (.slice a' k cap') = w3 at *
  refine (HR.out w3 (HD.out.below hw3)).mono ?_
  rintro e w4 ⟨rfl, hb4⟩
  have hblk4 := (hb4.block _ (Array.getElem?_eq_some_iff.1 hblk3).1).trans hblk3
  have hw4 := hw3.trans (hb4.mono hw3.size)
  clear hblk3 hw3 hb4 HR
  cases hr : rightD D
  · go_wp2_with fail
    refine (diskAlive w4).mono ?_
    rintro e w5 ⟨rfl, hb5⟩
    have hw5 := hw4.trans (hb5.mono hw4.size)
    go_wp2_with fail
    go_ret
    exact ⟨rfl, hw5⟩
  · have hrl := right_len D hr
    rw [hDl] at hrl
    have x0' := below_cell (Below.refl _ w4) hblk4 0 rfl
    have x1' := below_cell (Below.refl _ w4) hblk4 1 rfl
    obtain ⟨A, hA1, hA2, hA3, hA4⟩ := rot_in an m (by omega) (by omega)
    obtain ⟨B, hB1, hB2, hB3, hB4⟩ := rot_in bn m (by omega) (by omega)
    have hm0 : (m : Int) ≠ 0 := by omega
    have hmI : (m : Int) ≤ 256 := by omega
    have hm1 : (1 : Int) ≤ m := by omega
    obtain ⟨p, hp, hp1, hp2, hp3⟩ := min_if x0.size 512 (by omega)
    obtain ⟨q, hq, hq1, hq2, hq3⟩ := min_if y0.size 512 (by omega)
    have hpp : min (x0.size : Int) 512 = p := by omega
    have hqq : min (y0.size : Int) 512 = q := by omega
    have hpI : (p : Int) ≤ x0.size := by omega
    have hqI : (q : Int) ≤ y0.size := by omega
    have hxI : (x0.size : Int) ≤ 9223372036854775807 := by omega
    have hyI : (y0.size : Int) ≤ 9223372036854775807 := by omega
    go_upto_region 5 with fail
    go_region
    clear hA1 hA3 hA4 hB1 hB3 hB4 hwa hwb
    go_upto_region 6 with fail
    go_region
    obtain ⟨X, hX⟩ : ∃ X, x0.extract 0 (min x0.size 512) = X := ⟨_, rfl⟩
    obtain ⟨Y, hY⟩ : ∃ Y, y0.extract 0 (min y0.size 512) = Y := ⟨_, rfl⟩
    rw [hX, hY]
    have hXs : X.size ≤ 512 := by rw [← hX, ByteArray.size_extract]; omega
    have hYs : Y.size ≤ 512 := by rw [← hY, ByteArray.size_extract]; omega
    have HXS := Lib.hid hXs; have HYS := Lib.hid hYs
    have hw5 : Below w.heap.size w w4.drew.drew := hw4.drew.drew
    have hblk5 : w4.drew.drew.heap[w.heap.size]? = some (.cells #[.slice a m cap, .slice a' k cap'] 25 (0, 0)) := hblk4
    obtain ⟨w5, hW5⟩ : ∃ w5, w4.drew.drew = w5 := ⟨_, rfl⟩
    rw [hW5] at hw5 hblk5 ⊢
    clear hX hY hXs hYs hW5 hblk4 hw4 x0' x1' hp hp1 hp2 hp3 hq hq1 hq2 hq3 hpp hqq hpI hqI hxI hyI wx wy
    have b0 := below_cell (Below.refl _ w5) hblk5 0 rfl
    have b1 := below_cell (Below.refl _ w5) hblk5 1 rfl
    go_wp2_with fail
    have hw6 : Below w.heap.size w (w5.alloc (.cells #[.slice a m cap, .slice a' k cap', .int .i64 (-1)] 42)) := hw5.alloc hw5.size _
    have hT12 := heap_alloc_new w5 (.cells #[.slice a m cap, .slice a' k cap', .int .i64 (-1)] 42)
    obtain ⟨w6, hW6⟩ : ∃ w6, w5.alloc (.cells #[.slice a m cap, .slice a' k cap', .int .i64 (-1)] 42) = w6 := ⟨_, rfl⟩
    rw [hW6] at hw6 hT12 ⊢
    have hlt5 := (Array.getElem?_eq_some_iff.1 hT12).1
    clear hW6 hw5 hblk5 b0 b1
    have hXt := Nat.le_trans (trimS_le X) HXS.out
    have hYt := Nat.le_trans (trimS_le Y) HYS.out
    have hXz := HXS.out; have hYz := HYS.out
    refine (diskWrite_ok _ D (-1) (A : Nat) X w6 (power_of (-1) (HD.out.below hw6)) (by omega) (by omega) (by omega) hr ⟨by omega, by omega⟩ hXt (by omega) (by omega)).mono ?_
    rintro e w7 ⟨v1, rfl, hp7, hb7⟩
    rw [show spentI (-1) = -1 from rfl] at hp7
    have hr1 := write_right D (A : Nat) X hr ⟨by omega, by omega⟩ hXt
    have hl1 : (writeD D (A : Nat) X).secs.length = m := hDl
    have hk1 : (writeD D (A : Nat) X).pend.length = k + 1 := by show (D.pend ++ [_]).length = _; rw [List.length_append, hDk]; rfl
    have ht1 := fun n => write_tells D (A : Nat) X n
    generalize writeD D (A : Nat) X = d1 at *
    obtain ⟨a1, c1, a1', c1', rfl, hd7⟩ := hp7.form
    rw [hl1, hk1] at hp7 ⊢
    have hT12b := (hb7.block _ hlt5).trans hT12
    have hw7 := hw6.trans (hb7.mono hw6.size)
    have hlt5' := Nat.lt_of_lt_of_le hlt5 hb7.size
    go_wp2_with fail
    have hw8 : Below w.heap.size w (w7.alloc (.cells #[.slice a1 m c1, .slice a1' (k + 1) c1', .int .i64 (-1)] 42)) := hw7.alloc hw7.size _
    have hp8 := hp7.below ((Below.refl _ w7).alloc (Nat.le_refl _) (.cells #[.slice a1 m c1, .slice a1' (k + 1) c1', .int .i64 (-1)] 42))
    have hT13 := heap_alloc_new w7 (.cells #[.slice a1 m c1, .slice a1' (k + 1) c1', .int .i64 (-1)] 42)
    have hT12c := (heap_alloc_old w7 (.cells #[.slice a1 m c1, .slice a1' (k + 1) c1', .int .i64 (-1)] 42) hlt5').trans hT12b
    obtain ⟨w8, hW8⟩ : ∃ w8, w7.alloc (.cells #[.slice a1 m c1, .slice a1' (k + 1) c1', .int .i64 (-1)] 42) = w8 := ⟨_, rfl⟩
    rw [hW8] at hw8 hp8 hT13 hT12c ⊢
    have hw7s := hw7.size
    clear hW8 hp7 hb7 hd7 hT12 hT12b hw7 hlt5 hw6
    refine (diskWrite_ok _ d1 (-1) (B : Nat) Y w8 hp8 (by omega) (by omega) (by omega) hr1 ⟨by omega, by omega⟩ hYt (by omega) (by omega)).mono ?_
    rintro e w9 ⟨v2, rfl, hp9, hb9⟩
    rw [show spentI (-1) = -1 from rfl] at hp9
    have hr2 := write_right d1 (B : Nat) Y hr1 ⟨by omega, by omega⟩ hYt
    have hl2 : (writeD d1 (B : Nat) Y).secs.length = m := hl1
    have hk2 : (writeD d1 (B : Nat) Y).pend.length = k + 1 + 1 := by show (d1.pend ++ [_]).length = _; rw [List.length_append, hk1]; rfl
    have ht2 := fun n => write_tells d1 (B : Nat) Y n
    generalize writeD d1 (B : Nat) Y = d2 at *
    obtain ⟨a2, c2, a2', c2', rfl, hd9⟩ := hp9.form
    rw [hl2, hk2] at hp9 ⊢
    have hT13b := (hb9.block _ (Array.getElem?_eq_some_iff.1 hT13).1).trans hT13
    have hT12d := (hb9.block _ (Array.getElem?_eq_some_iff.1 hT12c).1).trans hT12c
    have hw9 := hw8.trans (hb9.mono hw8.size)
    have z0 := below_cell (Below.refl _ w9) hT13b 0 rfl
    have z1 := below_cell (Below.refl _ w9) hT13b 1 rfl
    have z2 := below_cell (Below.refl _ w9) hT13b 2 rfl
    have f0 := block_frozen hT13b 0
    have f1 := block_frozen hT13b 1
    have f2 := block_frozen hT13b 2
    clear hp8 hb9 hd9 hT13 hT12c hw8
    go_upto_region 10 with fail
    have hne : w5.heap.size ≠ w7.heap.size := by omega
    have hT13c := set3_block hT13b (.slice a2 m c2) (.slice a2' (k + 1 + 1) c2') (.int .i64 (-1))
    have hT12e := (set3_other w9 w7.heap.size (.slice a2 m c2) (.slice a2' (k + 1 + 1) c2') (.int .i64 (-1)) _ hne).trans hT12d
    have hp10 := hp9.apart (w' := set3 w9 w7.heap.size (.slice a2 m c2) (.slice a2' (k + 1 + 1) c2') (.int .i64 (-1))) hT13b (no_text _ _ _ _ _ _ _) (by rw [set3_size]; exact Nat.le_refl _) (fun b hb => set3_other _ _ _ _ _ _ hb)
    have hw10 := set3_below hw9 hw7s (.slice a2 m c2) (.slice a2' (k + 1 + 1) c2') (.int .i64 (-1))
    obtain ⟨w10, hW10⟩ : ∃ w10, set3 w9 w7.heap.size (.slice a2 m c2) (.slice a2' (k + 1 + 1) c2') (.int .i64 (-1)) = w10 := ⟨_, rfl⟩
    rw [hW10] at hT13c hT12e hp10 hw10
    unfold set3 at hW10
    rw [hW10]
    clear hW10 hp9 hT13b hT12d hw9 z0 z1 z2 f0 f1 f2 hne
    have z0 := below_cell (Below.refl _ w10) hT12e 0 rfl
    have z1 := below_cell (Below.refl _ w10) hT12e 1 rfl
    have z2 := below_cell (Below.refl _ w10) hT12e 2 rfl
    go_wp2_with fail
    refine (diskWrite_ok _ D (-1) (B : Nat) Y w10 (power_of (-1) (HD.out.below hw10)) (by omega) (by omega) (by omega) hr ⟨by omega, by omega⟩ hYt (by omega) (by omega)).mono ?_
    rintro e w11 ⟨v3, rfl, hp11, hb11⟩
    rw [show spentI (-1) = -1 from rfl] at hp11
    have hr3 := write_right D (B : Nat) Y hr ⟨by omega, by omega⟩ hYt
    have hl3 : (writeD D (B : Nat) Y).secs.length = m := hDl
    have hk3 : (writeD D (B : Nat) Y).pend.length = k + 1 := by show (D.pend ++ [_]).length = _; rw [List.length_append, hDk]; rfl
    have ht3 := fun n => write_tells D (B : Nat) Y n
    generalize writeD D (B : Nat) Y = d3 at *
    obtain ⟨a3, c3, a3', c3', rfl, hd11⟩ := hp11.form
    rw [hl3, hk3] at hp11 ⊢
    have hT13d := (hb11.block _ (Array.getElem?_eq_some_iff.1 hT13c).1).trans hT13c
    have hw11 := hw10.trans (hb11.mono hw10.size)
    have hpp11 := hp10.below hb11
    clear z0 z1 z2 hT12e hp10 hb11 hd11 hw10 hT13c
    go_wp2_with fail
    have hw12 : Below w.heap.size w (w11.alloc (.cells #[.slice a3 m c3, .slice a3' (k + 1) c3', .int .i64 (-1)] 42)) := hw11.alloc hw11.size _
    have hal := (Below.refl _ w11).alloc (Nat.le_refl _) (.cells #[.slice a3 m c3, .slice a3' (k + 1) c3', .int .i64 (-1)] 42)
    have hp12 := hp11.below hal
    have hpp12 := hpp11.below hal
    have hT16 := heap_alloc_new w11 (.cells #[.slice a3 m c3, .slice a3' (k + 1) c3', .int .i64 (-1)] 42)
    have hT13e := (heap_alloc_old w11 (.cells #[.slice a3 m c3, .slice a3' (k + 1) c3', .int .i64 (-1)] 42) (Array.getElem?_eq_some_iff.1 hT13d).1).trans hT13d
    have hlt13 := (Array.getElem?_eq_some_iff.1 hT13d).1
    obtain ⟨w12, hW12⟩ : ∃ w12, w11.alloc (.cells #[.slice a3 m c3, .slice a3' (k + 1) c3', .int .i64 (-1)] 42) = w12 := ⟨_, rfl⟩
    rw [hW12] at hw12 hp12 hpp12 hT16 hT13e ⊢
    have hw11s := hw11.size
    clear hW12 hal hp11 hpp11 hT13d hw11
    refine (diskWrite_ok _ d3 (-1) (A : Nat) X w12 hp12 (by omega) (by omega) (by omega) hr3 ⟨by omega, by omega⟩ hXt (by omega) (by omega)).mono ?_
    rintro e w13 ⟨v4, rfl, hp13, hb13⟩
    rw [show spentI (-1) = -1 from rfl] at hp13
    have hr4 := write_right d3 (A : Nat) X hr3 ⟨by omega, by omega⟩ hXt
    have hl4 : (writeD d3 (A : Nat) X).secs.length = m := hl3
    have hk4' : (writeD d3 (A : Nat) X).pend.length = k + 1 + 1 := by show (d3.pend ++ [_]).length = _; rw [List.length_append, hk3]; rfl
    have ht4 := fun n => write_tells d3 (A : Nat) X n
    generalize writeD d3 (A : Nat) X = d4 at *
    obtain ⟨a4, c4, a4', c4', rfl, hd13⟩ := hp13.form
    rw [hl4, hk4'] at hp13 ⊢
    have hT16b := (hb13.block _ (Array.getElem?_eq_some_iff.1 hT16).1).trans hT16
    have hT13f := (hb13.block _ (Array.getElem?_eq_some_iff.1 hT13e).1).trans hT13e
    have hw13 := hw12.trans (hb13.mono hw12.size)
    have hpp13 := hpp12.below hb13
    have z0 := below_cell (Below.refl _ w13) hT16b 0 rfl
    have z1 := below_cell (Below.refl _ w13) hT16b 1 rfl
    have z2 := below_cell (Below.refl _ w13) hT16b 2 rfl
    have f0 := block_frozen hT16b 0
    have f1 := block_frozen hT16b 1
    have f2 := block_frozen hT16b 2
    clear hp12 hpp12 hb13 hd13 hT16 hT13e hw12
    go_upto_region 12 with fail
    have hne : w7.heap.size ≠ w11.heap.size := by omega
    have hT16c := set3_block hT16b (.slice a4 m c4) (.slice a4' (k + 1 + 1) c4') (.int .i64 (-1))
    have hT13g := (set3_other w13 w11.heap.size (.slice a4 m c4) (.slice a4' (k + 1 + 1) c4') (.int .i64 (-1)) _ hne).trans hT13f
    have hq14 := hp13.apart (w' := set3 w13 w11.heap.size (.slice a4 m c4) (.slice a4' (k + 1 + 1) c4') (.int .i64 (-1))) hT16b (no_text _ _ _ _ _ _ _) (by rw [set3_size]; exact Nat.le_refl _) (fun b hb => set3_other _ _ _ _ _ _ hb)
    have hp14 := hpp13.apart (w' := set3 w13 w11.heap.size (.slice a4 m c4) (.slice a4' (k + 1 + 1) c4') (.int .i64 (-1))) hT16b (no_text _ _ _ _ _ _ _) (by rw [set3_size]; exact Nat.le_refl _) (fun b hb => set3_other _ _ _ _ _ _ hb)
    have hw14 := set3_below hw13 hw11s (.slice a4 m c4) (.slice a4' (k + 1 + 1) c4') (.int .i64 (-1))
    obtain ⟨w14, hW14⟩ : ∃ w14, set3 w13 w11.heap.size (.slice a4 m c4) (.slice a4' (k + 1 + 1) c4') (.int .i64 (-1)) = w14 := ⟨_, rfl⟩
    rw [hW14] at hT16c hT13g hq14 hp14 hw14
    unfold set3 at hW14
    rw [hW14]
    clear hW14 hp13 hpp13 hT16b hT13f hw13 z0 z1 z2 f0 f1 f2 hne
    go_wp2_with fail
    refine (diskAlive w14).mono ?_
    rintro e w15 ⟨rfl, hb15⟩
    have hT16d := (hb15.block _ (Array.getElem?_eq_some_iff.1 hT16c).1).trans hT16c
    have hT13h := (hb15.block _ (Array.getElem?_eq_some_iff.1 hT13g).1).trans hT13g
    have HDP := Lib.hid (power_disk (hp14.below hb15)); have HDQ := Lib.hid (power_disk (hq14.below hb15))
    have hw15 := hw14.trans (hb15.mono hw14.size)
    have HRP := Lib.hid (fun (i : Nat) u hu => diskRead_any (.agg #[.slice a2 m c2, .slice a2' (k + 1 + 1) c2']) d2 (i : Nat) u hu (by omega))
    have HRQ := Lib.hid (fun (i : Nat) u hu => diskRead_any (.agg #[.slice a4 m c4, .slice a4' (k + 1 + 1) c4']) d4 (i : Nat) u hu (by omega))
    have HOP := Lib.hid (fun i (hi : i < m) => read_ok d2 i hr2 (by omega))
    have HOQ := Lib.hid (fun i (hi : i < m) => read_ok d4 i hr4 (by omega))
    have heq : ∀ i : Nat, A ≠ B → tells d2 i = tells d4 i := fun i h => by
      rw [ht2, ht1, ht4, ht3]
      by_cases e1 : (B : Int) = i
      · rw [if_pos e1, if_neg (by omega), if_pos e1]
      · rw [if_neg e1, if_neg e1]
    have HEQ := Lib.hid heq
    clear heq hT16c hT13g hp14 hq14 hb15 hw14 ht1 ht2 ht3 ht4 hr hr1 hr2 hr3 hr4 hXt hYt hXz hYz hl1 hl2 hl3 hl4 hk1 hk2 hk3 hk4'
    go_wp2_with fail
    go_loopw [106] (fun z wr => ∃ i : Nat, i ≤ m ∧ z = .int .i64 i ∧ Below w15.heap.size w15 wr) (fun z _ => m - (intOf z).toNat)
    case atStart => exact ⟨0, by omega, rfl, Below.refl _ _⟩
    case round =>
      obtain ⟨i, hi, rfl, hbw⟩ := hrel
      by_cases hlt : i < m
      · have hiI : (i : Int) < m := by omega
        have y0 := below_cell hbw hT13h 0 rfl
        have y1 := below_cell hbw hT13h 1 rfl
        go_wp2_with fail
        refine (HRP.out i wr (HDP.out.below hbw)).mono ?_
        obtain ⟨r1, r2⟩ := HOP.out i hlt
        rw [r1, r2]
        rintro e w16 ⟨rfl, hb16⟩
        have hbx := hbw.trans (hb16.mono hbw.size)
        have y2 := below_cell hbx hT16d 0 rfl
        have y3 := below_cell hbx hT16d 1 rfl
        clear r1 r2 y0 y1 hb16 hbw
        go_wp2_with fail
        refine (HRQ.out i w16 (HDQ.out.below hbx)).mono ?_
        obtain ⟨r1, r2⟩ := HOQ.out i hlt
        rw [r1, r2]
        rintro e w17 ⟨rfl, hb17⟩
        have hby := hbx.trans (hb17.mono hbx.size)
        have he := HEQ.out i
        generalize tells d2 i = S at *
        generalize tells d4 i = T at *
        clear r1 r2 y2 y3 hb17 hbx
        by_cases hST : S = T
        · subst hST
          clear he
          go_wp2_with fail
          go_roundw
          case rel => exact ⟨i + 1, by omega, by go_num, hby⟩
          case measure => simp [intOf]; omega
        · have hAB : A = B := Decidable.byContradiction fun h => hST (he h)
          subst hAB
          have hne := ba_tne hST
          clear he hST
          go_wp2_with fail
          go_roundw
          case rel => exact ⟨i + 1, by omega, by go_num, hby⟩
          case measure => simp [intOf]; omega
      · obtain rfl : i = m := by omega
        go_wp2_with fail
        go_ret
        exact ⟨rfl, hw15.trans (hbw.mono hw15.size)⟩
end Go.Proofs.YtpgcemfbkoaocaaDoor.lawDiskOrder
