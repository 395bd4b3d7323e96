/- The walk of DiskTells. -/
import Derived.Test.YtabkpoolhcpihaaDoorDiskM
import Derived.Test.YtabkpoolhcpihaaDoorDiskO
import Derived.Test.YtabkpoolhcpihaaDoorDiskFl
import Derived.Test.YtabkpoolhcpihaaDoorRef03R
import Derived.Outline
namespace Go.Proofs.YtabkpoolhcpihaaDoor.lawDiskTells
open Go.RowKit
set_option linter.unusedVariables false

theorem toList_iff (x y : ByteArray) : x.toList = y.toList ↔ x = y := ⟨fun h => ByteArray.ext (Array.toList_inj.1 (by rwa [ByteArray.toList_eq, ByteArray.toList_eq] at h)), fun h => by rw [h]⟩
theorem power_disk {w : World} {sv pv x : Value} {d : Dsk} {left : Int} (h : IsPower w (.agg #[sv, pv, x]) d left) : IsDisk w (.agg #[sv, pv]) d := by
  obtain ⟨s, p, hv, h1, h2⟩ := h
  injection hv with hv
  have e1 : sv = s := by have := congrArg (fun z : Array Value => z[0]?) hv; simpa using this
  have e2 : pv = p := by have := congrArg (fun z : Array Value => z[1]?) hv; simpa using this
  rw [e1, e2]
  exact ⟨_, _, rfl, h1, h2⟩
theorem flush_tells (d : Dsk) (n : Nat) (h : rightD d = true) : tells (flushD d) n = tells d n := by
  rw [tells_same (flushD d) n (crash_pend d _ h)]
  unfold flushD
  rw [crash_eq d _ h]
  show (crashL d _ _).getD n ⟨#[]⟩ = tellsL d n d.pend.length
  exact crashL_all d _ h n _ (Nat.le_refl _) (fun i hi => by simp [List.getD_eq_getElem?_getD, hi])
set_option maxRecDepth 100000 in
set_option maxHeartbeats 1000000 in
theorem walk (v0 : Value) (d : Dsk) (an : Int) (x0 : ByteArray) (v1 : Value) (l1 : List Bool) (w : World) (w0 : IsDisk w v0 d) (wa : (Lit.int .i64 an).wf = true) (wx : x0.size ≤ 9223372036854775807) (w1 : IsBools w v1 l1) :
    Calls Tryd.prog 3 #[v0, .int .i64 an, .string x0, v1] w fun e w' => e = .returned (.bool true) ∧ Below w.heap.size w w' := by
  obtain ⟨sv, pv, rfl, hs, hp⟩ := w0
  obtain ⟨a, len, cap, rfl, hl, hc1, hc2, hts⟩ := hs.take
  obtain ⟨a', len', cap', rfl, hl', hc1', hc2', htp⟩ := hp.take
  have hD : IsDisk w (.agg #[.slice a (min len 300) cap, .slice a' (min len' 40) cap']) ⟨d.secs.take (min len 300), d.pend.take (min len' 40)⟩ := ⟨_, _, rfl, hts _ (Nat.min_le_left _ _), htp _ (Nat.min_le_left _ _)⟩
  have HFEW := Lib.hid (fun u => diskFew_any a a' len cap len' cap' u hc1 hc2 hc1' hc2')
  generalize (⟨d.secs.take (min len 300), d.pend.take (min len' 40)⟩ : Dsk) = D at *
  generalize min len 300 = m at *
  have hk4 : min len' 40 ≤ 40 := Nat.min_le_right _ _
  generalize min len' 40 = k at *
  have HD := Lib.hid hD
  have hDl := strs_len hD.secs; have hDk := wrts_len hD.pend
  clear hs hp hts htp hD hl hl' hc1 hc2 hc1' hc2'
  have HR := Lib.hid (fun u hu => refDiskRight_any (.agg #[.slice a m cap, .slice a' k cap']) D u hu)
  have hwa := wf_i64 wa
  have H1 := Lib.hid w1
  clear wa w1
  have hb1 := (Below.refl w.heap.size w).alloc (Nat.le_refl _) (.cells #[.slice a len cap, .slice a' len' cap'] 25)
  have hblk := heap_alloc_new w (.cells #[.slice a len cap, .slice a' len' cap'] 25)
  go_enter Tryd.func3, Tryd.ntmps3
  go_wp2_with fail
  refine (HFEW.out _).mono ?_
  rintro e w2 ⟨rfl, hb2⟩
  have hblk2 : w2.heap[w.heap.size]? = some (.cells #[.slice a len cap, .slice a' len' cap'] 25 (0, 0)) := (hb2.block _ (by simp)).trans hblk
  have hw2 : Below w.heap.size w w2 := hb1.trans (hb2.mono hb1.size)
  have hz0 : w2.cell? ⟨w.heap.size, 0, none⟩ = some (.slice a len cap) := by rw [cell_of_row _ _ 0 _ _ _ hblk2]; rfl
  have hz1 : w2.cell? ⟨w.heap.size, 1, none⟩ = some (.slice a' len' cap') := by rw [cell_of_row _ _ 1 _ _ _ hblk2]; rfl
  have hf0 := block_frozen hblk2 0
  have hf1 := block_frozen hblk2 1
  clear hb1 hb2 hblk
  go_wp2_with fail
  have hblk3 := block_set (block_set hblk2 0 (.slice a m cap)) 1 (.slice a' k cap')
  have hw3 : Below w.heap.size w ((w2.setCell ⟨w.heap.size, 0, none⟩ (.slice a m cap)).setCell ⟨w.heap.size, 1, none⟩ (.slice a' k cap')) :=
    (hw2.setCell (p := ⟨w.heap.size, 0, none⟩) (Nat.le_refl _) _).setCell (p := ⟨w.heap.size, 1, none⟩) (Nat.le_refl _) _
  rw [show (((#[Value.slice a len cap, Value.slice a' len' cap'] : Array Value).setIfInBounds 0 (.slice a m cap)).setIfInBounds 1 (.slice a' k cap')) = #[.slice a m cap, .slice a' k cap'] from rfl] at hblk3
  clear hblk2 hw2 hz0 hz1 hf0 hf1
  generalize (w2.setCell ⟨w.heap.size, 0, none⟩ (.slice a m cap)).setCell ⟨w.heap.size, 1, none⟩ (.slice a' k cap') = w3 at *
  refine (HR.out w3 (HD.out.below hw3)).mono ?_
  rintro e w4 ⟨rfl, hb4⟩
  have hblk4 := (hb4.block _ (Array.getElem?_eq_some_iff.1 hblk3).1).trans hblk3
  have hw4 := hw3.trans (hb4.mono hw3.size)
  clear hblk3 hw3 hb4 HR
  cases hr : rightD D
  · go_wp2_with fail
    refine (diskAlive w4).mono ?_
    rintro e w5 ⟨rfl, hb5⟩
    have hw5 := hw4.trans (hb5.mono hw4.size)
    go_wp2_with fail
    go_ret
    exact ⟨rfl, hw5⟩
  · have hrl := right_len D hr
    rw [hDl] at hrl
    have x0' := below_cell (Below.refl _ w4) hblk4 0 rfl
    have x1' := below_cell (Below.refl _ w4) hblk4 1 rfl
    obtain ⟨A, hA1, hA2, hA3, hA4⟩ := rot_in an m (by omega) (by omega)
    have hm0 : (m : Int) ≠ 0 := by omega
    have hmI : (m : Int) ≤ 256 := by omega
    have hm1 : (1 : Int) ≤ m := by omega
    obtain ⟨p, hp, hp1, hp2, hp3⟩ := min_if x0.size 512 (by omega)
    have hpp : min (x0.size : Int) 512 = p := by omega
    have hpI : (p : Int) ≤ x0.size := by omega
    have hxI : (x0.size : Int) ≤ 9223372036854775807 := by omega
    go_upto_region 7 with fail
    obtain ⟨X, hX⟩ : ∃ X, x0.extract 0 (min x0.size 512) = X := ⟨_, rfl⟩
    rw [hX]
    have hXs : X.size ≤ 512 := by rw [← hX, ByteArray.size_extract]; omega
    have HXS := Lib.hid hXs
    obtain ⟨w5, hW5⟩ : ∃ w5, w4 = w5 := ⟨_, rfl⟩
    rw [hW5] at hw4 hblk4 x0' x1' ⊢
    clear hX hXs hW5 hp hp1 hp2 hp3 hpp hpI hxI wx hA1 hA3 hA4 hwa
    go_wp2_with fail
    have hlt0 := (Array.getElem?_eq_some_iff.1 hblk4).1
    have hXt := Nat.le_trans (trimS_le X) HXS.out
    have hXz := HXS.out
    refine (diskWrite_ok _ D (-1) (A : Nat) X w5 (power_of (-1) (HD.out.below hw4)) (by omega) (by omega) (by omega) hr ⟨by omega, by omega⟩ hXt (by omega) (by omega)).mono ?_
    rintro e w7 ⟨u1, rfl, hp7, hb7⟩
    rw [show spentI (-1) = -1 from rfl] at hp7
    have hr1 := write_right D (A : Nat) X hr ⟨by omega, by omega⟩ hXt
    have hl1 : (writeD D (A : Nat) X).secs.length = m := hDl
    have hk1 : (writeD D (A : Nat) X).pend.length = k + 1 := by show (D.pend ++ [_]).length = _; rw [List.length_append, hDk]; rfl
    have ht1 := fun n => write_tells D (A : Nat) X n
    generalize writeD D (A : Nat) X = d1 at *
    obtain ⟨a1, c1, a1', c1', rfl, hd7⟩ := hp7.form
    rw [hl1, hk1] at hp7 ⊢
    have hblk7 := (hb7.block _ hlt0).trans hblk4
    have hw7 := hw4.trans (hb7.mono hw4.size)
    clear hb7 hd7 hblk4 hw4 x0' x1'
    go_wp2_with fail
    have hw8 : Below w.heap.size w (w7.alloc (.cells #[.slice a1 m c1, .slice a1' (k + 1) c1', .int .i64 (-1)] 31)) := hw7.alloc hw7.size _
    have hp8 := hp7.below ((Below.refl _ w7).alloc (Nat.le_refl _) (.cells #[.slice a1 m c1, .slice a1' (k + 1) c1', .int .i64 (-1)] 31))
    have hT10 := heap_alloc_new w7 (.cells #[.slice a1 m c1, .slice a1' (k + 1) c1', .int .i64 (-1)] 31)
    have hblk8 := (heap_alloc_old w7 (.cells #[.slice a1 m c1, .slice a1' (k + 1) c1', .int .i64 (-1)] 31) (Array.getElem?_eq_some_iff.1 hblk7).1).trans hblk7
    obtain ⟨w8, hW8⟩ : ∃ w8, w7.alloc (.cells #[.slice a1 m c1, .slice a1' (k + 1) c1', .int .i64 (-1)] 31) = w8 := ⟨_, rfl⟩
    rw [hW8] at hw8 hp8 hT10 hblk8 ⊢
    clear hW8 hp7 hblk7 hw7
    refine (diskFlush_ok _ d1 (-1) w8 hp8 (by omega) (by omega) (by omega) hr1 (by omega)).mono ?_
    rintro e w9 ⟨u2, rfl, hp9, hb9⟩
    rw [show spentI (-1) = -1 from rfl] at hp9
    have hr2 : rightD (flushD d1) = true := crash_right d1 _ hr1
    have hl2 : (flushD d1).secs.length = m := (crash_len d1 _ hr1).trans hl1
    have hn2 : (flushD d1).pend = [] := crash_pend d1 _ hr1
    have hk2 : (flushD d1).pend.length = 0 := by rw [hn2]; rfl
    have ht2 := fun n (hn : n < m) => flush_tells d1 n hr1
    have hcs := fun keep => crash_same (flushD d1) keep hr2 hn2
    have hre : rightE (flushD d1) = 0 := by unfold rightE; rw [hr2]; rfl
    generalize flushD d1 = d2 at *
    obtain ⟨a2, c2, a2', c2', rfl, hd9⟩ := hp9.form
    rw [hl2, hk2] at hp9 ⊢
    have hblk9 := (hb9.block _ (Array.getElem?_eq_some_iff.1 hblk8).1).trans hblk8
    have hT10b := (hb9.block _ (Array.getElem?_eq_some_iff.1 hT10).1).trans hT10
    have hp9b := hp8.below hb9
    have hw9 := hw8.trans (hb9.mono hw8.size)
    clear hb9 hd9 hblk8 hT10 hw8 hp8
    go_wp2_with fail
    have hw10 : Below w.heap.size w (w9.alloc (.cells #[.slice a2 m c2, .slice a2' 0 c2', .int .i64 (-1)] 31)) := hw9.alloc hw9.size _
    have hal := (Below.refl _ w9).alloc (Nat.le_refl _) (.cells #[.slice a2 m c2, .slice a2' 0 c2', .int .i64 (-1)] 31)
    have hp10 := hp9.below hal
    have hp10b := hp9b.below hal
    have hblk10 := (hal.block _ (Array.getElem?_eq_some_iff.1 hblk9).1).trans hblk9
    have hT10c := (hal.block _ (Array.getElem?_eq_some_iff.1 hT10b).1).trans hT10b
    obtain ⟨w10, hW10⟩ : ∃ w10, w9.alloc (.cells #[.slice a2 m c2, .slice a2' 0 c2', .int .i64 (-1)] 31) = w10 := ⟨_, rfl⟩
    rw [hW10] at hw10 hp10 hp10b hT10c hblk10 hal ⊢
    clear hW10 hp9 hp9b hblk9 hT10b hal
    refine (diskCrash_any _ v1 d2 l1 w10 (power_disk hp10) (H1.out.below hw10)).mono ?_
    rw [hcs l1, hre]
    rintro e w11 ⟨u3, rfl, hd11, hb11⟩
    obtain ⟨a3, c3, a3', c3', rfl, _⟩ := hd11.form
    rw [hl2, hk2] at hd11 ⊢
    have hblk11 := (hb11.block _ (Array.getElem?_eq_some_iff.1 hblk10).1).trans hblk10
    have hT10d := (hb11.block _ (Array.getElem?_eq_some_iff.1 hT10c).1).trans hT10c
    have hp11 := hp10b.below hb11
    have hw11 := hw10.trans (hb11.mono hw10.size)
    clear hb11 hblk10 hT10c hw10 hp10 hp10b hw9
    go_upto_region 10 with fail
    have hal := (Below.refl _ w11).alloc (Nat.le_refl _) (.cells #[.slice a3 m c3, .slice a3' 0 c3'] 25)
    have hT14 := heap_alloc_new w11 (.cells #[.slice a3 m c3, .slice a3' 0 c3'] 25)
    have hw12 : Below w.heap.size w (w11.alloc (.cells #[.slice a3 m c3, .slice a3' 0 c3'] 25)) := hw11.alloc hw11.size _
    have hblk12 := (hal.block _ (Array.getElem?_eq_some_iff.1 hblk11).1).trans hblk11
    have hT10e := (hal.block _ (Array.getElem?_eq_some_iff.1 hT10d).1).trans hT10d
    have hd1 := power_disk (hp11.below hal)
    have hd2 := hd11.below hal
    obtain ⟨w12, hW12⟩ : ∃ w12, w11.alloc (.cells #[.slice a3 m c3, .slice a3' 0 c3'] 25) = w12 := ⟨_, rfl⟩
    rw [hW12] at hw12 hT14 hT10e hblk12 hd1 hd2 ⊢
    clear hW12 hal hT10d hblk11 hd11 hp11 hw11
    have z0 := below_cell (Below.refl _ w12) hT10e 0 rfl
    have z1 := below_cell (Below.refl _ w12) hT10e 1 rfl
    go_wp2_with fail
    refine (diskRight_any _ d1 w12 hd1).mono ?_
    rw [hr1]
    rintro e w13 ⟨rfl, hb13⟩
    have hT14b := (hb13.block _ (Array.getElem?_eq_some_iff.1 hT14).1).trans hT14
    have q0 := below_cell (Below.refl _ w13) hT14b 0 rfl
    have q1 := below_cell (Below.refl _ w13) hT14b 1 rfl
    clear z0 z1
    go_wp2_with fail
    refine (diskRight_any _ d2 w13 (hd2.below hb13)).mono ?_
    rw [hr2]
    rintro e w14 ⟨rfl, hb14⟩
    have hbb := hb13.trans (hb14.mono hb13.size)
    have hT14c := (hb14.block _ (Array.getElem?_eq_some_iff.1 hT14b).1).trans hT14b
    have hT10f := (hbb.block _ (Array.getElem?_eq_some_iff.1 hT10e).1).trans hT10e
    have hblk14 := (hbb.block _ (Array.getElem?_eq_some_iff.1 hblk12).1).trans hblk12
    have hw14 := hw12.trans (hbb.mono hw12.size)
    have HD1 := Lib.hid (hd1.below hbb)
    have HD2 := Lib.hid (hd2.below hbb)
    have HD0 := Lib.hid (HD.out.below hw14)
    have q0' := below_cell (Below.refl _ w14) hT14c 0 rfl
    have q1' := below_cell (Below.refl _ w14) hT14c 1 rfl
    clear q0 q1 hb13 hb14 hbb hT14b hT14 hT10e hblk12 hw12 hd1 hd2
    have HR0 := Lib.hid (fun (i : Nat) u hu => diskRead_any (.agg #[.slice a m cap, .slice a' k cap']) D (i : Nat) u hu (by omega))
    have HR1 := Lib.hid (fun (i : Nat) u hu => diskRead_any (.agg #[.slice a1 m c1, .slice a1' (k + 1) c1']) d1 (i : Nat) u hu (by omega))
    have HR2 := Lib.hid (fun (i : Nat) u hu => diskRead_any (.agg #[.slice a3 m c3, .slice a3' 0 c3']) d2 (i : Nat) u hu (by omega))
    have HO0 := Lib.hid (fun i (hi : i < m) => read_ok D i hr (by omega))
    have HO1 := Lib.hid (fun i (hi : i < m) => read_ok d1 i hr1 (by omega))
    have HO2 := Lib.hid (fun i (hi : i < m) => read_ok d2 i hr2 (by omega))
    have HT1 := Lib.hid (fun i : Nat => ht1 i)
    have HT2 := Lib.hid ht2
    clear ht1 ht2 hr hr1 hr2 hl1 hl2 hn2 hk1 hk2 hcs hre hXt HD H1
    go_wp2_with fail
    go_loopw [93] (fun z wr => ∃ i : Nat, i ≤ m ∧ z = .int .i64 i ∧ Below w14.heap.size w14 wr) (fun z _ => m - (intOf z).toNat)
    case atStart => exact ⟨0, by omega, rfl, Below.refl _ _⟩
    case round =>
      obtain ⟨i, hi, rfl, hbw⟩ := hrel
      by_cases hlt : i < m
      · have hiI : (i : Int) < m := by omega
        have y0 := below_cell hbw hblk14 0 rfl
        have y1 := below_cell hbw hblk14 1 rfl
        go_wp2_with fail
        refine (HR0.out i wr (HD0.out.below hbw)).mono ?_
        obtain ⟨r1, r2⟩ := HO0.out i hlt
        rw [r1, r2]
        rintro e w15 ⟨rfl, hb15⟩
        have hbx := hbw.trans (hb15.mono hbw.size)
        have y2 := below_cell hbx hT10f 0 rfl
        have y3 := below_cell hbx hT10f 1 rfl
        clear r1 r2 y0 y1 hb15 hbw
        go_wp2_with fail
        refine (HR1.out i w15 (HD1.out.below hbx)).mono ?_
        obtain ⟨r1, r2⟩ := HO1.out i hlt
        rw [r1, r2]
        rintro e w16 ⟨rfl, hb16⟩
        have hby := hbx.trans (hb16.mono hbx.size)
        have y4 := below_cell hby hT14c 0 rfl
        have y5 := below_cell hby hT14c 1 rfl
        clear r1 r2 y2 y3 hb16 hbx
        go_wp2_with fail
        refine (HR2.out i w16 (HD2.out.below hby)).mono ?_
        obtain ⟨r1, r2⟩ := HO2.out i hlt
        rw [r1, r2]
        rintro e w17 ⟨rfl, hb17⟩
        have hbz := hby.trans (hb17.mono hby.size)
        rw [HT2.out i hlt, HT1.out i]
        generalize tells D i = S at *
        clear r1 r2 y4 y5 hb17 hby
        by_cases hiA : (A : Int) = i
        · obtain rfl : A = i := by omega
          rw [if_pos rfl]
          have HTR := Lib.hid (fun u => refTrim_any X u (by omega))
          generalize trimS X = T at *
          go_wp2_with fail
          refine (HTR.out w17).mono ?_
          rintro e w18 ⟨rfl, rfl⟩
          go_wp2_with fail
          go_roundw
          case rel => exact ⟨A + 1, by omega, by go_num, hbz⟩
          case measure => simp [intOf]; omega
        · rw [if_neg hiA]
          have hne : ((i : Int) == (A : Int)) = false := by rw [beq_eq_false_iff_ne]; omega
          go_wp2_with fail
          go_roundw
          case rel => exact ⟨i + 1, by omega, by go_num, hbz⟩
          case measure => simp [intOf]; omega
      · obtain rfl : i = m := by omega
        go_wp2_with fail
        refine (diskAlive wr).mono ?_
        rintro e w15 ⟨rfl, hb15⟩
        go_wp2_with fail
        go_ret
        have hbx := hbw.trans (hb15.mono hbw.size)
        exact ⟨rfl, hw14.trans (hbx.mono hw14.size)⟩
end Go.Proofs.YtabkpoolhcpihaaDoor.lawDiskTells
