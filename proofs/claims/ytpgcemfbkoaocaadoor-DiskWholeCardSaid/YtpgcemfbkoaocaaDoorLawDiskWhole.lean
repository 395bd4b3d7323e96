/- The walk of DiskWhole. -/
import Derived.Test.YtpgcemfbkoaocaaDoorDiskM
import Derived.Test.YtpgcemfbkoaocaaDoorDiskW
import Derived.Outline
namespace Go.Proofs.YtpgcemfbkoaocaaDoor.lawDiskWhole
open Go.RowKit
set_option linter.unusedVariables false

theorem toList_iff (x y : ByteArray) : x.toList = y.toList ↔ x = y := ⟨fun h => ByteArray.ext (Array.toList_inj.1 (by rwa [ByteArray.toList_eq, ByteArray.toList_eq] at h)), fun h => by rw [h]⟩
set_option maxRecDepth 100000 in
set_option maxHeartbeats 1000000 in
theorem walk (v0 : Value) (d : Dsk) (v1 : Value) (l1 : List Bool) (w : World) (w0 : IsDisk w v0 d) (w1 : IsBools w v1 l1) :
    Calls Tryd.prog 7 #[v0, v1] w fun e w' => e = .returned (.bool true) ∧ Below w.heap.size w w' := by
  obtain ⟨sv, pv, rfl, hs, hp⟩ := w0
  obtain ⟨a, len, cap, rfl, hl, hc1, hc2, hts⟩ := hs.take
  obtain ⟨a', len', cap', rfl, hl', hc1', hc2', htp⟩ := hp.take
  have hD : IsDisk w (.agg #[.slice a (min len 300) cap, .slice a' (min len' 40) cap']) ⟨d.secs.take (min len 300), d.pend.take (min len' 40)⟩ := ⟨_, _, rfl, hts _ (Nat.min_le_left _ _), htp _ (Nat.min_le_left _ _)⟩
  have HFEW := Lib.hid (fun u => diskFew_any a a' len cap len' cap' u hc1 hc2 hc1' hc2')
  generalize (⟨d.secs.take (min len 300), d.pend.take (min len' 40)⟩ : Dsk) = D at *
  generalize min len 300 = m at *
  have hk4 : min len' 40 ≤ 40 := Nat.min_le_right _ _
  generalize min len' 40 = k at *
  have HD := Lib.hid hD
  have hDl := strs_len hD.secs; have hDk := wrts_len hD.pend
  clear hs hp hts htp hD hl hl' hc1 hc2 hc1' hc2'
  have HC := Lib.hid (fun kv l u hu hk => diskCrash_any (.agg #[.slice a m cap, .slice a' k cap']) kv D l u hu hk)
  have HR := Lib.hid (fun u hu => diskRight_any (.agg #[.slice a m cap, .slice a' k cap']) D u hu)
  have hb1 := (Below.refl w.heap.size w).alloc (Nat.le_refl _) (.cells #[.slice a len cap, .slice a' len' cap'] 25)
  have hblk := heap_alloc_new w (.cells #[.slice a len cap, .slice a' len' cap'] 25)
  have H1 := Lib.hid w1
  clear w1
  go_enter Tryd.func7, Tryd.ntmps7
  go_wp2_with fail
  refine (HFEW.out _).mono ?_
  rintro e w2 ⟨rfl, hb2⟩
  have hblk2 : w2.heap[w.heap.size]? = some (.cells #[.slice a len cap, .slice a' len' cap'] 25 (0, 0)) := (hb2.block _ (by simp)).trans hblk
  have hw2 : Below w.heap.size w w2 := hb1.trans (hb2.mono hb1.size)
  have hz0 : w2.cell? ⟨w.heap.size, 0, none⟩ = some (.slice a len cap) := by rw [cell_of_row _ _ 0 _ _ _ hblk2]; rfl
  have hz1 : w2.cell? ⟨w.heap.size, 1, none⟩ = some (.slice a' len' cap') := by rw [cell_of_row _ _ 1 _ _ _ hblk2]; rfl
  have hf0 := block_frozen hblk2 0
  have hf1 := block_frozen hblk2 1
  clear hb1 hb2 hblk
  go_wp2_with fail
  have hblk3 := block_set (block_set hblk2 0 (.slice a m cap)) 1 (.slice a' k cap')
  have hw3 : Below w.heap.size w ((w2.setCell ⟨w.heap.size, 0, none⟩ (.slice a m cap)).setCell ⟨w.heap.size, 1, none⟩ (.slice a' k cap')) :=
    (hw2.setCell (p := ⟨w.heap.size, 0, none⟩) (Nat.le_refl _) _).setCell (p := ⟨w.heap.size, 1, none⟩) (Nat.le_refl _) _
  rw [show (((#[Value.slice a len cap, Value.slice a' len' cap'] : Array Value).setIfInBounds 0 (.slice a m cap)).setIfInBounds 1 (.slice a' k cap')) = #[.slice a m cap, .slice a' k cap'] from rfl] at hblk3
  clear hblk2 hw2 hz0 hz1 hf0 hf1
  generalize (w2.setCell ⟨w.heap.size, 0, none⟩ (.slice a m cap)).setCell ⟨w.heap.size, 1, none⟩ (.slice a' k cap') = w3 at *
  refine (HC.out _ l1 w3 (HD.out.below hw3) (H1.out.below hw3)).mono ?_
  rintro e w4 ⟨v, he, hd, hb4⟩
  generalize hCD : crashD D l1 = C at *
  obtain ⟨b, c, b', c', rfl, _⟩ := hd.form
  generalize hN : C.secs.length = N at *
  generalize hM : C.pend.length = M at *
  subst he
  have hblk4 := (hb4.block _ (Array.getElem?_eq_some_iff.1 hblk3).1).trans hblk3
  have hw4 := hw3.trans (hb4.mono hw3.size)
  have hlt4 := (Array.getElem?_eq_some_iff.1 hblk4).1
  have q0 := fun o : Obj => (World.cell?_of_block (a := ⟨w.heap.size, 0, none⟩) (Below.heap_alloc w4 o w.heap.size hlt4)).trans (below_cell (Below.refl _ w4) hblk4 0 rfl)
  have q1 := fun o : Obj => (World.cell?_of_block (a := ⟨w.heap.size, 1, none⟩) (Below.heap_alloc w4 o w.heap.size hlt4)).trans (below_cell (Below.refl _ w4) hblk4 1 rfl)
  have hblk5 := (heap_alloc_old w4 (.cells #[.slice b N c, .slice b' M c'] 25) hlt4).trans hblk4
  have hxb := heap_alloc_new w4 (.cells #[.slice b N c, .slice b' M c'] 25)
  have hw5 : Below w.heap.size w (w4.alloc (.cells #[.slice b N c, .slice b' M c'] 25)) := hw4.alloc hw4.size _
  have hd5 : IsDisk (w4.alloc (.cells #[.slice b N c, .slice b' M c'] 25)) (.agg #[.slice b N c, .slice b' M c']) C := hd.below ((Below.refl _ _).alloc (Nat.le_refl _) _)
  have HC5 := Lib.hid hd5; have HRC := Lib.hid hCD
  clear hblk3 hw3 hb4 hd hd5 hCD hblk4 hlt4 H1
  cases hr : rightD D
  · have hE : rightE D = 1 := by unfold rightE; rw [hr]; rfl
    rw [hE]
    clear hE
    go_wp2_with fail
    obtain ⟨w5, hW5⟩ : ∃ w5, w4.alloc (.cells #[.slice b N c, .slice b' M c'] 25) = w5 := ⟨_, rfl⟩
    rw [hW5] at hblk5 hxb hw5 ⊢
    clear hW5 q0 q1 hw4
    refine (diskAlive w5).mono ?_
    rintro e w6 ⟨rfl, hb6⟩
    have hblk6 := (hb6.block _ (Array.getElem?_eq_some_iff.1 hblk5).1).trans hblk5
    have hw6 := hw5.trans (hb6.mono hw5.size)
    have x0 := below_cell (Below.refl _ w6) hblk6 0 rfl
    have x1 := below_cell (Below.refl _ w6) hblk6 1 rfl
    clear hb6 hw5 hblk5 hxb hblk6
    go_wp2_with fail
    refine (HR.out w6 (HD.out.below hw6)).mono ?_
    rintro e w7 ⟨rfl, hb7⟩
    rw [hr]
    go_wp2_with fail
    go_ret
    exact ⟨rfl, hw6.trans (hb7.mono hw6.size)⟩
  · have hE : rightE D = 0 := by unfold rightE; rw [hr]; rfl
    rw [hE]
    clear HR
    go_wp2_with fail
    obtain ⟨w5, hW5⟩ : ∃ w5, w4.alloc (.cells #[.slice b N c, .slice b' M c'] 25) = w5 := ⟨_, rfl⟩
    have hlt5 : w4.heap.size < w5.heap.size := by rw [← hW5, World.size_alloc]; omega
    rw [hW5] at hblk5 hxb hw5 HC5 ⊢
    clear hW5 q0 q1
    refine (HC.out _ [] w5 (HD.out.below hw5) (noBools w5)).mono ?_
    rintro e w6 ⟨v, he, hd, hb6⟩
    rw [hE] at he
    generalize hCN : crashD D [] = Z at *
    obtain ⟨g, e1, g', e1', rfl, _⟩ := hd.form
    generalize hN' : Z.secs.length = N' at *
    generalize hM' : Z.pend.length = M' at *
    subst he
    have hblk6 := (hb6.block _ (Array.getElem?_eq_some_iff.1 hblk5).1).trans hblk5
    have hxb6 := (hb6.block _ (Array.getElem?_eq_some_iff.1 hxb).1).trans hxb
    have hw6 := hw5.trans (hb6.mono hw5.size)
    have q0 := fun o : Obj => (World.cell?_of_block (a := ⟨w.heap.size, 0, none⟩) (Below.heap_alloc w6 o w.heap.size (Array.getElem?_eq_some_iff.1 hblk6).1)).trans (below_cell (Below.refl _ w6) hblk6 0 rfl)
    have q1 := fun o : Obj => (World.cell?_of_block (a := ⟨w.heap.size, 1, none⟩) (Below.heap_alloc w6 o w.heap.size (Array.getElem?_eq_some_iff.1 hblk6).1)).trans (below_cell (Below.refl _ w6) hblk6 1 rfl)
    have hblk7 := (heap_alloc_old w6 (.cells #[.slice g N' e1, .slice g' M' e1'] 25) (Array.getElem?_eq_some_iff.1 hblk6).1).trans hblk6
    have hxb7 := (heap_alloc_old w6 (.cells #[.slice g N' e1, .slice g' M' e1'] 25) (Array.getElem?_eq_some_iff.1 hxb6).1).trans hxb6
    have hyb := heap_alloc_new w6 (.cells #[.slice g N' e1, .slice g' M' e1'] 25)
    have hw7 : Below w.heap.size w (w6.alloc (.cells #[.slice g N' e1, .slice g' M' e1'] 25)) := hw6.alloc hw6.size _
    have HZ := Lib.hid (hd.below ((Below.refl _ w6).alloc (Nat.le_refl _) (.cells #[.slice g N' e1, .slice g' M' e1'] 25)))
    have HC7 := Lib.hid (HC5.out.below (hb6.trans ((Below.refl _ w6).alloc hb6.size (.cells #[.slice g N' e1, .slice g' M' e1'] 25))))
    have HXC := Lib.hid hCN
    have hmk := make_bls k (by omega)
    clear hblk5 hxb hw5 hb6 hd hblk6 hxb6 HC5 hCN hw4 hlt5
    go_wp2_with fail
    obtain ⟨w7, hW7⟩ : ∃ w7, w6.alloc (.cells #[.slice g N' e1, .slice g' M' e1'] 25) = w7 := ⟨_, rfl⟩
    rw [hW7] at hblk7 hxb7 hyb hw7 HZ HC7 ⊢
    have h76 : w7.heap.size = w6.heap.size + 1 := by rw [← hW7, World.size_alloc]
    have hgb := heap_alloc_new w7 (.cells ((falses k).map Value.bool).toArray 4)
    rw [h76] at hgb
    have hblk8 := (heap_alloc_old w7 (.cells ((falses k).map Value.bool).toArray 4) (Array.getElem?_eq_some_iff.1 hblk7).1).trans hblk7
    have hxb8 := (heap_alloc_old w7 (.cells ((falses k).map Value.bool).toArray 4) (Array.getElem?_eq_some_iff.1 hxb7).1).trans hxb7
    have hyb8 := (heap_alloc_old w7 (.cells ((falses k).map Value.bool).toArray 4) (Array.getElem?_eq_some_iff.1 hyb).1).trans hyb
    have hb8 := (Below.refl _ w7).alloc (Nat.le_refl _) (.cells ((falses k).map Value.bool).toArray 4)
    have hG : w7.heap.size < (w7.alloc (.cells ((falses k).map Value.bool).toArray 4)).heap.size := by rw [World.size_alloc]; omega
    have h6 : w6.heap.size < w7.heap.size := (Array.getElem?_eq_some_iff.1 hyb).1
    have h4 : w4.heap.size < w7.heap.size := (Array.getElem?_eq_some_iff.1 hxb7).1
    have h0 : w.heap.size < w7.heap.size := (Array.getElem?_eq_some_iff.1 hblk7).1
    obtain ⟨w8, hW8⟩ : ∃ w8, w7.alloc (.cells ((falses k).map Value.bool).toArray 4) = w8 := ⟨_, rfl⟩
    rw [hW8] at hgb hblk8 hxb8 hyb8 hb8 hG ⊢
    have HGB := Lib.hid hgb
    clear hW8 hW7 hmk hw6 q0 q1 hblk7 hxb7 hyb hgb
    go_loopw [47] (fun z wr => ∃ (i : Nat) (G : List Bool), i ≤ k ∧ z = .int .i64 i ∧ G.length = k ∧ (∀ j, j < i → G.getD j false = true) ∧ wr.heap[w6.heap.size + 1]? = some (.cells (G.map Value.bool).toArray 4 (0, 0)) ∧ Below w7.heap.size w8 wr) (fun z _ => k - (intOf z).toNat)
    case atStart => exact ⟨0, falses k, Nat.zero_le _, rfl, by simp [falses], by omega, HGB.out, Below.refl _ _⟩
    case round =>
      clear HGB
      obtain ⟨i, G, hi, rfl, hGl, hGt, hgr, hbw⟩ := hrel
      by_cases hlt : i < k
      · have hiI : (i : Int) < k := by omega
        have hcg : wr.cell? ⟨w6.heap.size + 1, i, none⟩ = some (.bool (G.getD i false)) := by
          rw [cell_of_row _ _ _ _ _ _ hgr]; simp [hGl, hlt]
        have hfz := block_frozen hgr i
        have hset := block_set hgr i (.bool true)
        have hss : ((G.map Value.bool).toArray.setIfInBounds i (.bool true)) = ((G.set i true).map Value.bool).toArray := by simp
        rw [hss] at hset
        have hnew : ∀ j, j < i + 1 → (G.set i true).getD j false = true := fun j hj => by
          rw [List.getD_eq_getElem?_getD, List.getElem?_set]
          by_cases e : i = j
          · subst e; simp [hGl, hlt]
          · rw [if_neg e, ← List.getD_eq_getElem?_getD]; exact hGt j (by omega)
        have HS := Lib.hid hset; have HNW := Lib.hid hnew
        generalize G.getD i false = gi at *
        clear hset hss hnew hgr hGt
        go_wp2_with fail
        go_roundw
        case rel => exact ⟨i + 1, G.set i true, by omega, by go_num, by simp [hGl], HNW.out, HS.out, hbw.setCell (p := ⟨w6.heap.size + 1, i, none⟩) (Nat.le_of_eq h76) _⟩
        case measure => simp [intOf]; omega
      · obtain rfl : i = k := by omega
        have hb9 := hb8.trans hbw
        have hwr := hw7.trans (hb9.mono hw7.size)
        have hbk : IsBools wr (.slice (some ⟨w6.heap.size + 1, 0, none⟩) i i) G := by
          have := block_reads1 hgr (by omega)
          rwa [hGl] at this
        have hblk9 := (hbw.block _ h0).trans hblk8
        have hxb9 := (hbw.block _ h4).trans hxb8
        have hyb9 := (hbw.block _ h6).trans hyb8
        have x0 := below_cell (Below.refl _ wr) hblk9 0 rfl
        have x1 := below_cell (Below.refl _ wr) hblk9 1 rfl
        have HC9 := Lib.hid (HC7.out.below hb9); have HZ9 := Lib.hid (HZ.out.below hb9)
        clear hb9 hbw hblk8 hxb8 hyb8 h0 h4 h6 hb8 hG hw7 HC7 HZ hlt hi
        go_wp2_with fail
        refine (HC.out _ G wr (HD.out.below hwr) hbk).mono ?_
        rintro e w10 ⟨v, he, hd, hb10⟩
        rw [hE] at he
        generalize hCL : crashD D G = L at *
        obtain ⟨q, u1, q', u1', rfl, _⟩ := hd.form
        generalize hNL : L.secs.length = NL at *
        generalize hML : L.pend.length = ML at *
        subst he
        have hblk10 := (hb10.block _ (Array.getElem?_eq_some_iff.1 hblk9).1).trans hblk9
        have hxb10 := (hb10.block _ (Array.getElem?_eq_some_iff.1 hxb9).1).trans hxb9
        have hyb10 := (hb10.block _ (Array.getElem?_eq_some_iff.1 hyb9).1).trans hyb9
        have hw10 := hwr.trans (hb10.mono hwr.size)
        have hblk11 := (heap_alloc_old w10 (.cells #[.slice q NL u1, .slice q' ML u1'] 25) (Array.getElem?_eq_some_iff.1 hblk10).1).trans hblk10
        have hxb11 := (heap_alloc_old w10 (.cells #[.slice q NL u1, .slice q' ML u1'] 25) (Array.getElem?_eq_some_iff.1 hxb10).1).trans hxb10
        have hyb11 := (heap_alloc_old w10 (.cells #[.slice q NL u1, .slice q' ML u1'] 25) (Array.getElem?_eq_some_iff.1 hyb10).1).trans hyb10
        have hzb := heap_alloc_new w10 (.cells #[.slice q NL u1, .slice q' ML u1'] 25)
        have hw11 : Below w.heap.size w (w10.alloc (.cells #[.slice q NL u1, .slice q' ML u1'] 25)) := hw10.alloc hw10.size _
        have hq10 := (Below.refl _ w10).alloc (Nat.le_refl _) (.cells #[.slice q NL u1, .slice q' ML u1'] 25)
        have HL11 := Lib.hid (hd.below hq10)
        have HC11 := Lib.hid ((HC9.out.below hb10).below hq10)
        have HZ11 := Lib.hid ((HZ9.out.below hb10).below hq10)
        have f0 := fun (o : Obj) (j : Nat) (v : Value) (hv : (#[Value.slice a m cap, .slice a' i cap'] : Array Value)[j]? = some v) => (World.cell?_of_block (a := ⟨w.heap.size, j, none⟩) (Below.heap_alloc w10 o w.heap.size (Array.getElem?_eq_some_iff.1 hblk10).1)).trans (below_cell (Below.refl _ w10) hblk10 j hv)
        have f1 := fun (o : Obj) (j : Nat) (v : Value) (hv : (#[Value.slice b N c, .slice b' M c'] : Array Value)[j]? = some v) => (World.cell?_of_block (a := ⟨w4.heap.size, j, none⟩) (Below.heap_alloc w10 o w4.heap.size (Array.getElem?_eq_some_iff.1 hxb10).1)).trans (below_cell (Below.refl _ w10) hxb10 j hv)
        have f2 := fun (o : Obj) (j : Nat) (v : Value) (hv : (#[Value.slice g N' e1, .slice g' M' e1'] : Array Value)[j]? = some v) => (World.cell?_of_block (a := ⟨w6.heap.size, j, none⟩) (Below.heap_alloc w10 o w6.heap.size (Array.getElem?_eq_some_iff.1 hyb10).1)).trans (below_cell (Below.refl _ w10) hyb10 j hv)
        have f00 := fun o => f0 o 0 _ rfl; have f01 := fun o => f0 o 1 _ rfl; have f10 := fun o => f1 o 0 _ rfl; have f20 := fun o => f2 o 0 _ rfl
        -- what the sectors are
        have hCm : N = m := by rw [← hN, ← HRC.out, crash_len D l1 hr]; exact hDl
        have hZm : N' = m := by rw [← hN', ← HXC.out, crash_len D [] hr]; exact hDl
        have hLm : NL = m := by rw [← hNL, ← hCL, crash_len D G hr]; exact hDl
        subst hCm
        subst hZm
        subst hLm
        have HCs := Lib.hid (fun j : Nat => show C.secs.getD j ⟨#[]⟩ = D.secs.getD j ⟨#[]⟩ ∨ ∃ t, t < i ∧ (D.pend.getD t wrtZ).sector = j ∧ (D.pend.getD t wrtZ).bytes = C.secs.getD j ⟨#[]⟩ by
          have := crashL_whole D l1 hr j _ (Nat.le_refl _)
          rw [← HRC.out, crash_eq D l1 hr, ← hDk]; exact this)
        have HZs := Lib.hid (show Z.secs = D.secs by rw [← HXC.out, crash_eq D [] hr]; exact crashL_none D _)
        have HLs := Lib.hid (fun j : Nat => show L.secs.getD j ⟨#[]⟩ = tells D j by
          rw [← hCL, crash_eq D G hr]; exact crashL_all D G hr j _ (Nat.le_refl _) (by rw [hDk]; exact hGt))
        clear f0 f1 f2 hblk9 hxb9 hyb9 hb10 hwr hblk10 hxb10 hyb10 hd hbk hgr x0 x1 HC9 HZ9 HC hCL hq10 h76
        go_wp2_with fail
        obtain ⟨w11, hW11⟩ : ∃ w11, w10.alloc (.cells #[.slice q NL u1, .slice q' ML u1'] 25) = w11 := ⟨_, rfl⟩
        rw [hW11] at hblk11 hxb11 hyb11 hzb hw11 HL11 HC11 HZ11 ⊢
        have hAs := strs_at (HD.out.below hw11).secs; have hAp := wrts_at (HD.out.below hw11).pend
        have hBs := strs_at HC11.out.secs; have hZt := strs_at HZ11.out.secs; have hLs := strs_at HL11.out.secs
        have HAS := Lib.hid hAs; have HAP := Lib.hid hAp; have HBS := Lib.hid hBs; have HZS := Lib.hid hZt; have HLS := Lib.hid hLs
        have HRD := Lib.hid (fun (j : Nat) u (hu : IsDisk u _ _) => diskRead_any (.agg #[.slice a NL cap, .slice a' i cap']) D (j : Nat) u hu (by omega))
        have HOK := Lib.hid (fun j (hi : j < D.secs.length) => read_ok D j hr hi)
        have HR11 := Lib.hid hr
        clear hW11 f00 f01 f10 f20 hw10 hAs hAp hBs hZt hLs HL11 HC11 HZ11 hE hr
        go_loopw [96] (fun z wr => ∃ j : Nat, j ≤ NL ∧ z = .int .i64 j ∧ Below w11.heap.size w11 wr) (fun z _ => NL - (intOf z).toNat)
        case atStart => exact ⟨0, by omega, rfl, Below.refl _ _⟩
        case round =>
          obtain ⟨j, hj, rfl, hbw⟩ := hrel
          have hblkw := (hbw.block _ (Array.getElem?_eq_some_iff.1 hblk11).1).trans hblk11
          have hxbw := (hbw.block _ (Array.getElem?_eq_some_iff.1 hxb11).1).trans hxb11
          have f00 := below_cell (Below.refl _ wr) hblkw 0 rfl
          have f01 := below_cell (Below.refl _ wr) hblkw 1 rfl
          have f10 := below_cell (Below.refl _ wr) hxbw 0 rfl
          by_cases hlt : j < NL
          · have hjI : (j : Int) < NL := by omega
            obtain ⟨ga, oa, rfl, hga, hca⟩ := HAS.out.resolve_left (by omega)
            obtain ⟨gb, ob, rfl, hgb, hcb⟩ := HBS.out.resolve_left (by omega)
            have ca := (hbw.cell (p := ⟨ga, oa + j, none⟩) hga).trans (hca j hlt)
            have cb := (hbw.cell (p := ⟨gb, ob + j, none⟩) hgb).trans (hcb j hlt)
            obtain ⟨S, hS⟩ : ∃ S, D.secs.getD j ByteArray.empty = S := ⟨_, rfl⟩
            obtain ⟨X, hX⟩ : ∃ X, C.secs.getD j ByteArray.empty = X := ⟨_, rfl⟩
            rw [hS] at ca
            rw [hX] at cb
            have HS := Lib.hid hS; have HX := Lib.hid hX
            have HCA := Lib.hid hca; have HCB := Lib.hid hcb
            clear hca hcb hS hX
            go_wp2_with fail
            clear f00 f01 f10
            go_loopw [111, 15] (fun z o wr => ∃ (t : Nat) (B : Bool), t ≤ i ∧ z = .int .i64 t ∧ o = .bool B ∧ (B = true ↔ X = S ∨ ∃ t', t' < t ∧ (D.pend.getD t' wrtZ).sector = j ∧ (D.pend.getD t' wrtZ).bytes = X) ∧ Below w11.heap.size w11 wr) (fun z _ _ => i - (intOf z).toNat)
            case atStart => exact ⟨0, _, by omega, rfl, rfl, by simp [toList_iff], hbw⟩
            case round =>
              clear hbw ca cb hblkw hxbw
              obtain ⟨t, B, ht, rfl, rfl, hB, hbx⟩ := hrel
              have hblkx := (hbx.block _ (Array.getElem?_eq_some_iff.1 hblk11).1).trans hblk11
              have hxbx := (hbx.block _ (Array.getElem?_eq_some_iff.1 hxb11).1).trans hxb11
              have hybx := (hbx.block _ (Array.getElem?_eq_some_iff.1 hyb11).1).trans hyb11
              have hzbx := (hbx.block _ (Array.getElem?_eq_some_iff.1 hzb).1).trans hzb
              by_cases hlt' : t < i
              · have htI : (t : Int) < i := by omega
                obtain ⟨gp, op, rfl, hgp, hcp⟩ := HAP.out.resolve_left (by omega)
                obtain ⟨p0, p1⟩ := (hcp t hlt').below hbx hgp
                have c0 := fun o : Obj => (World.cell?_of_block (a := ⟨w4.heap.size, 0, none⟩) (Below.heap_alloc wr o w4.heap.size (Array.getElem?_eq_some_iff.1 hxbx).1)).trans (below_cell (Below.refl _ wr) hxbx 0 rfl)
                have c1 := fun o : Obj => (World.cell?_of_block (a := ⟨gb, ob + j, none⟩) (Below.heap_alloc wr o gb (Nat.lt_of_lt_of_le hgb hbx.size))).trans ((hbx.cell (p := ⟨gb, ob + j, none⟩) hgb).trans (HCB.out j hlt))
                obtain ⟨P, hP⟩ : ∃ P, D.pend.getD t wrtZ = P := ⟨_, rfl⟩
                rw [hP] at p0 p1
                have hnx : (∃ t', t' < t + 1 ∧ (D.pend.getD t' wrtZ).sector = j ∧ (D.pend.getD t' wrtZ).bytes = X) ↔ ((∃ t', t' < t ∧ (D.pend.getD t' wrtZ).sector = j ∧ (D.pend.getD t' wrtZ).bytes = X) ∨ (P.sector = j ∧ P.bytes = X)) := by
                  rw [← hP]
                  constructor
                  · rintro ⟨t', h1, h2, h3⟩
                    by_cases e : t' = t
                    · subst e; exact .inr ⟨h2, h3⟩
                    · exact .inl ⟨t', by omega, h2, h3⟩
                  · rintro (⟨t', h1, h2, h3⟩ | ⟨h2, h3⟩)
                    · exact ⟨t', by omega, h2, h3⟩
                    · exact ⟨t, by omega, h2, h3⟩
                have HB := Lib.hid hB; have HNX := Lib.hid hnx
                rw [HX.out] at c1
                clear hcp hP hB hnx hblkx hxbx hybx hzbx
                go_wp2_with fail
                have d0 := below_cell (Below.refl _ _) (heap_alloc_new wr (.cells #[.int .i64 P.sector, .string P.bytes] 53)) 0 rfl
                have d1 := below_cell (Below.refl _ _) (heap_alloc_new wr (.cells #[.int .i64 P.sector, .string P.bytes] 53)) 1 rfl
                have c0' := c0 (.cells #[.int .i64 P.sector, .string P.bytes] 53)
                have c1' := c1 (.cells #[.int .i64 P.sector, .string P.bytes] 53)
                have hb12 := hbx.alloc hbx.size (.cells #[.int .i64 P.sector, .string P.bytes] 53)
                obtain ⟨w12, hW12⟩ : ∃ w12, wr.alloc (.cells #[.int .i64 P.sector, .string P.bytes] 53) = w12 := ⟨_, rfl⟩
                rw [hW12] at d0 d1 c0' c1' hb12 ⊢
                clear hW12 c0 c1 p0 p1 hbx
                cases B
                · have hno : ¬ (X = S ∨ ∃ t', t' < t ∧ (D.pend.getD t' wrtZ).sector = j ∧ (D.pend.getD t' wrtZ).bytes = X) := fun h => by have := HB.out.2 h; cases this
                  have HNO := Lib.hid hno
                  clear hno
                  by_cases hs : P.sector = (j : Nat)
                  · by_cases hx : P.bytes = X
                    · have HH := Lib.hid (And.intro hs hx)
                      rw [hs] at d0
                      rw [hx] at d1
                      clear hs hx
                      go_region
                      go_wp2_with fail
                      go_roundw
                      case rel => exact ⟨t + 1, true, by omega, by go_num, rfl, ⟨fun _ => .inr (HNX.out.2 (.inr HH.out)), fun _ => rfl⟩, hb12.drew⟩
                      case measure => simp [intOf]; omega
                    · rw [hs] at d0
                      have hne := ba_tne hx
                      have HH := Lib.hid hx
                      clear hs hx
                      go_region
                      go_wp2_with fail
                      go_roundw
                      case rel => exact ⟨t + 1, false, by omega, by go_num, rfl, ⟨fun h => (by cases h), fun h => by rcases h with h | h; exact absurd (.inl h) HNO.out; rcases HNX.out.1 h with h | h; exact absurd (.inr h) HNO.out; exact absurd h.2 HH.out⟩, hb12.drew⟩
                      case measure => simp [intOf]; omega
                  · have HH := Lib.hid hs
                    have hse : (P.sector == (j : Int)) = false := by simpa using hs
                    go_region
                    go_wp2_with fail
                    go_roundw
                    case rel => exact ⟨t + 1, false, by omega, by go_num, rfl, ⟨fun h => (by cases h), fun h => by rcases h with h | h; exact absurd (.inl h) HNO.out; rcases HNX.out.1 h with h | h; exact absurd (.inr h) HNO.out; exact absurd h.1 HH.out⟩, hb12.drew⟩
                    case measure => simp [intOf]; omega
                · have hyes := HB.out.1 rfl
                  have HY := Lib.hid hyes
                  clear hyes
                  go_region
                  go_wp2_with fail
                  go_roundw
                  case rel => exact ⟨t + 1, true, by omega, by go_num, rfl, ⟨fun _ => HY.out.imp id (fun h => HNX.out.2 (.inl h)), fun _ => rfl⟩, hb12.drew⟩
                  case measure => simp [intOf]; omega
              · obtain rfl : t = i := by omega
                obtain rfl : B = true := hB.2 (by
                  have := HCs.out j
                  rw [show C.secs.getD j ⟨#[]⟩ = X from HX.out, show D.secs.getD j ⟨#[]⟩ = S from HS.out] at this
                  exact this)
                have x0 := below_cell (Below.refl _ wr) hblkx 0 rfl
                have x1 := below_cell (Below.refl _ wr) hblkx 1 rfl
                have hwx := hw11.trans (hbx.mono hw11.size)
                clear hB hblkx hxbx hlt' ht
                go_wp2_with fail
                refine (HRD.out j wr (HD.out.below hwx)).mono ?_
                obtain ⟨r1, r2⟩ := HOK.out j (by omega)
                rw [r1, r2, ← HLs.out j]
                rintro e w13 ⟨rfl, hb13⟩
                obtain ⟨gz, oz, rfl, hgz, hcz⟩ := HZS.out.resolve_left (by omega)
                obtain ⟨gl, ol, rfl, hgl, hcl⟩ := HLS.out.resolve_left (by omega)
                have hb14 := hbx.trans (hb13.mono hbx.size)
                have cz := (hb14.cell (p := ⟨gz, oz + j, none⟩) hgz).trans (hcz j hlt)
                have cl := (hb14.cell (p := ⟨gl, ol + j, none⟩) hgl).trans (hcl j hlt)
                rw [HZs.out, HS.out] at cz
                have y0 := below_cell hb14 hyb11 0 rfl
                have z0 := below_cell hb14 hzb 0 rfl
                obtain ⟨T, hT⟩ : ∃ T, L.secs.getD j ByteArray.empty = T := ⟨_, rfl⟩
                rw [show L.secs.getD j ⟨#[]⟩ = T from hT]
                rw [hT] at cl
                clear r1 r2 x0 x1 hb13 hbx hcz hcl hT hwx hybx hzbx
                go_wp2_with fail
                go_roundw
                case rel => exact ⟨j + 1, by omega, by go_num, hb14⟩
                case measure => simp [intOf]; omega
          · obtain rfl : j = NL := by omega
            clear f00 f01 f10 hblkw hxbw
            go_wp2_with fail
            refine (diskAlive wr).mono ?_
            rintro e w13 ⟨rfl, hb13⟩
            have hwx := hw11.trans ((hbw.trans (hb13.mono hbw.size)).mono hw11.size)
            clear hbw hb13
            go_wp2_with fail
            go_ret
            exact ⟨rfl, hwx⟩
end Go.Proofs.YtpgcemfbkoaocaaDoor.lawDiskWhole
