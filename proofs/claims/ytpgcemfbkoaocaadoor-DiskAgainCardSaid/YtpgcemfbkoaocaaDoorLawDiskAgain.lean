/- The walk of DiskAgain. -/
import Derived.Test.YtpgcemfbkoaocaaDoorDiskM
import Derived.Test.YtpgcemfbkoaocaaDoorRef03R
import Derived.Test.YtpgcemfbkoaocaaDoorRef03L
import Derived.Outline
namespace Go.Proofs.YtpgcemfbkoaocaaDoor.lawDiskAgain
open Go.RowKit
set_option linter.unusedVariables false

set_option maxRecDepth 100000 in
set_option maxHeartbeats 1000000 in
theorem walk (v0 : Value) (d : Dsk) (v1 : Value) (l1 : List Bool) (v2 : Value) (l2 : List Bool) (w : World) (w0 : IsDisk w v0 d) (w1 : IsBools w v1 l1) (w2 : IsBools w v2 l2) :
    Calls Tryd.prog 10 #[v0, v1, v2] w fun e w' => e = .returned (.bool true) ∧ Below w.heap.size w w' := by
  obtain ⟨sv, pv, rfl, hs, hp⟩ := w0
  obtain ⟨a, len, cap, rfl, hl, hc1, hc2, hts⟩ := hs.take
  obtain ⟨a', len', cap', rfl, hl', hc1', hc2', htp⟩ := hp.take
  have hD : IsDisk w (.agg #[.slice a (min len 300) cap, .slice a' (min len' 40) cap']) ⟨d.secs.take (min len 300), d.pend.take (min len' 40)⟩ := ⟨_, _, rfl, hts _ (Nat.min_le_left _ _), htp _ (Nat.min_le_left _ _)⟩
  have HFEW := Lib.hid (fun u => diskFew_any a a' len cap len' cap' u hc1 hc2 hc1' hc2')
  generalize (⟨d.secs.take (min len 300), d.pend.take (min len' 40)⟩ : Dsk) = D at *
  generalize min len 300 = m at *
  generalize min len' 40 = k at *
  have HD := Lib.hid hD
  clear hs hp hts htp hD hl hl' hc1 hc2 hc1' hc2'
  have HC := Lib.hid (fun u hu hk => diskCrash_any (.agg #[.slice a m cap, .slice a' k cap']) v1 D l1 u hu hk)
  have HC2 := Lib.hid (fun v c u hu hk => diskCrash_any v v2 c l2 u hu hk)
  have HR := Lib.hid (fun u hu => refDiskRight_any (.agg #[.slice a m cap, .slice a' k cap']) D u hu)
  have hb1 := (Below.refl w.heap.size w).alloc (Nat.le_refl _) (.cells #[.slice a len cap, .slice a' len' cap'] 25)
  have hblk := heap_alloc_new w (.cells #[.slice a len cap, .slice a' len' cap'] 25)
  have H1 := Lib.hid w1; have H2 := Lib.hid w2
  clear w1 w2
  go_enter Tryd.func10, Tryd.ntmps10
  go_wp2_with fail
  refine (HFEW.out _).mono ?_
  rintro e w2 ⟨rfl, hb2⟩
  have hblk2 : w2.heap[w.heap.size]? = some (.cells #[.slice a len cap, .slice a' len' cap'] 25 (0, 0)) := (hb2.block _ (by simp)).trans hblk
  have hw2 : Below w.heap.size w w2 := hb1.trans (hb2.mono hb1.size)
  have hz0 : w2.cell? ⟨w.heap.size, 0, none⟩ = some (.slice a len cap) := by rw [cell_of_row _ _ 0 _ _ _ hblk2]; rfl
  have hz1 : w2.cell? ⟨w.heap.size, 1, none⟩ = some (.slice a' len' cap') := by rw [cell_of_row _ _ 1 _ _ _ hblk2]; rfl
  have hf0 := block_frozen hblk2 0
  have hf1 := block_frozen hblk2 1
  clear hb1 hb2 hblk
  go_wp2_with fail
  have hblk3 := block_set (block_set hblk2 0 (.slice a m cap)) 1 (.slice a' k cap')
  have hw3 : Below w.heap.size w ((w2.setCell ⟨w.heap.size, 0, none⟩ (.slice a m cap)).setCell ⟨w.heap.size, 1, none⟩ (.slice a' k cap')) :=
    (hw2.setCell (p := ⟨w.heap.size, 0, none⟩) (Nat.le_refl _) _).setCell (p := ⟨w.heap.size, 1, none⟩) (Nat.le_refl _) _
  rw [show (((#[Value.slice a len cap, Value.slice a' len' cap'] : Array Value).setIfInBounds 0 (.slice a m cap)).setIfInBounds 1 (.slice a' k cap')) = #[.slice a m cap, .slice a' k cap'] from rfl] at hblk3
  clear hblk2 hw2 hz0 hz1 hf0 hf1
  generalize (w2.setCell ⟨w.heap.size, 0, none⟩ (.slice a m cap)).setCell ⟨w.heap.size, 1, none⟩ (.slice a' k cap') = w3 at *
  refine (HC.out _ (HD.out.below hw3) (H1.out.below hw3)).mono ?_
  rintro e w4 ⟨v, he, hd, hb4⟩
  generalize hCD : crashD D l1 = C at *
  obtain ⟨b, c, b', c', rfl, _⟩ := hd.form
  generalize hN : C.secs.length = N at *
  generalize hM : C.pend.length = M at *
  subst he
  have hblk4 : w4.heap[w.heap.size]? = some (.cells #[.slice a m cap, .slice a' k cap'] 25 (0, 0)) := (hb4.block _ (Array.getElem?_eq_some_iff.1 hblk3).1).trans hblk3
  have hw4 := hw3.trans (hb4.mono hw3.size)
  have hlt4 := (Array.getElem?_eq_some_iff.1 hblk4).1
  have hblk5 : (w4.alloc (.cells #[.slice b N c, .slice b' M c'] 25)).heap[w.heap.size]? = _ := (heap_alloc_old w4 _ hlt4).trans hblk4
  have hxb := heap_alloc_new w4 (.cells #[.slice b N c, .slice b' M c'] 25)
  have hw5 : Below w.heap.size w (w4.alloc (.cells #[.slice b N c, .slice b' M c'] 25)) := hw4.alloc hw4.size _
  have hd5 : IsDisk (w4.alloc (.cells #[.slice b N c, .slice b' M c'] 25)) (.agg #[.slice b N c, .slice b' M c']) C := hd.below ((Below.refl _ _).alloc (Nat.le_refl _) _)
  have HC5 := Lib.hid hd5; have HRC := Lib.hid hCD
  clear hblk3 hw3 hb4 hd hd5 hCD hblk4 hlt4 HC
  go_wp2_with fail
  obtain ⟨w5, hW5⟩ : ∃ w5, w4.alloc (.cells #[.slice b N c, .slice b' M c'] 25) = w5 := ⟨_, rfl⟩
  have hlt5 : w4.heap.size < w5.heap.size := by rw [← hW5, World.size_alloc]; omega
  rw [hW5] at hblk5 hxb hw5 HC5 ⊢
  clear hW5
  refine (HC2.out _ C w5 HC5.out (H2.out.below hw5)).mono ?_
  rintro e w6 ⟨v, he, hd, hb6⟩
  generalize hCC : crashD C l2 = X at *
  obtain ⟨g, e1, g', e1', rfl, _⟩ := hd.form
  generalize hN' : X.secs.length = N' at *
  generalize hM' : X.pend.length = M' at *
  subst he
  have hblk6 := (hb6.block _ (Array.getElem?_eq_some_iff.1 hblk5).1).trans hblk5
  have hxb6 := (hb6.block _ (Array.getElem?_eq_some_iff.1 hxb).1).trans hxb
  have hw6 := hw5.trans (hb6.mono hw5.size)
  have hblk7 := (heap_alloc_old w6 (.cells #[.slice g N' e1, .slice g' M' e1'] 25) (Array.getElem?_eq_some_iff.1 hblk6).1).trans hblk6
  have hxb7 := (heap_alloc_old w6 (.cells #[.slice g N' e1, .slice g' M' e1'] 25) (Array.getElem?_eq_some_iff.1 hxb6).1).trans hxb6
  have hyb := heap_alloc_new w6 (.cells #[.slice g N' e1, .slice g' M' e1'] 25)
  have hw7 : Below w.heap.size w (w6.alloc (.cells #[.slice g N' e1, .slice g' M' e1'] 25)) := hw6.alloc hw6.size _
  have HX := Lib.hid (hd.below ((Below.refl _ w6).alloc (Nat.le_refl _) (.cells #[.slice g N' e1, .slice g' M' e1'] 25)))
  have HC7 := Lib.hid (HC5.out.below (hb6.trans ((Below.refl _ w6).alloc hb6.size (.cells #[.slice g N' e1, .slice g' M' e1'] 25))))
  have HXC := Lib.hid hCC
  have q0 := fun o : Obj => (World.cell?_of_block (a := ⟨w.heap.size, 0, none⟩) (Below.heap_alloc w6 o w.heap.size (Array.getElem?_eq_some_iff.1 hblk6).1)).trans (below_cell (Below.refl _ w6) hblk6 0 rfl)
  have q1 := fun o : Obj => (World.cell?_of_block (a := ⟨w.heap.size, 1, none⟩) (Below.heap_alloc w6 o w.heap.size (Array.getElem?_eq_some_iff.1 hblk6).1)).trans (below_cell (Below.refl _ w6) hblk6 1 rfl)
  clear hblk5 hxb hw5 hb6 hd hblk6 hxb6 HC5 HC2 hCC hw4 hlt5 H1 H2
  go_wp2_with fail
  obtain ⟨w7, hW7⟩ : ∃ w7, w6.alloc (.cells #[.slice g N' e1, .slice g' M' e1'] 25) = w7 := ⟨_, rfl⟩
  rw [hW7] at hblk7 hxb7 hyb hw7 HX HC7 ⊢
  clear hW7 hw6 q0 q1
  refine (HR.out w7 (HD.out.below hw7)).mono ?_
  rintro e w8 ⟨rfl, hb8⟩
  have hblk8 := (hb8.block _ (Array.getElem?_eq_some_iff.1 hblk7).1).trans hblk7
  have hxb8 := (hb8.block _ (Array.getElem?_eq_some_iff.1 hxb7).1).trans hxb7
  have hyb8 := (hb8.block _ (Array.getElem?_eq_some_iff.1 hyb).1).trans hyb
  have hw8 := hw7.trans (hb8.mono hw7.size)
  have HX8 := Lib.hid (HX.out.below hb8); have HC8 := Lib.hid (HC7.out.below hb8)
  clear hblk7 hxb7 hyb hw7 hb8 HX HC7 HR
  cases hr : rightD D
  · have hE : rightE D = 1 := by unfold rightE; rw [hr]; rfl
    rw [hE]
    clear hE hr
    go_wp2_with fail
    refine (diskAlive w8).mono ?_
    rintro e w9 ⟨rfl, hb9⟩
    go_wp2_with fail
    go_ret
    exact ⟨rfl, hw8.trans (hb9.mono hw8.size)⟩
  · have hE : rightE D = 0 := by unfold rightE; rw [hr]; rfl
    rw [hE]
    have hCr := crash_right D l1 hr
    have hCp := crash_pend D l1 hr
    have hCl := crash_len D l1 hr
    rw [HRC.out] at hCr hCp hCl
    have hX := crash_same C l2 hCr hCp
    rw [HXC.out] at hX
    subst hX
    have hE' : rightE X = 0 := by unfold rightE; rw [hCr]; rfl
    rw [hE']
    obtain rfl : N = N' := hN.symm.trans hN'
    obtain rfl : M = M' := hM.symm.trans hM'
    obtain rfl : M = 0 := by rw [← hM, hCp]; rfl
    have x0 := below_cell (Below.refl _ w8) hxb8 0 rfl
    have x1 := below_cell (Below.refl _ w8) hxb8 1 rfl
    have y0 := below_cell (Below.refl _ w8) hyb8 0 rfl
    have y1 := below_cell (Below.refl _ w8) hyb8 1 rfl
    clear hE' hE
    go_wp2_with fail
    refine (refLike_any _ _ X X w8 HC8.out HX8.out).mono ?_
    rintro e w9 ⟨rfl, hb9⟩
    rw [decide_eq_true rfl]
    have hw9 := hw8.trans (hb9.mono hw8.size)
    have HC9 := Lib.hid (HC8.out.below hb9)
    have hxb9 := (hb9.block _ (Array.getElem?_eq_some_iff.1 hxb8).1).trans hxb8
    have x0' := below_cell (Below.refl _ w9) hxb9 0 rfl
    have x1' := below_cell (Below.refl _ w9) hxb9 1 rfl
    have hcells : N = 0 ∨ ∃ g off, b = some ⟨g, off, none⟩ ∧ g < w9.heap.size ∧ ∀ i, i < N → w9.cell? ⟨g, off + i, none⟩ = some (.string (X.secs.getD i ⟨#[]⟩)) := by
      obtain ⟨sv, pv, hv, ⟨x, len, cp, e1, e2, _, _, _, hat⟩, _⟩ := HC9.out
      injection hv with hv
      have h1 : Value.slice b N c = sv := by have := congrArg (fun z : Array Value => z[0]?) hv; simpa using this
      rw [← h1] at e1
      injection e1 with e3 e4 e5
      subst e3 e4
      exact hat
    have HL := Lib.hid hcells
    have HRD := Lib.hid (fun (i : Nat) u (hu : IsDisk u _ _) => diskRead_any (.agg #[.slice b N c, .slice b' 0 c']) X (i : Nat) u hu (by rw [hCp]; exact Nat.zero_le _))
    have HOK := Lib.hid (fun i (hi : i < X.secs.length) => read_ok X i hCr hi)
    have HTL := Lib.hid (fun i => tells_same X i hCp)
    have HN := Lib.hid hN
    clear hcells hblk8 hxb8 hyb8 hw8 HX8 HC8 x0 x1 y0 y1 hb9 hCr hCp hCl hN hN' hM hM' HRC HXC hr
    go_wp2_with fail
    go_loopw [58] (fun z wr => ∃ i : Nat, i ≤ N ∧ z = .int .i64 i ∧ Below w9.heap.size w9 wr) (fun z _ => N - (intOf z).toNat)
    case atStart => exact ⟨0, by omega, rfl, Below.refl _ _⟩
    case round =>
      obtain ⟨i, hi, rfl, hbw⟩ := hrel
      have hxw := (hbw.block _ (Array.getElem?_eq_some_iff.1 hxb9).1).trans hxb9
      have x0 := below_cell (Below.refl _ wr) hxw 0 rfl
      have x1 := below_cell (Below.refl _ wr) hxw 1 rfl
      by_cases hlt : i < N
      · have hiI : (i : Int) < N := by omega
        obtain ⟨g, off, rfl, hg, hat⟩ := HL.out.resolve_left (by omega)
        have hc := (hbw.cell (p := ⟨g, off + i, none⟩) hg).trans (hat i hlt)
        clear hat
        generalize hS : X.secs.getD i ⟨#[]⟩ = S at *
        have HS := Lib.hid hS
        clear hS
        go_wp2_with fail
        refine (HRD.out i wr (HC9.out.below hbw)).mono ?_
        obtain ⟨r1, r2⟩ := HOK.out i (by rw [HN.out]; exact hlt)
        rw [r1, r2, HTL.out i, HS.out]
        rintro e w10 ⟨rfl, hb10⟩
        have hb11 := hbw.trans (hb10.mono hbw.size)
        clear r1 r2 x0 x1 hxw hbw hb10
        go_wp2_with fail
        go_roundw
        case rel => exact ⟨i + 1, by omega, by go_num, hb11⟩
        case measure => simp [intOf]; omega
      · obtain rfl : i = N := by omega
        go_wp2_with fail
        refine (diskAlive wr).mono ?_
        rintro e w10 ⟨rfl, hb10⟩
        have hb11 := hw9.trans ((hbw.trans (hb10.mono hbw.size)).mono hw9.size)
        clear x0 x1 hxw hbw hb10
        go_wp2_with fail
        go_ret
        exact ⟨rfl, hb11⟩
end Go.Proofs.YtpgcemfbkoaocaaDoor.lawDiskAgain
