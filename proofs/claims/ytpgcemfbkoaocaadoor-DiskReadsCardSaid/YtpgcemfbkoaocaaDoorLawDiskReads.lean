/- The walk of DiskReads. -/
import Derived.Test.YtpgcemfbkoaocaaDoorDiskM
import Derived.Test.YtpgcemfbkoaocaaDoorRef03T
import Derived.Test.YtpgcemfbkoaocaaDoorRef03C
import Derived.Test.YtpgcemfbkoaocaaDoorRef03R
import Derived.Test.YtpgcemfbkoaocaaDoorRef03L
import Derived.Deep.RegionWith
import Derived.Outline
namespace Go.Proofs.YtpgcemfbkoaocaaDoor.lawDiskReads
open Go.RowKit
set_option linter.unusedVariables false

theorem toList_iff (x y : ByteArray) : x.toList = y.toList ↔ x = y := ⟨fun h => ByteArray.ext (Array.toList_inj.1 (by rwa [ByteArray.toList_eq, ByteArray.toList_eq] at h)), fun h => by rw [h]⟩
set_option maxRecDepth 100000 in
set_option maxHeartbeats 1000000 in
theorem walk (v0 : Value) (d : Dsk) (sn : Int) (v1 : Value) (l1 : List Bool) (w : World) (w0 : IsDisk w v0 d) (ws : (Lit.int .i64 sn).wf = true) (w1 : IsBools w v1 l1) :
    Calls Tryd.prog 4 #[v0, .int .i64 sn, v1] w fun e w' => e = .returned (.bool true) ∧ Below w.heap.size w w' := by
  obtain ⟨sv, pv, rfl, hs, hp⟩ := w0
  obtain ⟨a, len, cap, rfl, hl, hc1, hc2, hts⟩ := hs.take
  obtain ⟨a', len', cap', rfl, hl', hc1', hc2', htp⟩ := hp.take
  have hD : IsDisk w (.agg #[.slice a (min len 300) cap, .slice a' (min len' 40) cap']) ⟨d.secs.take (min len 300), d.pend.take (min len' 40)⟩ := ⟨_, _, rfl, hts _ (Nat.min_le_left _ _), htp _ (Nat.min_le_left _ _)⟩
  have HFEW := Lib.hid (fun u => diskFew_any a a' len cap len' cap' u hc1 hc2 hc1' hc2')
  generalize (⟨d.secs.take (min len 300), d.pend.take (min len' 40)⟩ : Dsk) = D at *
  generalize min len 300 = m at *
  have hk4 : min len' 40 ≤ 40 := Nat.min_le_right _ _
  generalize min len' 40 = k at *
  have HD := Lib.hid hD
  have hDl := strs_len hD.secs; have hDk := wrts_len hD.pend
  clear hs hp hts htp hD hl hl' hc1 hc2 hc1' hc2'
  have HC := Lib.hid (fun kv l u hu hk => diskCrash_any (.agg #[.slice a m cap, .slice a' k cap']) kv D l u hu hk)
  have HR := Lib.hid (fun u hu => refDiskRight_any (.agg #[.slice a m cap, .slice a' k cap']) D u hu)
  have HRD := Lib.hid (fun u hu => diskRead_any (.agg #[.slice a m cap, .slice a' k cap']) D sn u hu (by omega))
  have hwf := wf_i64 ws
  clear ws
  have hb1 := (Below.refl w.heap.size w).alloc (Nat.le_refl _) (.cells #[.slice a len cap, .slice a' len' cap'] 25)
  have hblk := heap_alloc_new w (.cells #[.slice a len cap, .slice a' len' cap'] 25)
  have H1 := Lib.hid w1
  clear w1
  go_enter Tryd.func4, Tryd.ntmps4
  go_wp2_with fail
  refine (HFEW.out _).mono ?_
  rintro e w2 ⟨rfl, hb2⟩
  have hblk2 : w2.heap[w.heap.size]? = some (.cells #[.slice a len cap, .slice a' len' cap'] 25 (0, 0)) := (hb2.block _ (by simp)).trans hblk
  have hw2 : Below w.heap.size w w2 := hb1.trans (hb2.mono hb1.size)
  have hz0 : w2.cell? ⟨w.heap.size, 0, none⟩ = some (.slice a len cap) := by rw [cell_of_row _ _ 0 _ _ _ hblk2]; rfl
  have hz1 : w2.cell? ⟨w.heap.size, 1, none⟩ = some (.slice a' len' cap') := by rw [cell_of_row _ _ 1 _ _ _ hblk2]; rfl
  have hf0 := block_frozen hblk2 0
  have hf1 := block_frozen hblk2 1
  clear hb1 hb2 hblk
  go_wp2_with fail
  have hblk3 := block_set (block_set hblk2 0 (.slice a m cap)) 1 (.slice a' k cap')
  have hw3 : Below w.heap.size w ((w2.setCell ⟨w.heap.size, 0, none⟩ (.slice a m cap)).setCell ⟨w.heap.size, 1, none⟩ (.slice a' k cap')) :=
    (hw2.setCell (p := ⟨w.heap.size, 0, none⟩) (Nat.le_refl _) _).setCell (p := ⟨w.heap.size, 1, none⟩) (Nat.le_refl _) _
  rw [show (((#[Value.slice a len cap, Value.slice a' len' cap'] : Array Value).setIfInBounds 0 (.slice a m cap)).setIfInBounds 1 (.slice a' k cap')) = #[.slice a m cap, .slice a' k cap'] from rfl] at hblk3
  clear hblk2 hw2 hz0 hz1 hf0 hf1
  generalize (w2.setCell ⟨w.heap.size, 0, none⟩ (.slice a m cap)).setCell ⟨w.heap.size, 1, none⟩ (.slice a' k cap') = w3 at *
  refine (HRD.out w3 (HD.out.below hw3)).mono ?_
  rintro e wa ⟨rfl, hba⟩
  have hblka := (hba.block _ (Array.getElem?_eq_some_iff.1 hblk3).1).trans hblk3
  have hwa := hw3.trans (hba.mono hw3.size)
  have x0 := below_cell (Below.refl _ wa) hblka 0 rfl
  have x1 := below_cell (Below.refl _ wa) hblka 1 rfl
  clear hblk3 hw3 hba HRD
  go_wp2_with fail
  refine (HC.out _ l1 wa (HD.out.below hwa) (H1.out.below hwa)).mono ?_
  rintro e w4 ⟨v, he, hd, hb4⟩
  generalize hCD : crashD D l1 = C at *
  obtain ⟨b, c, b', c', rfl, _⟩ := hd.form
  generalize hN : C.secs.length = N at *
  generalize hM : C.pend.length = M at *
  subst he
  have hblk4 := (hb4.block _ (Array.getElem?_eq_some_iff.1 hblka).1).trans hblka
  have hw4 := hwa.trans (hb4.mono hwa.size)
  have hlt4 := (Array.getElem?_eq_some_iff.1 hblk4).1
  have q0 := fun o : Obj => (World.cell?_of_block (a := ⟨w.heap.size, 0, none⟩) (Below.heap_alloc w4 o w.heap.size hlt4)).trans (below_cell (Below.refl _ w4) hblk4 0 rfl)
  have q1 := fun o : Obj => (World.cell?_of_block (a := ⟨w.heap.size, 1, none⟩) (Below.heap_alloc w4 o w.heap.size hlt4)).trans (below_cell (Below.refl _ w4) hblk4 1 rfl)
  have hblk5 := (heap_alloc_old w4 (.cells #[.slice b N c, .slice b' M c'] 25) hlt4).trans hblk4
  have hxb := heap_alloc_new w4 (.cells #[.slice b N c, .slice b' M c'] 25)
  have hw5 : Below w.heap.size w (w4.alloc (.cells #[.slice b N c, .slice b' M c'] 25)) := hw4.alloc hw4.size _
  have hd5 : IsDisk (w4.alloc (.cells #[.slice b N c, .slice b' M c'] 25)) (.agg #[.slice b N c, .slice b' M c']) C := hd.below ((Below.refl _ _).alloc (Nat.le_refl _) _)
  have HC5 := Lib.hid hd5; have HRC := Lib.hid hCD
  clear hblka hwa hb4 hd hd5 hCD hblk4 hlt4 x0 x1 HC
  go_wp2_with fail
  obtain ⟨w5, hW5⟩ : ∃ w5, w4.alloc (.cells #[.slice b N c, .slice b' M c'] 25) = w5 := ⟨_, rfl⟩
  rw [hW5] at hblk5 hxb hw5 HC5 ⊢
  clear hW5 q0 q1 hw4
  refine (HR.out w5 (HD.out.below hw5)).mono ?_
  rintro e w6 ⟨rfl, hb6⟩
  have hblk6 := (hb6.block _ (Array.getElem?_eq_some_iff.1 hblk5).1).trans hblk5
  have hxb6 := (hb6.block _ (Array.getElem?_eq_some_iff.1 hxb).1).trans hxb
  have hw6 := hw5.trans (hb6.mono hw5.size)
  have HC6 := Lib.hid (HC5.out.below hb6)
  clear hblk5 hxb hw5 hb6 HC5 HR
  cases hr : rightD D
  · have hE : rightE D = 1 := by unfold rightE; rw [hr]; rfl
    have hE2 : readE D sn = 1 := by unfold readE; rw [hr]; rfl
    have hS2 : readS D sn = ⟨#[]⟩ := by unfold readS; rw [hE2]; rfl
    have hCn : C = noD := by rw [← HRC.out]; exact crash_bad D l1 hr
    rw [hE, hE2, hS2]
    clear hE hE2 hS2
    go_wp2_with fail
    refine (diskAlive w6).mono ?_
    rintro e w7 ⟨rfl, hb7⟩
    have hw7 := hw6.trans (hb7.mono hw6.size)
    have hxb7 := (hb7.block _ (Array.getElem?_eq_some_iff.1 hxb6).1).trans hxb6
    have y0 := below_cell (Below.refl _ w7) hxb7 0 rfl
    have y1 := below_cell (Below.refl _ w7) hxb7 1 rfl
    have HC7 := Lib.hid (HC6.out.below hb7)
    have hno : IsDisk w7 (.agg #[.slice none 0 0, .slice none 0 0]) noD := ⟨_, _, rfl, nilStrs _, nilWrts _⟩
    have HNO := Lib.hid hno
    clear hb7 hw6 hxb6 hxb7 HC6 hno
    go_wp2_with fail
    refine (refLike_any _ _ C noD w7 HC7.out HNO.out).mono ?_
    rintro e w8 ⟨rfl, hb8⟩
    rw [decide_eq_true hCn]
    go_wp2_with fail
    go_ret
    exact ⟨rfl, hw7.trans (hb8.mono hw7.size)⟩
  · have hE : rightE D = 0 := by unfold rightE; rw [hr]; rfl
    rw [hE]
    have hCe : C = ⟨crashL D l1 D.pend.length, []⟩ := by rw [← HRC.out]; exact crash_eq D l1 hr
    have HCR := Lib.hid (fun u hu hk => refCrash_any (.agg #[.slice a m cap, .slice a' k cap']) v1 D false l1 l1 u hu hk hr (fun t _ => by simp))
    have HLK := Lib.hid (fun v u h1 h2 => by
      have h := refLike_any (.agg #[.slice b N c, .slice b' M c']) v C ⟨crashL D l1 D.pend.length, []⟩ u h1 h2
      rw [decide_eq_true hCe] at h
      exact h)
    clear hE hCe
    have hlen := hDl
    have HT := Lib.hid (fun (i : Nat) u hu hi => refTells_any (.agg #[.slice a m cap, .slice a' k cap']) D i u hu hi)
    have d0 := below_cell (Below.refl _ w6) hblk6 0 rfl
    have d1 := below_cell (Below.refl _ w6) hblk6 1 rfl
    have c0 := below_cell (Below.refl _ w6) hxb6 0 rfl
    have c1 := below_cell (Below.refl _ w6) hxb6 1 rfl
    have hdr : Below w6.heap.size w6 w6.drew := (Below.refl _ w6).drew
    have HC6' := Lib.hid (HC6.out.below hdr); have HD6 := Lib.hid (HD.out.below hw6.drew); have H16 := Lib.hid (H1.out.below hw6.drew)
    have HBLK := Lib.hid hblk6; have HXB := Lib.hid hxb6; have HW6 := Lib.hid hw6; have HDR := Lib.hid hdr; have HR := Lib.hid hr
    clear hblk6 hxb6 hw6 hdr HC6 hr
    go_wp2_with fail
    go_region_with (first
      | (go_at_call 19; refine (HCR.out _ ?_ ?_).mono ?_; exact HD6.out; exact H16.out; rintro e w7 ⟨v', rfl, hd7, hb7⟩; have g0 := below_cell (HDR.out.trans hb7) HXB.out 0 rfl; have g1 := below_cell (HDR.out.trans hb7) HXB.out 1 rfl)
      | (go_at_call 18; refine (HLK.out _ _ ?_ ?_).mono ?_; exact HC6'.out.below hb7; exact hd7; rintro e w8 ⟨rfl, hb8⟩))
    all_goals
      have hz : Below w6.heap.size w6 w8 := HDR.out.trans ((show Below w6.heap.size w6.drew w7 from hb7).trans (hb8.mono hb7.size))
      have hw8 := HW6.out.trans (hz.mono HW6.out.size)
      have e0 := below_cell hz HBLK.out 0 rfl
      have e1 := below_cell hz HBLK.out 1 rfl
      clear hb7 hb8 hd7 d0 d1 c0 c1 g0 g1
      rcases Int.lt_or_le sn 0 with hsn | hsn
      · clear hz
        have hE2 : readE D sn = 20 := by unfold readE; rw [HR.out, if_pos rfl, if_neg (by omega)]
        have hS2 : readS D sn = ⟨#[]⟩ := by unfold readS; rw [hE2]; rfl
        rw [hE2, hS2]
        clear hE2 hS2
        go_wp2_with fail
        refine (diskAlive w8).mono ?_
        rintro e w9 ⟨rfl, hb9⟩
        have hw9 := hw8.trans (hb9.mono hw8.size)
        go_wp2_with fail
        go_ret
        exact ⟨rfl, hw9⟩
      · by_cases hsm : sn < m
        · obtain ⟨j, rfl⟩ := Int.eq_ofNat_of_zero_le hsn
          have hjm : j < D.secs.length := by omega
          obtain ⟨r1, r2⟩ := read_ok D j HR.out hjm
          rw [r1, r2]
          have HJ := Lib.hid hjm
          clear r1 r2 hjm hsn
          go_wp2_with fail
          refine (diskAlive w8).mono ?_
          rintro e w9 ⟨rfl, hb9⟩
          have hw9 := hw8.trans (hb9.mono hw8.size)
          have hz9 := hz.trans (hb9.mono hz.size)
          have e0' := below_cell hz9 HBLK.out 0 rfl
          have e1' := below_cell hz9 HBLK.out 1 rfl
          clear hb9 hz hz9 hw8
          go_wp2_with fail
          refine (HT.out j w9 (HD.out.below hw9) HJ.out).mono ?_
          rintro e wb ⟨rfl, hbb⟩
          go_wp2_with fail
          go_ret
          exact ⟨by simp, hw9.trans (hbb.mono hw9.size)⟩
        · clear hz
          have hsm' : (m : Int) ≤ sn := by omega
          have hE2 : readE D sn = 20 := by unfold readE; rw [HR.out, if_pos rfl, if_neg (by omega)]
          have hS2 : readS D sn = ⟨#[]⟩ := by unfold readS; rw [hE2]; rfl
          rw [hE2, hS2]
          clear hE2 hS2
          go_wp2_with fail
          refine (diskAlive w8).mono ?_
          rintro e w9 ⟨rfl, hb9⟩
          have hw9 := hw8.trans (hb9.mono hw8.size)
          go_wp2_with fail
          go_ret
          exact ⟨rfl, hw9⟩
end Go.Proofs.YtpgcemfbkoaocaaDoor.lawDiskReads
