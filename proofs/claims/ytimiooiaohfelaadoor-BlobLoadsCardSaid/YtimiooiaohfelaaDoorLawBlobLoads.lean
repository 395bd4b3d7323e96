/- The walk of BlobLoads. -/
import Derived.Test.YtimiooiaohfelaaDoorBd4
import Derived.Test.YtimiooiaohfelaaDoorPkZ
import Derived.Outline
namespace Go.Proofs.YtimiooiaohfelaaDoor.lawBlobLoads
open Go.RowKit
set_option linter.unusedVariables false
set_option linter.unusedSimpArgs false

set_option maxRecDepth 100000 in
set_option maxHeartbeats 1500000 in
theorem walk (v0 : Value) (l0 : Lg) (n0 : Int) (w : World) (w0 : IsLog w v0 l0) (wn : (Lit.int .i64 n0).wf = true) :
    Calls Tryd.prog 3 #[v0, .int .i64 n0] w fun e w' => e = .returned (.bool true) ∧ Below w.heap.size w w' := by
  have hwn := wf_i64 wn
  obtain ⟨x1, c1, x3, c2, x5, c3, rfl, h1, h2, h3, i1, i2, i3⟩ := id w0.form
  have HF := Lib.hid (fun u => few7_cells x1 x3 x5 l0.secs.length c1 l0.pend.length c2 l0.dirty.length c3 _ _ _ l0.left l0.epoch l0.seq l0.used u h1 h2 h3 rfl rfl rfl)
  have hL := few_log w0 i1 i2 i3
  have hp := few_pend l0
  generalize fewLg l0 = L at *
  obtain ⟨lf, hlf⟩ : ∃ x, l0.left = x := ⟨_, rfl⟩
  obtain ⟨ep, hep⟩ : ∃ x, l0.epoch = x := ⟨_, rfl⟩
  obtain ⟨sq, hsq⟩ : ∃ x, l0.seq = x := ⟨_, rfl⟩
  obtain ⟨us, hus⟩ : ∃ x, l0.used = x := ⟨_, rfl⟩
  rw [hlf, hep, hsq, hus] at HF hL
  (try rw [hlf, hep, hsq, hus])
  generalize l0.secs.length = N1 at *
  generalize l0.pend.length = N2 at *
  generalize l0.dirty.length = N3 at *
  generalize min N1 300 = m1 at *
  generalize min N2 60 = m2 at *
  generalize min N3 250 = m3 at *
  have HCA := Lib.hid (fun u (hu : Below w.heap.size w u) => blobLoad _ L n0 u (hL.below hu) (by omega) hwn)
  have HCB := Lib.hid (fun u (hu : Below w.heap.size w u) => refLoad7 _ L n0 u (hL.below hu) hwn)
  unfold LoadPost at HCA HCB
  obtain ⟨LE, hLE⟩ : ∃ x, ldE L n0 = x := ⟨_, rfl⟩
  obtain ⟨LS, hLS⟩ : ∃ x, (ldD L n0).1 = x := ⟨_, rfl⟩
  obtain ⟨LX, hLX⟩ : ∃ x, (ldD L n0).2 = x := ⟨_, rfl⟩
  rw [hLE, hLS, hLX] at HCA HCB
  obtain ⟨B, hB⟩ : ∃ B, w.heap.size = B := ⟨_, rfl⟩
  have hblk := heap_alloc_new w (.cells #[.slice x1 N1 c1, .slice x3 N2 c2, .int .i64 lf, .int .i64 ep, .int .i64 sq, .int .i64 us, .slice x5 N3 c3] 29)
  have hal := (Below.refl w.heap.size w).alloc (Nat.le_refl _) (.cells #[.slice x1 N1 c1, .slice x3 N2 c2, .int .i64 lf, .int .i64 ep, .int .i64 sq, .int .i64 us, .slice x5 N3 c3] 29)
  rw [hB] at hblk
  have HBK := Lib.hid hblk; have HAL := Lib.hid hal; have HBQ := Lib.hid hB
  clear hL hp hblk hal hB w0 i1 i2 i3 hlf hep hsq hus h1 h2 h3 hLE hLS hLX hwn wn
  go_enter Tryd.func3, Tryd.ntmps3
  go_upto_region 1 with fail
  (try rw [HBQ.out])
  obtain ⟨u, hU⟩ : ∃ u, w.alloc (.cells #[.slice x1 N1 c1, .slice x3 N2 c2, .int .i64 lf, .int .i64 ep, .int .i64 sq, .int .i64 us, .slice x5 N3 c3] 29) = u := ⟨_, rfl⟩
  rw [hU] at HBK HAL ⊢
  clear hU
  have d0 := below_cell (Below.refl _ u) HBK.out 0 rfl
  have d1 := below_cell (Below.refl _ u) HBK.out 1 rfl
  have d2 := below_cell (Below.refl _ u) HBK.out 2 rfl
  have d3 := below_cell (Below.refl _ u) HBK.out 3 rfl
  have d4 := below_cell (Below.refl _ u) HBK.out 4 rfl
  have d5 := below_cell (Below.refl _ u) HBK.out 5 rfl
  have d6 := below_cell (Below.refl _ u) HBK.out 6 rfl
  go_upto_region 2 with (first
    | (go_at_call 4; refine (HF.out _).mono ?_; rintro e u2 ⟨rfl, hb2⟩; have hbk2 := (hb2.block _ (lt_of_block HBK.out)).trans HBK.out; have HS1 := Lib.hid (setRow_heap u2 B _ #[.slice x1 m1 c1, .slice x3 m2 c2, .int .i64 lf, .int .i64 ep, .int .i64 sq, .int .i64 us, .slice x5 m3 c3] _ _ hbk2))
    | (refine wpList_store_row rfl 29 _ _ rfl B #[.slice x1 m1 c1, .slice x3 m2 c2, .int .i64 lf, .int .i64 ep, .int .i64 sq, .int .i64 us, .slice x5 m3 c3] rfl rfl 29 _ hbk2 (by kernel_rfl) rfl (by simp [Value.oneCell']) ?_))
  have hbu := below_setRow (HAL.out.trans (hb2.mono HAL.out.size)) (show w.heap.size ≤ B by rw [HBQ.out]; exact Nat.le_refl _) #[.slice x1 m1 c1, .slice x3 m2 c2, .int .i64 lf, .int .i64 ep, .int .i64 sq, .int .i64 us, .slice x5 m3 c3]
  obtain ⟨t0, hU⟩ : ∃ t0, u2.setRow B #[.slice x1 m1 c1, .slice x3 m2 c2, .int .i64 lf, .int .i64 ep, .int .i64 sq, .int .i64 us, .slice x5 m3 c3] = t0 := ⟨_, rfl⟩
  rw [hU] at HS1 hbu ⊢
  have HW0 := Lib.hid hbu
  have HP0 := HS1
  clear hU hbk2 hb2 hbu d0 d1 d2 d3 d4 d5 d6 HF HS1 HBK HAL
  have d0 := below_cell (Below.refl _ t0) HP0.out 0 rfl
  have d1 := below_cell (Below.refl _ t0) HP0.out 1 rfl
  have d2 := below_cell (Below.refl _ t0) HP0.out 2 rfl
  have d3 := below_cell (Below.refl _ t0) HP0.out 3 rfl
  have d4 := below_cell (Below.refl _ t0) HP0.out 4 rfl
  have d5 := below_cell (Below.refl _ t0) HP0.out 5 rfl
  have d6 := below_cell (Below.refl _ t0) HP0.out 6 rfl
  have HCK0 := Lib.hid (HCA.out t0 HW0.out)
  go_upto_region 3 with (first | (go_at_call 5; refine HCK0.out.mono ?_; rintro e t1 ⟨⟨va, rfl, hva⟩, hb⟩))
  have HVA := Lib.hid hva; have HW1 := Lib.hid (HW0.out.trans (hb.mono HW0.out.size))
  have HP1 := Lib.hid ((hb.block _ (lt_of_block HP0.out)).trans HP0.out)
  clear hva hb HCK0 HCA HW0 HP0 d0 d1 d2 d3 d4 d5 d6
  have d0 := below_cell (Below.refl _ t1) HP1.out 0 rfl
  have d1 := below_cell (Below.refl _ t1) HP1.out 1 rfl
  have d2 := below_cell (Below.refl _ t1) HP1.out 2 rfl
  have d3 := below_cell (Below.refl _ t1) HP1.out 3 rfl
  have d4 := below_cell (Below.refl _ t1) HP1.out 4 rfl
  have d5 := below_cell (Below.refl _ t1) HP1.out 5 rfl
  have d6 := below_cell (Below.refl _ t1) HP1.out 6 rfl
  have HCK1 := Lib.hid (HCB.out t1 HW1.out)
  go_upto_region 4 with (first | (go_at_call 6; refine HCK1.out.mono ?_; rintro e t2 ⟨⟨vb, rfl, hvb⟩, hb⟩))
  have HVA2 := Lib.hid (HVA.out.below hb); have HVB := Lib.hid hvb; have HW2 := Lib.hid (HW1.out.trans (hb.mono HW1.out.size))
  clear hvb hb HCK1 HCB HW1 HP1 HVA d0 d1 d2 d3 d4 d5 d6
  have hsame := Lib.hid (fun x (hx : Below t2.heap.size t2 x) => refSameInts_any va vb LX LX x (HVA2.out.below hx) (HVB.out.below hx))
  rw [decide_eq_true rfl] at hsame
  have b0 := Below.refl t2.heap.size t2
  go_wp2_with (first
    | (go_at_call 7; refine (blobAlive _).mono ?_; rintro e w5 ⟨rfl, hb5⟩; have b5 := b0.trans (hb5.mono b0.size))
    | (go_at_call 8; refine (hsame.out _ b5).mono ?_; rintro e w6 ⟨rfl, hb6⟩; have b6 := b5.trans (hb6.mono b5.size)))
  go_ret
  exact ⟨rfl, HW2.out.trans (b6.mono HW2.out.size)⟩
end Go.Proofs.YtimiooiaohfelaaDoor.lawBlobLoads
