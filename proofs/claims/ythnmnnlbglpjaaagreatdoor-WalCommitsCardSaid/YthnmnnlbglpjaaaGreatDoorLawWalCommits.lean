/- The walk of WalCommits. -/
import Derived.Test.YthnmnnlbglpjaaaGreatDoorWlS
import Derived.Test.YthnmnnlbglpjaaaGreatDoorRf5E
import Derived.Test.YthnmnnlbglpjaaaGreatDoorPk6
import Derived.Outline
namespace Go.Proofs.YthnmnnlbglpjaaaGreatDoor.lawWalCommits
open Go.RowKit
set_option linter.unusedVariables false
set_option linter.unusedSimpArgs false

set_option maxRecDepth 100000 in
set_option maxHeartbeats 1500000 in
theorem walk (v0 : Value) (l0 : Lg) (v1 : Value) (xs0 : List Wrt) (w : World) (w0 : IsLog w v0 l0) (w1 : IsWrts w v1 xs0) :
    Calls Tryz.prog 3 #[v0, v1] w fun e w' => e = .returned (.bool true) ∧ Below w.heap.size w w' := by
  obtain ⟨x1, c1, x3, c2, x5, c3, rfl, h1, h2, h3, i1, i2, i3⟩ := id w0.form
  have HF := Lib.hid (fun u => few5_cells x1 x3 x5 l0.secs.length c1 l0.pend.length c2 l0.dirty.length c3 _ _ _ l0.left l0.epoch l0.seq l0.used u h1 h2 h3 rfl rfl rfl)
  have hL := few_log w0 i1 i2 i3
  have hp := few_pend l0
  obtain ⟨wa, n, wc, rfl, hl, hc1, hc2, ht⟩ := w1.take
  have HS := Lib.hid (fun u => short5 wa n wc u hc1 hc2)
  have hX := ht _ (Nat.min_le_left n 45)
  generalize min n 45 = m at *
  generalize xs0.take m = xs at *
  generalize fewLg l0 = L at *
  obtain ⟨lf, hlf⟩ : ∃ x, l0.left = x := ⟨_, rfl⟩
  obtain ⟨ep, hep⟩ : ∃ x, l0.epoch = x := ⟨_, rfl⟩
  obtain ⟨sq, hsq⟩ : ∃ x, l0.seq = x := ⟨_, rfl⟩
  obtain ⟨us, hus⟩ : ∃ x, l0.used = x := ⟨_, rfl⟩
  rw [hlf, hep, hsq, hus] at HF hL
  (try rw [hlf, hep, hsq, hus])
  generalize l0.secs.length = N1 at *
  generalize l0.pend.length = N2 at *
  generalize l0.dirty.length = N3 at *
  generalize min N1 300 = m1 at *
  generalize min N2 60 = m2 at *
  generalize min N3 250 = m3 at *
  have HCA := Lib.hid (fun u (hu : Below w.heap.size w u) => wlCommit _ _ L xs u (hL.below hu) (hX.below hu) (by omega))
  have HCB := Lib.hid (fun u (hu : Below w.heap.size w u) => refCom5 _ _ L xs u (hL.below hu) (hX.below hu) (by omega))
  have HCC := Lib.hid (fun u (hu : Below w.heap.size w u) => wlCheckpoint _ L u (hL.below hu) (by omega))
  have HCD := Lib.hid (fun u (hu : Below w.heap.size w u) => refCk5 _ L u (hL.below hu) (by omega))
  generalize comL L xs = A at *
  generalize comE L xs = AE at *
  generalize ckL L = C at *
  generalize ckE L = CE at *
  obtain ⟨B, hB⟩ : ∃ B, w.heap.size = B := ⟨_, rfl⟩
  have hblk := heap_alloc_new w (.cells #[.slice x1 N1 c1, .slice x3 N2 c2, .int .i64 lf, .int .i64 ep, .int .i64 sq, .int .i64 us, .slice x5 N3 c3] 29)
  have hal := (Below.refl w.heap.size w).alloc (Nat.le_refl _) (.cells #[.slice x1 N1 c1, .slice x3 N2 c2, .int .i64 lf, .int .i64 ep, .int .i64 sq, .int .i64 us, .slice x5 N3 c3] 29)
  rw [hB] at hblk
  have HBK := Lib.hid hblk; have HAL := Lib.hid hal; have HBQ := Lib.hid hB
  clear hL hp hblk hal hB w0 w1 i1 i2 i3 hX ht hl hlf hep hsq hus h1 h2 h3 hc1 hc2
  go_enter Tryz.func3, Tryz.ntmps3
  go_upto_region 1 with fail
  (try rw [HBQ.out])
  obtain ⟨u, hU⟩ : ∃ u, w.alloc (.cells #[.slice x1 N1 c1, .slice x3 N2 c2, .int .i64 lf, .int .i64 ep, .int .i64 sq, .int .i64 us, .slice x5 N3 c3] 29) = u := ⟨_, rfl⟩
  rw [hU] at HBK HAL ⊢
  clear hU
  have d0 := below_cell (Below.refl _ u) HBK.out 0 rfl
  have d1 := below_cell (Below.refl _ u) HBK.out 1 rfl
  have d2 := below_cell (Below.refl _ u) HBK.out 2 rfl
  have d3 := below_cell (Below.refl _ u) HBK.out 3 rfl
  have d4 := below_cell (Below.refl _ u) HBK.out 4 rfl
  have d5 := below_cell (Below.refl _ u) HBK.out 5 rfl
  have d6 := below_cell (Below.refl _ u) HBK.out 6 rfl
  go_upto_region 2 with (first
    | (go_at_call 8; refine (HF.out _).mono ?_; rintro e u1 ⟨rfl, hb1⟩)
    | (go_at_call 9; refine (HS.out _).mono ?_; rintro e u2 ⟨rfl, hb2⟩; have hbk2 := ((hb1.trans (hb2.mono hb1.size)).block _ (lt_of_block HBK.out)).trans HBK.out; have HS1 := Lib.hid (setRow_heap u2 B _ #[.slice x1 m1 c1, .slice x3 m2 c2, .int .i64 lf, .int .i64 ep, .int .i64 sq, .int .i64 us, .slice x5 m3 c3] _ _ hbk2))
    | (refine wpList_store_row rfl 29 _ _ rfl B #[.slice x1 m1 c1, .slice x3 m2 c2, .int .i64 lf, .int .i64 ep, .int .i64 sq, .int .i64 us, .slice x5 m3 c3] rfl rfl 29 _ hbk2 (by kernel_rfl) rfl (by simp [Value.oneCell']) ?_))
  have hb12 := hb1.trans (hb2.mono hb1.size)
  have hbu := below_setRow (HAL.out.trans (hb12.mono HAL.out.size)) (show w.heap.size ≤ B by rw [HBQ.out]; exact Nat.le_refl _) #[.slice x1 m1 c1, .slice x3 m2 c2, .int .i64 lf, .int .i64 ep, .int .i64 sq, .int .i64 us, .slice x5 m3 c3]
  obtain ⟨t0, hU⟩ : ∃ t0, u2.setRow B #[.slice x1 m1 c1, .slice x3 m2 c2, .int .i64 lf, .int .i64 ep, .int .i64 sq, .int .i64 us, .slice x5 m3 c3] = t0 := ⟨_, rfl⟩
  rw [hU] at HS1 hbu ⊢
  have HW0 := Lib.hid hbu
  have HP0 := HS1
  clear hU hbk2 hb1 hb2 hb12 hbu d0 d1 d2 d3 d4 d5 d6 HF HS HS1 HBK HAL
  have d0 := below_cell (Below.refl _ t0) HP0.out 0 rfl
  have d1 := below_cell (Below.refl _ t0) HP0.out 1 rfl
  have d2 := below_cell (Below.refl _ t0) HP0.out 2 rfl
  have d3 := below_cell (Below.refl _ t0) HP0.out 3 rfl
  have d4 := below_cell (Below.refl _ t0) HP0.out 4 rfl
  have d5 := below_cell (Below.refl _ t0) HP0.out 5 rfl
  have d6 := below_cell (Below.refl _ t0) HP0.out 6 rfl
  have HCK0 := Lib.hid (HCA.out t0 HW0.out)
  go_upto_region 3 with (first | (go_at_call 10; refine HCK0.out.mono ?_; rintro e s0 ⟨v, rfl, hlm, hb⟩; obtain ⟨ra1, ra2, ra3, ra4, ra5, ra6, rfl, _⟩ := id hlm.form))
  have hal := (Below.refl s0.heap.size s0).alloc (Nat.le_refl _) (.cells #[.slice ra1 A.secs.length ra2, .slice ra3 A.pend.length ra4, .int .i64 A.left, .int .i64 A.epoch, .int .i64 A.seq, .int .i64 A.used, .slice ra5 A.dirty.length ra6] 29)
  have hn := heap_alloc_new s0 (.cells #[.slice ra1 A.secs.length ra2, .slice ra3 A.pend.length ra4, .int .i64 A.left, .int .i64 A.epoch, .int .i64 A.seq, .int .i64 A.used, .slice ra5 A.dirty.length ra6] 29)
  have hb2 : Below t0.heap.size t0 (s0.alloc (.cells #[.slice ra1 A.secs.length ra2, .slice ra3 A.pend.length ra4, .int .i64 A.left, .int .i64 A.epoch, .int .i64 A.seq, .int .i64 A.used, .slice ra5 A.dirty.length ra6] 29)) := hb.trans (hal.mono hb.size)
  obtain ⟨E0, hE⟩ : ∃ E, s0.heap.size = E := ⟨_, rfl⟩
  have hl2 := hlm.below hal
  obtain ⟨t1, hU⟩ : ∃ t, s0.alloc (.cells #[.slice ra1 A.secs.length ra2, .slice ra3 A.pend.length ra4, .int .i64 A.left, .int .i64 A.epoch, .int .i64 A.seq, .int .i64 A.used, .slice ra5 A.dirty.length ra6] 29) = t := ⟨_, rfl⟩
  rw [hU] at hn hb2 hl2 ⊢
  rw [hE] at hn
  (try rw [hE])
  have HXra := Lib.hid hn; have HLra := Lib.hid hl2; have HW1 := Lib.hid (HW0.out.trans (hb2.mono HW0.out.size))
  have HP1 := Lib.hid ((hb2.block _ (lt_of_block HP0.out)).trans HP0.out)
  clear hU hE hal hn hb2 hl2 hlm hb HCK0 HCA HW0 HP0 d0 d1 d2 d3 d4 d5 d6
  have d0 := below_cell (Below.refl _ t1) HP1.out 0 rfl
  have d1 := below_cell (Below.refl _ t1) HP1.out 1 rfl
  have d2 := below_cell (Below.refl _ t1) HP1.out 2 rfl
  have d3 := below_cell (Below.refl _ t1) HP1.out 3 rfl
  have d4 := below_cell (Below.refl _ t1) HP1.out 4 rfl
  have d5 := below_cell (Below.refl _ t1) HP1.out 5 rfl
  have d6 := below_cell (Below.refl _ t1) HP1.out 6 rfl
  have HCK1 := Lib.hid (HCB.out t1 HW1.out)
  go_upto_region 4 with (first | (go_at_call 11; refine HCK1.out.mono ?_; rintro e s1 ⟨v, rfl, hlm, hb⟩; obtain ⟨rb1, rb2, rb3, rb4, rb5, rb6, rfl, _⟩ := id hlm.form))
  have hal := (Below.refl s1.heap.size s1).alloc (Nat.le_refl _) (.cells #[.slice rb1 A.secs.length rb2, .slice rb3 A.pend.length rb4, .int .i64 A.left, .int .i64 A.epoch, .int .i64 A.seq, .int .i64 A.used, .slice rb5 A.dirty.length rb6] 29)
  have hn := heap_alloc_new s1 (.cells #[.slice rb1 A.secs.length rb2, .slice rb3 A.pend.length rb4, .int .i64 A.left, .int .i64 A.epoch, .int .i64 A.seq, .int .i64 A.used, .slice rb5 A.dirty.length rb6] 29)
  have hb2 : Below t1.heap.size t1 (s1.alloc (.cells #[.slice rb1 A.secs.length rb2, .slice rb3 A.pend.length rb4, .int .i64 A.left, .int .i64 A.epoch, .int .i64 A.seq, .int .i64 A.used, .slice rb5 A.dirty.length rb6] 29)) := hb.trans (hal.mono hb.size)
  obtain ⟨E1, hE⟩ : ∃ E, s1.heap.size = E := ⟨_, rfl⟩
  have hl2 := hlm.below hal
  obtain ⟨t2, hU⟩ : ∃ t, s1.alloc (.cells #[.slice rb1 A.secs.length rb2, .slice rb3 A.pend.length rb4, .int .i64 A.left, .int .i64 A.epoch, .int .i64 A.seq, .int .i64 A.used, .slice rb5 A.dirty.length rb6] 29) = t := ⟨_, rfl⟩
  rw [hU] at hn hb2 hl2 ⊢
  rw [hE] at hn
  (try rw [hE])
  have HXrb := Lib.hid hn; have HLrb := Lib.hid hl2; have HW2 := Lib.hid (HW1.out.trans (hb2.mono HW1.out.size))
  have HP2 := Lib.hid ((hb2.block _ (lt_of_block HP1.out)).trans HP1.out)
  have HXra := Lib.hid ((hb2.block _ (lt_of_block HXra.out)).trans HXra.out)
  have HLra := Lib.hid (HLra.out.below hb2)
  clear hU hE hal hn hb2 hl2 hlm hb HCK1 HCB HW1 HP1 d0 d1 d2 d3 d4 d5 d6
  have d0 := below_cell (Below.refl _ t2) HP2.out 0 rfl
  have d1 := below_cell (Below.refl _ t2) HP2.out 1 rfl
  have d2 := below_cell (Below.refl _ t2) HP2.out 2 rfl
  have d3 := below_cell (Below.refl _ t2) HP2.out 3 rfl
  have d4 := below_cell (Below.refl _ t2) HP2.out 4 rfl
  have d5 := below_cell (Below.refl _ t2) HP2.out 5 rfl
  have d6 := below_cell (Below.refl _ t2) HP2.out 6 rfl
  have HCK2 := Lib.hid (HCC.out t2 HW2.out)
  go_upto_region 5 with (first | (go_at_call 12; refine HCK2.out.mono ?_; rintro e s2 ⟨v, rfl, hlm, hb⟩; obtain ⟨rc1, rc2, rc3, rc4, rc5, rc6, rfl, _⟩ := id hlm.form))
  have hal := (Below.refl s2.heap.size s2).alloc (Nat.le_refl _) (.cells #[.slice rc1 C.secs.length rc2, .slice rc3 C.pend.length rc4, .int .i64 C.left, .int .i64 C.epoch, .int .i64 C.seq, .int .i64 C.used, .slice rc5 C.dirty.length rc6] 29)
  have hn := heap_alloc_new s2 (.cells #[.slice rc1 C.secs.length rc2, .slice rc3 C.pend.length rc4, .int .i64 C.left, .int .i64 C.epoch, .int .i64 C.seq, .int .i64 C.used, .slice rc5 C.dirty.length rc6] 29)
  have hb2 : Below t2.heap.size t2 (s2.alloc (.cells #[.slice rc1 C.secs.length rc2, .slice rc3 C.pend.length rc4, .int .i64 C.left, .int .i64 C.epoch, .int .i64 C.seq, .int .i64 C.used, .slice rc5 C.dirty.length rc6] 29)) := hb.trans (hal.mono hb.size)
  obtain ⟨E2, hE⟩ : ∃ E, s2.heap.size = E := ⟨_, rfl⟩
  have hl2 := hlm.below hal
  obtain ⟨t3, hU⟩ : ∃ t, s2.alloc (.cells #[.slice rc1 C.secs.length rc2, .slice rc3 C.pend.length rc4, .int .i64 C.left, .int .i64 C.epoch, .int .i64 C.seq, .int .i64 C.used, .slice rc5 C.dirty.length rc6] 29) = t := ⟨_, rfl⟩
  rw [hU] at hn hb2 hl2 ⊢
  rw [hE] at hn
  (try rw [hE])
  have HXrc := Lib.hid hn; have HLrc := Lib.hid hl2; have HW3 := Lib.hid (HW2.out.trans (hb2.mono HW2.out.size))
  have HP3 := Lib.hid ((hb2.block _ (lt_of_block HP2.out)).trans HP2.out)
  have HXra := Lib.hid ((hb2.block _ (lt_of_block HXra.out)).trans HXra.out)
  have HLra := Lib.hid (HLra.out.below hb2)
  have HXrb := Lib.hid ((hb2.block _ (lt_of_block HXrb.out)).trans HXrb.out)
  have HLrb := Lib.hid (HLrb.out.below hb2)
  clear hU hE hal hn hb2 hl2 hlm hb HCK2 HCC HW2 HP2 d0 d1 d2 d3 d4 d5 d6
  have d0 := below_cell (Below.refl _ t3) HP3.out 0 rfl
  have d1 := below_cell (Below.refl _ t3) HP3.out 1 rfl
  have d2 := below_cell (Below.refl _ t3) HP3.out 2 rfl
  have d3 := below_cell (Below.refl _ t3) HP3.out 3 rfl
  have d4 := below_cell (Below.refl _ t3) HP3.out 4 rfl
  have d5 := below_cell (Below.refl _ t3) HP3.out 5 rfl
  have d6 := below_cell (Below.refl _ t3) HP3.out 6 rfl
  have HCK3 := Lib.hid (HCD.out t3 HW3.out)
  go_upto_region 6 with (first | (go_at_call 13; refine HCK3.out.mono ?_; rintro e s3 ⟨v, rfl, hlm, hb⟩; obtain ⟨rd1, rd2, rd3, rd4, rd5, rd6, rfl, _⟩ := id hlm.form))
  have hal := (Below.refl s3.heap.size s3).alloc (Nat.le_refl _) (.cells #[.slice rd1 C.secs.length rd2, .slice rd3 C.pend.length rd4, .int .i64 C.left, .int .i64 C.epoch, .int .i64 C.seq, .int .i64 C.used, .slice rd5 C.dirty.length rd6] 29)
  have hn := heap_alloc_new s3 (.cells #[.slice rd1 C.secs.length rd2, .slice rd3 C.pend.length rd4, .int .i64 C.left, .int .i64 C.epoch, .int .i64 C.seq, .int .i64 C.used, .slice rd5 C.dirty.length rd6] 29)
  have hb2 : Below t3.heap.size t3 (s3.alloc (.cells #[.slice rd1 C.secs.length rd2, .slice rd3 C.pend.length rd4, .int .i64 C.left, .int .i64 C.epoch, .int .i64 C.seq, .int .i64 C.used, .slice rd5 C.dirty.length rd6] 29)) := hb.trans (hal.mono hb.size)
  obtain ⟨E3, hE⟩ : ∃ E, s3.heap.size = E := ⟨_, rfl⟩
  have hl2 := hlm.below hal
  obtain ⟨t4, hU⟩ : ∃ t, s3.alloc (.cells #[.slice rd1 C.secs.length rd2, .slice rd3 C.pend.length rd4, .int .i64 C.left, .int .i64 C.epoch, .int .i64 C.seq, .int .i64 C.used, .slice rd5 C.dirty.length rd6] 29) = t := ⟨_, rfl⟩
  rw [hU] at hn hb2 hl2 ⊢
  rw [hE] at hn
  (try rw [hE])
  have HXrd := Lib.hid hn; have HLrd := Lib.hid hl2; have HW4 := Lib.hid (HW3.out.trans (hb2.mono HW3.out.size))
  have HP4 := Lib.hid ((hb2.block _ (lt_of_block HP3.out)).trans HP3.out)
  have HXra := Lib.hid ((hb2.block _ (lt_of_block HXra.out)).trans HXra.out)
  have HLra := Lib.hid (HLra.out.below hb2)
  have HXrb := Lib.hid ((hb2.block _ (lt_of_block HXrb.out)).trans HXrb.out)
  have HLrb := Lib.hid (HLrb.out.below hb2)
  have HXrc := Lib.hid ((hb2.block _ (lt_of_block HXrc.out)).trans HXrc.out)
  have HLrc := Lib.hid (HLrc.out.below hb2)
  clear hU hE hal hn hb2 hl2 hlm hb HCK3 HCD HW3 HP3 d0 d1 d2 d3 d4 d5 d6
  have HLA := Lib.hid (fun x (hx : Below t4.heap.size t4 x) => refLike5_any _ _ A A x (HLra.out.below hx) (HLrb.out.below hx))
  have HLC := Lib.hid (fun x (hx : Below t4.heap.size t4 x) => refLike5_any _ _ C C x (HLrc.out.below hx) (HLrd.out.below hx))
  have e1 : ∀ l : Lg, ((((decide (l.left = l.left ∧ l.dsk = l.dsk) && decide (l.epoch = l.epoch)) && decide (l.seq = l.seq)) && decide (l.used = l.used)) && decide (l.dirty = l.dirty)) = true := fun l => by simp
  rw [e1 A] at HLA
  rw [e1 C] at HLC
  clear e1
  have HT4 := Lib.hid (fun x (hx : Below t4.heap.size t4 x) => wlAlive x)
  go_wp2_with (first
    | (go_at_call 14; refine (wlAlive _).mono ?_; rintro e z1 ⟨rfl, hb1⟩; have fa0 := below_cell hb1 HXra.out 0 rfl; have fa1 := below_cell hb1 HXra.out 1 rfl; have fa2 := below_cell hb1 HXra.out 2 rfl; have fa3 := below_cell hb1 HXra.out 3 rfl; have fa4 := below_cell hb1 HXra.out 4 rfl; have fa5 := below_cell hb1 HXra.out 5 rfl; have fa6 := below_cell hb1 HXra.out 6 rfl; have fb0 := below_cell hb1 HXrb.out 0 rfl; have fb1 := below_cell hb1 HXrb.out 1 rfl; have fb2 := below_cell hb1 HXrb.out 2 rfl; have fb3 := below_cell hb1 HXrb.out 3 rfl; have fb4 := below_cell hb1 HXrb.out 4 rfl; have fb5 := below_cell hb1 HXrb.out 5 rfl; have fb6 := below_cell hb1 HXrb.out 6 rfl)
    | (go_at_call_of 15 ra1; refine (HLA.out _ hb1).mono ?_; rintro e z2 ⟨rfl, hb2⟩; have hb12 := hb1.trans (hb2.mono hb1.size); have fc0 := below_cell hb12 HXrc.out 0 rfl; have fc1 := below_cell hb12 HXrc.out 1 rfl; have fc2 := below_cell hb12 HXrc.out 2 rfl; have fc3 := below_cell hb12 HXrc.out 3 rfl; have fc4 := below_cell hb12 HXrc.out 4 rfl; have fc5 := below_cell hb12 HXrc.out 5 rfl; have fc6 := below_cell hb12 HXrc.out 6 rfl; have fd0 := below_cell hb12 HXrd.out 0 rfl; have fd1 := below_cell hb12 HXrd.out 1 rfl; have fd2 := below_cell hb12 HXrd.out 2 rfl; have fd3 := below_cell hb12 HXrd.out 3 rfl; have fd4 := below_cell hb12 HXrd.out 4 rfl; have fd5 := below_cell hb12 HXrd.out 5 rfl; have fd6 := below_cell hb12 HXrd.out 6 rfl)
    | (go_at_call_of 15 rc1; refine (HLC.out _ hb12).mono ?_; rintro e z3 ⟨rfl, hb3⟩))
  go_ret
  have hb123 := hb12.trans (hb3.mono hb12.size)
  exact ⟨rfl, HW4.out.trans (hb123.mono HW4.out.size)⟩
end Go.Proofs.YthnmnnlbglpjaaaGreatDoor.lawWalCommits
