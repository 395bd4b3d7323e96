/- The walk of WalOpens. -/
import Derived.Test.YthnmnnlbglpjaaaGreatDoorRfo2
import Derived.Test.YthnmnnlbglpjaaaGreatDoorWlS
import Derived.Test.YthnmnnlbglpjaaaGreatDoorPk6
import Derived.Test.YthnmnnlbglpjaaaGreatDoorPower
import Derived.Outline
namespace Go.Proofs.YthnmnnlbglpjaaaGreatDoor.lawWalOpens
open Go.RowKit
set_option linter.unusedVariables false
set_option linter.unusedSimpArgs false

set_option maxRecDepth 100000 in
set_option maxHeartbeats 4000000 in
theorem walk (v0 : Value) (d : Dsk × Int) (w : World) (w0 : IsPower w v0 d.1 d.2 ∧ -9223372036854775808 ≤ d.2 ∧ d.2 ≤ 9223372036854775807) :
    Calls Tryz.prog 4 #[v0] w fun e w' => e = .returned (.bool true) ∧ Below w.heap.size w w' := by
  obtain ⟨d, left⟩ := d
  obtain ⟨⟨sv, pv, rfl, hs, hp⟩, hlo, hhi⟩ := w0
  obtain ⟨a, len, cap, rfl, hl, hc1, hc2, hts⟩ := hs.take
  obtain ⟨a', len', cap', rfl, hl', hc1', hc2', htp⟩ := hp.take
  have hD : IsPower w (.agg #[.slice a (min len 300) cap, .slice a' (min len' 60) cap', .int .i64 left]) ⟨d.secs.take (min len 300), d.pend.take (min len' 60)⟩ left := ⟨_, _, rfl, hts _ (Nat.min_le_left _ _), htp _ (Nat.min_le_left _ _)⟩
  generalize (⟨d.secs.take (min len 300), d.pend.take (min len' 60)⟩ : Dsk) = D at *
  obtain ⟨m, hm, hm1, hm2, hm3⟩ := min_if len 300 (by omega)
  obtain ⟨k, hk, hk1, hk2, hk3⟩ := min_if len' 60 (by omega)
  have hmm : min (len : Int) 300 = m := by omega
  have hkk : min (len' : Int) 60 = k := by omega
  rw [show min len 300 = m from by omega, show min len' 60 = k from by omega] at hD
  have hmI : (m : Int) ≤ cap := by omega
  have hkI : (k : Int) ≤ cap' := by omega
  have hcI : (cap : Int) ≤ 9223372036854775807 := by omega
  have hcI' : (cap' : Int) ≤ 9223372036854775807 := by omega
  have hlI : (len : Int) ≤ 9223372036854775807 := by omega
  have hlI' : (len' : Int) ≤ 9223372036854775807 := by omega
  have hpl : D.pend.length ≤ 600 := by obtain ⟨_, _, e, _, h2⟩ := hD; injection e with e; have f2 := congrArg (fun z : Array Value => z[1]?) e; simp at f2; subst f2; have := wrts_len h2; omega
  have HOA := Lib.hid (fun u (hu : Below w.heap.size w u) => wlOpen _ D left u (hD.below hu) ⟨hlo, hhi⟩ hpl)
  have HOB := Lib.hid (fun u (hu : Below w.heap.size w u) => refOpen5 _ D left u (hD.below hu) ⟨hlo, hhi⟩ hpl)
  generalize opL D left = CL at *
  generalize opE D left = CE at *
  obtain ⟨B, hB⟩ : ∃ B, w.heap.size = B := ⟨_, rfl⟩
  have hblk := heap_alloc_new w (.cells #[.slice a len cap, .slice a' len' cap', .int .i64 left] 27)
  have hal := (Below.refl w.heap.size w).alloc (Nat.le_refl _) (.cells #[.slice a len cap, .slice a' len' cap', .int .i64 left] 27)
  rw [hB] at hblk
  have HBK := Lib.hid hblk; have HAL := Lib.hid hal; have HBQ := Lib.hid hB
  clear hD hpl hblk hal hB hs hp hts htp hl hl' hlo hhi hm3 hk3 hc1 hc2 hc1' hc2'
  go_enter Tryz.func4, Tryz.ntmps4
  go_upto_region 1 with fail
  (try rw [HBQ.out])
  obtain ⟨u, hU⟩ : ∃ u, w.alloc (.cells #[.slice a len cap, .slice a' len' cap', .int .i64 left] 27) = u := ⟨_, rfl⟩
  rw [hU] at HBK HAL ⊢
  clear hU
  have d0 := below_cell (Below.refl _ u) HBK.out 0 rfl
  have d1 := below_cell (Below.refl _ u) HBK.out 1 rfl
  have f0 := block_frozen HBK.out 0
  have f1 := block_frozen HBK.out 1
  go_region
  have hP0 : (((u.setCell ⟨B, 0, none⟩ (.slice a m cap)).setCell ⟨B, 1, none⟩ (.slice a' k cap')).drew).heap[B]? = _ := block_set (block_set HBK.out 0 (.slice a m cap)) 1 (.slice a' k cap')
  have hW0 := (HAL.out.setCell (p := ⟨B, 0, none⟩) (show w.heap.size ≤ B by rw [HBQ.out]; exact Nat.le_refl _) (.slice a m cap)).setCell (p := ⟨B, 1, none⟩) (show w.heap.size ≤ B by rw [HBQ.out]; exact Nat.le_refl _) (.slice a' k cap')
  have hW0 := hW0.drew
  rw [show (((#[Value.slice a len cap, Value.slice a' len' cap', .int .i64 left] : Array Value).setIfInBounds 0 (.slice a m cap)).setIfInBounds 1 (.slice a' k cap')) = #[.slice a m cap, .slice a' k cap', .int .i64 left] from rfl] at hP0
  obtain ⟨t0, hU⟩ : ∃ t0, ((u.setCell ⟨B, 0, none⟩ (.slice a m cap)).setCell ⟨B, 1, none⟩ (.slice a' k cap')).drew = t0 := ⟨_, rfl⟩
  rw [hU] at hP0 hW0 ⊢
  have HP0 := Lib.hid hP0; have HW0 := Lib.hid hW0
  clear hU hP0 hW0 d0 d1 f0 f1 HBK HAL hmm hkk hm hm1 hm2 hk hk1 hk2 hmI hkI hcI hcI' hlI hlI'
  have d0 := below_cell (Below.refl _ t0) HP0.out 0 rfl
  have d1 := below_cell (Below.refl _ t0) HP0.out 1 rfl
  have d2 := below_cell (Below.refl _ t0) HP0.out 2 rfl
  have HCK := Lib.hid (HOA.out t0 HW0.out)
  go_upto_region 3 with (first | (go_at_call 16; refine HCK.out.mono ?_; rintro e s0 ⟨v, rfl, hlm, hb⟩; obtain ⟨ra1, ra2, ra3, ra4, ra5, ra6, rfl, _⟩ := id hlm.form))
  have hal := (Below.refl s0.heap.size s0).alloc (Nat.le_refl _) (.cells #[.slice ra1 CL.secs.length ra2, .slice ra3 CL.pend.length ra4, .int .i64 CL.left, .int .i64 CL.epoch, .int .i64 CL.seq, .int .i64 CL.used, .slice ra5 CL.dirty.length ra6] 29)
  have hn := heap_alloc_new s0 (.cells #[.slice ra1 CL.secs.length ra2, .slice ra3 CL.pend.length ra4, .int .i64 CL.left, .int .i64 CL.epoch, .int .i64 CL.seq, .int .i64 CL.used, .slice ra5 CL.dirty.length ra6] 29)
  have hb2 : Below t0.heap.size t0 (s0.alloc (.cells #[.slice ra1 CL.secs.length ra2, .slice ra3 CL.pend.length ra4, .int .i64 CL.left, .int .i64 CL.epoch, .int .i64 CL.seq, .int .i64 CL.used, .slice ra5 CL.dirty.length ra6] 29)) := hb.trans (hal.mono hb.size)
  obtain ⟨E0, hE⟩ : ∃ E, s0.heap.size = E := ⟨_, rfl⟩
  have hl2 := hlm.below hal
  obtain ⟨t1, hU⟩ : ∃ t, s0.alloc (.cells #[.slice ra1 CL.secs.length ra2, .slice ra3 CL.pend.length ra4, .int .i64 CL.left, .int .i64 CL.epoch, .int .i64 CL.seq, .int .i64 CL.used, .slice ra5 CL.dirty.length ra6] 29) = t := ⟨_, rfl⟩
  rw [hU] at hn hb2 hl2 ⊢
  rw [hE] at hn
  (try rw [hE])
  have HXra := Lib.hid hn; have HLra := Lib.hid hl2; have HW1 := Lib.hid (HW0.out.trans (hb2.mono HW0.out.size))
  have HP1 := Lib.hid ((hb2.block _ (lt_of_block HP0.out)).trans HP0.out)
  clear hU hE hal hn hb2 hl2 hlm hb HCK HW0 HP0 d0 d1 d2
  have d0 := below_cell (Below.refl _ t1) HP1.out 0 rfl
  have d1 := below_cell (Below.refl _ t1) HP1.out 1 rfl
  have d2 := below_cell (Below.refl _ t1) HP1.out 2 rfl
  have HCK := Lib.hid (HOB.out t1 HW1.out)
  go_upto_region 4 with (first | (go_at_call 17; refine HCK.out.mono ?_; rintro e s1 ⟨v, rfl, hlm, hb⟩; obtain ⟨rb1, rb2, rb3, rb4, rb5, rb6, rfl, _⟩ := id hlm.form))
  have hal := (Below.refl s1.heap.size s1).alloc (Nat.le_refl _) (.cells #[.slice rb1 CL.secs.length rb2, .slice rb3 CL.pend.length rb4, .int .i64 CL.left, .int .i64 CL.epoch, .int .i64 CL.seq, .int .i64 CL.used, .slice rb5 CL.dirty.length rb6] 29)
  have hn := heap_alloc_new s1 (.cells #[.slice rb1 CL.secs.length rb2, .slice rb3 CL.pend.length rb4, .int .i64 CL.left, .int .i64 CL.epoch, .int .i64 CL.seq, .int .i64 CL.used, .slice rb5 CL.dirty.length rb6] 29)
  have hb2 : Below t1.heap.size t1 (s1.alloc (.cells #[.slice rb1 CL.secs.length rb2, .slice rb3 CL.pend.length rb4, .int .i64 CL.left, .int .i64 CL.epoch, .int .i64 CL.seq, .int .i64 CL.used, .slice rb5 CL.dirty.length rb6] 29)) := hb.trans (hal.mono hb.size)
  obtain ⟨E1, hE⟩ : ∃ E, s1.heap.size = E := ⟨_, rfl⟩
  have hl2 := hlm.below hal
  obtain ⟨t2, hU⟩ : ∃ t, s1.alloc (.cells #[.slice rb1 CL.secs.length rb2, .slice rb3 CL.pend.length rb4, .int .i64 CL.left, .int .i64 CL.epoch, .int .i64 CL.seq, .int .i64 CL.used, .slice rb5 CL.dirty.length rb6] 29) = t := ⟨_, rfl⟩
  rw [hU] at hn hb2 hl2 ⊢
  rw [hE] at hn
  (try rw [hE])
  have HXrb := Lib.hid hn; have HLrb := Lib.hid hl2; have HW2 := Lib.hid (HW1.out.trans (hb2.mono HW1.out.size))
  have HP2 := Lib.hid ((hb2.block _ (lt_of_block HP1.out)).trans HP1.out)
  have HXra := Lib.hid ((hb2.block _ (lt_of_block HXra.out)).trans HXra.out)
  have HLra := Lib.hid (HLra.out.below hb2)
  clear hU hE hal hn hb2 hl2 hlm hb HCK HW1 HP1 d0 d1 d2
  have HLA := Lib.hid (fun x (hx : Below t2.heap.size t2 x) => refLike5_any _ _ CL CL x (HLra.out.below hx) (HLrb.out.below hx))
  have e1 : ((((decide (CL.left = CL.left ∧ CL.dsk = CL.dsk) && decide (CL.epoch = CL.epoch)) && decide (CL.seq = CL.seq)) && decide (CL.used = CL.used)) && decide (CL.dirty = CL.dirty)) = true := by simp
  rw [e1] at HLA
  clear e1 HOA HOB
  go_wp2_with (first
    | (go_at_call 14; refine (wlAlive _).mono ?_; rintro e z1 ⟨rfl, hb1⟩; have fa0 := below_cell hb1 HXra.out 0 rfl; have fa1 := below_cell hb1 HXra.out 1 rfl; have fa2 := below_cell hb1 HXra.out 2 rfl; have fa3 := below_cell hb1 HXra.out 3 rfl; have fa4 := below_cell hb1 HXra.out 4 rfl; have fa5 := below_cell hb1 HXra.out 5 rfl; have fa6 := below_cell hb1 HXra.out 6 rfl; have fb0 := below_cell hb1 HXrb.out 0 rfl; have fb1 := below_cell hb1 HXrb.out 1 rfl; have fb2 := below_cell hb1 HXrb.out 2 rfl; have fb3 := below_cell hb1 HXrb.out 3 rfl; have fb4 := below_cell hb1 HXrb.out 4 rfl; have fb5 := below_cell hb1 HXrb.out 5 rfl; have fb6 := below_cell hb1 HXrb.out 6 rfl)
    | (go_at_call 15; refine (HLA.out _ hb1).mono ?_; rintro e z2 ⟨rfl, hb2⟩))
  go_ret
  have hb12 := hb1.trans (hb2.mono hb1.size)
  exact ⟨rfl, HW2.out.trans (hb12.mono HW2.out.size)⟩
end Go.Proofs.YthnmnnlbglpjaaaGreatDoor.lawWalOpens
