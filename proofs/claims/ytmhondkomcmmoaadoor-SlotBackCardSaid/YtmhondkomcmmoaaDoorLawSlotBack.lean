/- The walk of SlotBack. -/
import Derived.Test.YtmhondkomcmmoaaDoorSlotA
import Derived.Outline
namespace Go.Proofs.YtmhondkomcmmoaaDoor.lawSlotBack
open Go.RowKit
set_option linter.unusedVariables false

theorem head_back (h : Hd) (ho : h.ok = true) : headV h.bytes = h ∧ headE h.bytes = 0 := by
  have e := headOf_lay h.epoch h.seq h.tgt ho
  have e' : headOf h.bytes = h := e
  have his : headIs h.bytes := by unfold headIs; rw [e']; exact ⟨ho, rfl⟩
  unfold headV headE
  rw [if_pos his, if_pos his]
  exact ⟨e', rfl⟩
theorem head_size (h : Hd) (ho : h.ok = true) : h.bytes.size ≤ 93 := by
  refine Nat.le_trans (lay_size _) ?_
  rw [headL_len]
  unfold Hd.ok headOk at ho
  rw [Bool.and_eq_true, Bool.and_eq_true] at ho
  have := (of_decide_eq_true ho.2.2).2.1
  omega
theorem kind_super (s : ByteArray) (h : superIs s) : partN s 0 1 = 1 := by
  have := (super_part (partN s 1 6 : Nat) h.1.1 h.1.2).2
  rwa [h.2] at this
theorem kind_commit (s : ByteArray) (h : commitIs s) : partN s 0 1 = 3 := by
  have := (commit_part (partN s 1 6 : Nat) (partN s 7 1 : Nat) h.1.1 h.1.2).2.2
  rwa [h.2] at this
theorem kind_head (s : ByteArray) (h : headIs s) : partN s 0 1 = 2 := by
  have := (head_part _ _ _ h.1).2.2.2.1
  have e : (headOf s).bytes = s := h.2
  unfold Hd.bytes at e
  rwa [e] at this
theorem kinds (s : ByteArray) : (superIs s ∧ ¬ headIs s ∧ ¬ commitIs s) ∨ (¬ superIs s ∧ headIs s ∧ ¬ commitIs s) ∨ (¬ superIs s ∧ ¬ headIs s ∧ commitIs s) ∨ (¬ superIs s ∧ ¬ headIs s ∧ ¬ commitIs s) := by
  have a := kind_super s
  have b := kind_head s
  have c := kind_commit s
  by_cases h1 : superIs s
  · refine .inl ⟨h1, fun h => ?_, fun h => ?_⟩
    · have := a h1; have := b h; omega
    · have := a h1; have := c h; omega
  · by_cases h2 : headIs s
    · refine .inr (.inl ⟨h1, h2, fun h => ?_⟩)
      have := b h2; have := c h; omega
    · by_cases h3 : commitIs s
      · exact .inr (.inr (.inl ⟨h1, h2, h3⟩))
      · exact .inr (.inr (.inr ⟨h1, h2, h3⟩))
set_option maxRecDepth 100000 in
set_option maxHeartbeats 4000000 in
theorem walk (v0 : Value) (h : Hd) (s0 : ByteArray) (w : World) (w0 : IsHd w v0 h) (ws : s0.size ≤ 9223372036854775807) :
    Calls Tryd.prog 5 #[v0, .string s0] w fun e w' => e = .returned (.bool true) ∧ Below w.heap.size w w' := by
  obtain ⟨E, S, L⟩ := h
  obtain ⟨tv, rfl, hr⟩ := w0
  obtain ⟨a, len, cap, rfl, hl, hc1, hc2, hts⟩ := hr.take
  have hL : IsHd w (.agg #[.int .i64 E, .int .i64 S, .slice a (min len 60) cap]) ⟨E, S, L.take (min len 60)⟩ := ⟨_, rfl, hts _ (Nat.min_le_left _ _)⟩
  have HFEW := Lib.hid (fun u => slotFew_any E S a len cap u hc1 hc2)
  generalize L.take (min len 60) = M at *
  generalize min len 60 = m at *
  have HH := Lib.hid hL
  obtain ⟨p, hp, hp1, hp2, hp3⟩ := min_if s0.size 700 (by omega)
  have hpp : min (s0.size : Int) 700 = p := by omega
  have hpI : (p : Int) ≤ s0.size := by omega
  have hpI0 : (0 : Int) ≤ p := by omega
  have hxI : (s0.size : Int) ≤ 9223372036854775807 := by omega
  have hp3' : min s0.size 700 = p := hp3.symm
  obtain ⟨s, hs⟩ : ∃ s, s0.extract 0 p = s := ⟨_, rfl⟩
  have hsz : s.size ≤ 2000 := by rw [← hs, ByteArray.size_extract]; omega
  have HSZ := Lib.hid hsz
  have hw2 := (Below.refl w.heap.size w).alloc (Nat.le_refl _) (.cells #[.int .i64 E, .int .i64 S, .slice a len cap] 24)
  have hA := heap_alloc_new w (.cells #[.int .i64 E, .int .i64 S, .slice a len cap] 24)
  clear hr hts hl hc1 hc2 hL ws hsz hp3
  try dsimp only
  go_enter Tryd.func5, Tryd.ntmps5
  go_upto_region 1 with fail
  obtain ⟨w2, hW⟩ : ∃ w2, w.alloc (.cells #[.int .i64 E, .int .i64 S, .slice a len cap] 24) = w2 := ⟨_, rfl⟩
  rw [hW] at hA hw2 ⊢
  have HA := Lib.hid hA
  have x0 := below_cell (Below.refl _ w2) hA 0 rfl
  have x1 := below_cell (Below.refl _ w2) hA 1 rfl
  have x2 := below_cell (Below.refl _ w2) hA 2 rfl
  have hlA := (Array.getElem?_eq_some_iff.1 hA).1
  clear hW hA
  go_cut [1] (fun sv wx => sv = .string s ∧ wx.heap[w.heap.size]? = some (.cells #[.int .i64 E, .int .i64 S, .slice a m cap] 24 (0, 0)) ∧ Below w.heap.size w wx)
  case first =>
    go_region_with (first
      | (go_at_call 7; refine (HFEW.out _).mono ?_; rintro e w4 ⟨rfl, hb4⟩; have hA4 := (hb4.block _ hlA).trans HA.out; have t0 := below_cell (Below.refl _ w4) hA4 0 rfl; have t1 := below_cell (Below.refl _ w4) hA4 1 rfl; have t2 := below_cell (Below.refl _ w4) hA4 2 rfl; have g0 := block_frozen hA4 0; have g1 := block_frozen hA4 1; have g2 := block_frozen hA4 2)
      | fail)
    all_goals
      have hbb : Below w.heap.size w w4 := hw2.drew.trans (hb4.mono hw2.size)
      have r1 := block_set (block_set (block_set hA4 0 (.int .i64 E)) 1 (.int .i64 S)) 2 (.slice a m cap)
      have r2 := ((hbb.setCell (p := ⟨w.heap.size, 0, none⟩) (Nat.le_refl _) (.int .i64 E)).setCell (p := ⟨w.heap.size, 1, none⟩) (Nat.le_refl _) (.int .i64 S)).setCell (p := ⟨w.heap.size, 2, none⟩) (Nat.le_refl _) (.slice a m cap)
      have R := Lib.hid (And.intro r1 r2)
      have HS := Lib.hid hs
      clear r1 r2 hbb hA4 hb4 t0 t1 t2 g0 g1 g2 x0 x1 x2 hs
      go_wp2_with fail
      go_meet
      exact ⟨by rw [← HS.out]; try rw [hp3'], R.out⟩
  case rest =>
  obtain ⟨rfl, hA, hw5⟩ := hcut
  clear x0 x1 x2 HA hw2 hlA HFEW hs hp hp1 hp2 hpp hpI hpI0 hxI hp3'
  have x0 := below_cell (Below.refl _ wc) hA 0 rfl
  have x1 := below_cell (Below.refl _ wc) hA 1 rfl
  have x2 := below_cell (Below.refl _ wc) hA 2 rfl
  go_wp2_with fail
  refine (slotHead_any _ _ wc (HH.out.below hw5)).mono ?_
  rintro e w6 ⟨rfl, hb6⟩
  have hA6 := (hb6.block _ (Array.getElem?_eq_some_iff.1 hA).1).trans hA
  have hw6 := hw5.trans (hb6.mono hw5.size)
  clear hA hw5 hb6 x0 x1 x2
  obtain ⟨h, hh⟩ : ∃ h : Hd, (⟨E, S, M⟩ : Hd) = h := ⟨_, rfl⟩
  rw [hh] at HH ⊢
  clear hh
  by_cases ho : h.ok = true
  · rw [show h.wS = h.bytes from if_pos ho, show h.wE = 0 from if_pos ho]
    obtain ⟨b1, b2⟩ := head_back h ho
    have hbs := head_size h ho
    have HRH := Lib.hid (fun u => slotReadHead_any h.bytes u (by omega))
    rw [b1, b2] at HRH
    have hbI : (h.bytes.size : Int) ≤ 93 := by omega
    generalize h.bytes = X at *
    clear b1 b2 hbs ho
    go_wp2_with fail
    refine (HRH.out _).mono ?_
    rintro e w7 ⟨v7, rfl, hh7, hb7⟩
    have hh7' := hh7
    obtain ⟨tv7, rfl, ta7, tn7, tc7, rfl, _⟩ := hh7'
    have hA7 := (hb7.block _ (Array.getElem?_eq_some_iff.1 hA6).1).trans hA6
    have hw7 := hw6.trans (hb7.mono hw6.size)
    clear hA6 hw6 hb7 HRH
    go_upto_region 5 with fail
    have hal := (Below.refl _ w7).alloc (Nat.le_refl _) (.cells #[.int .i64 h.epoch, .int .i64 h.seq, .slice ta7 tn7 tc7] 24)
    have hB8 := heap_alloc_new w7 (.cells #[.int .i64 h.epoch, .int .i64 h.seq, .slice ta7 tn7 tc7] 24)
    have hA8 := (hal.block _ (Array.getElem?_eq_some_iff.1 hA7).1).trans hA7
    have hh8 := hh7.below hal
    have hw8 := hw7.alloc hw7.size (.cells #[.int .i64 h.epoch, .int .i64 h.seq, .slice ta7 tn7 tc7] 24)
    obtain ⟨w8, hW⟩ : ∃ w8, w7.alloc (.cells #[.int .i64 h.epoch, .int .i64 h.seq, .slice ta7 tn7 tc7] 24) = w8 := ⟨_, rfl⟩
    rw [hW] at hB8 hA8 hh8 hw8 ⊢
    clear hW hal hA7 hw7 hh7
    have x0 := below_cell (Below.refl _ w8) hA8 0 rfl
    have x1 := below_cell (Below.refl _ w8) hA8 1 rfl
    have x2 := below_cell (Below.refl _ w8) hA8 2 rfl
    have y0 := below_cell (Below.refl _ w8) hB8 0 rfl
    have y1 := below_cell (Below.refl _ w8) hB8 1 rfl
    have y2 := below_cell (Below.refl _ w8) hB8 2 rfl
    have HL := Lib.hid (ref4LikeHead_any _ _ h h w8 (HH.out.below hw8) hh8)
    rw [decide_eq_true (rfl : h = h)] at HL
    go_wp2_with fail
    refine HL.out.mono ?_
    rintro e w9 ⟨rfl, hb9⟩
    have hw9 := hw8.trans (hb9.mono hw8.size)
    clear x0 x1 x2 y0 y1 y2 hA8 hB8 hh8 hw8 hb9 HL HH
    go_upto_region 8 with fail
    rcases kinds s with ⟨k1, k2, k3⟩ | ⟨k1, k2, k3⟩ | ⟨k1, k2, k3⟩ | ⟨k1, k2, k3⟩
    · have q1 := slotReadSuper_any s w9 HSZ.out
      rw [show superV s = ((partN s 1 6 : Nat) : Int) from if_pos k1, show superE s = 0 from if_pos k1] at q1
      have hs1 : supS (partN s 1 6 : Nat) = s := (if_pos k1.1).trans k1.2
      have hs2 : supE (partN s 1 6 : Nat) = 0 := if_pos k1.1
      have HSU := Lib.hid (fun u => slotSuper_any (partN s 1 6 : Nat) u)
      rw [hs1, hs2] at HSU
      generalize ((partN s 1 6 : Nat) : Int) = N at *
      have Q1 := Lib.hid q1
      have hk2 : headE s = 4 := if_neg k2
      have Q2 := Lib.hid (fun u => slotReadHead_any s u HSZ.out)
      rw [hk2] at Q2
      generalize headV s = hd at *
      have Q3 := Lib.hid (fun u => slotReadCommit_any s u HSZ.out)
      rw [show commitV s = 0 from if_neg k3, show commitW s = 0 from if_neg k3, show commitE s = 4 from if_neg k3] at Q3
      clear q1 k1 k2 k3 hk2 hs1 hs2
      go_wp2_with fail
      refine Q1.out.mono ?_
      rintro e u1 ⟨rfl, hb1⟩
      have hu1 := hw9.trans (hb1.mono hw9.size)
      go_upto_region 9 with fail
      have hB1 := heap_alloc_new u1 (.cells #[.int .i64 N] 30)
      have hu2 := hu1.alloc hu1.size (.cells #[.int .i64 N] 30)
      obtain ⟨u2, hU⟩ : ∃ u2, u1.alloc (.cells #[.int .i64 N] 30) = u2 := ⟨_, rfl⟩
      rw [hU] at hB1 hu2 ⊢
      clear hU hu1 hb1 Q1
      have y0 := below_cell (Below.refl _ u2) hB1 0 rfl
      go_wp2_with fail
      refine (HSU.out _).mono ?_
      rintro e u3 ⟨rfl, hb3⟩
      have hu3 := hu2.trans (hb3.mono hu2.size)
      clear y0 hb3 hu2 HSU hB1
      go_wp2_with fail
      refine (Q2.out _).mono ?_
      rintro e u4 ⟨v4, rfl, hh4, hb4⟩
      have hu4 := hu3.trans (hb4.mono hu3.size)
      have hh4' := hh4
      obtain ⟨tv, rfl, ta, tn, tc, rfl, _⟩ := hh4'
      go_upto_region 15 with fail
      have hB2 := heap_alloc_new u4 (.cells #[.int .i64 hd.epoch, .int .i64 hd.seq, .slice ta tn tc] 24)
      have hh5 := hh4.below ((Below.refl _ u4).alloc (Nat.le_refl _) (.cells #[.int .i64 hd.epoch, .int .i64 hd.seq, .slice ta tn tc] 24))
      have hu5 := hu4.alloc hu4.size (.cells #[.int .i64 hd.epoch, .int .i64 hd.seq, .slice ta tn tc] 24)
      obtain ⟨u5, hU⟩ : ∃ u5, u4.alloc (.cells #[.int .i64 hd.epoch, .int .i64 hd.seq, .slice ta tn tc] 24) = u5 := ⟨_, rfl⟩
      rw [hU] at hB2 hu5 hh5 ⊢
      clear hU hu4 hb4 hh4 Q2 hu3
      go_wp2_with fail
      refine (Q3.out _).mono ?_
      rintro e u7 ⟨rfl, hb7⟩
      have hu7 := hu5.trans (hb7.mono hu5.size)
      clear hb7 Q3 hu5
      go_wp2_with fail
      refine (slotAlive _).mono ?_
      rintro e u9 ⟨rfl, hb9⟩
      go_wp2_with fail
      go_ret
      exact ⟨rfl, hu7.trans (hb9.mono hu7.size)⟩
    · have q1 := slotReadSuper_any s w9 HSZ.out
      rw [show superV s = 0 from if_neg k1, show superE s = 4 from if_neg k1] at q1
      have Q1 := Lib.hid q1
      have hk2 : headE s = 0 := if_pos k2
      have Q2 := Lib.hid (fun u => slotReadHead_any s u HSZ.out)
      rw [hk2] at Q2
      have hv2 : headV s = headOf s := if_pos k2
      rw [hv2] at Q2
      have hw1 : (headOf s).wS = s := (if_pos k2.1).trans k2.2
      have hw2 : (headOf s).wE = 0 := if_pos k2.1
      have HHD := Lib.hid (fun v u hu => slotHead_any v (headOf s) u hu)
      rw [hw1, hw2] at HHD
      generalize headOf s = hd at *
      have Q3 := Lib.hid (fun u => slotReadCommit_any s u HSZ.out)
      rw [show commitV s = 0 from if_neg k3, show commitW s = 0 from if_neg k3, show commitE s = 4 from if_neg k3] at Q3
      clear q1 k1 k2 k3 hk2 hv2 hw1 hw2
      go_wp2_with fail
      refine Q1.out.mono ?_
      rintro e u1 ⟨rfl, hb1⟩
      have hu1 := hw9.trans (hb1.mono hw9.size)
      go_upto_region 9 with fail
      have hB1 := heap_alloc_new u1 (.cells #[.int .i64 0] 30)
      have hu2 := hu1.alloc hu1.size (.cells #[.int .i64 0] 30)
      obtain ⟨u2, hU⟩ : ∃ u2, u1.alloc (.cells #[.int .i64 0] 30) = u2 := ⟨_, rfl⟩
      rw [hU] at hB1 hu2 ⊢
      clear hU hu1 hb1 Q1
      go_wp2_with fail
      refine (Q2.out _).mono ?_
      rintro e u4 ⟨v4, rfl, hh4, hb4⟩
      have hu4 := hu2.trans (hb4.mono hu2.size)
      have hh4' := hh4
      obtain ⟨tv, rfl, ta, tn, tc, rfl, _⟩ := hh4'
      go_upto_region 15 with fail
      have hB2 := heap_alloc_new u4 (.cells #[.int .i64 hd.epoch, .int .i64 hd.seq, .slice ta tn tc] 24)
      have hh5 := hh4.below ((Below.refl _ u4).alloc (Nat.le_refl _) (.cells #[.int .i64 hd.epoch, .int .i64 hd.seq, .slice ta tn tc] 24))
      have hu5 := hu4.alloc hu4.size (.cells #[.int .i64 hd.epoch, .int .i64 hd.seq, .slice ta tn tc] 24)
      obtain ⟨u5, hU⟩ : ∃ u5, u4.alloc (.cells #[.int .i64 hd.epoch, .int .i64 hd.seq, .slice ta tn tc] 24) = u5 := ⟨_, rfl⟩
      rw [hU] at hB2 hu5 hh5 ⊢
      clear hU hu4 hb4 hh4 Q2 hu2
      have y0 := below_cell (Below.refl _ u5) hB2 0 rfl
      have y1 := below_cell (Below.refl _ u5) hB2 1 rfl
      have y2 := below_cell (Below.refl _ u5) hB2 2 rfl
      go_wp2_with fail
      refine (HHD.out _ u5 hh5).mono ?_
      rintro e u6 ⟨rfl, hb6⟩
      have hu6 := hu5.trans (hb6.mono hu5.size)
      clear y0 y1 y2 hb6 hu5 HHD hB2 hh5
      go_wp2_with fail
      refine (Q3.out _).mono ?_
      rintro e u7 ⟨rfl, hb7⟩
      have hu7 := hu6.trans (hb7.mono hu6.size)
      clear hb7 Q3 hu6
      go_wp2_with fail
      refine (slotAlive _).mono ?_
      rintro e u9 ⟨rfl, hb9⟩
      go_wp2_with fail
      go_ret
      exact ⟨rfl, hu7.trans (hb9.mono hu7.size)⟩
    · have q1 := slotReadSuper_any s w9 HSZ.out
      rw [show superV s = 0 from if_neg k1, show superE s = 4 from if_neg k1] at q1
      have Q1 := Lib.hid q1
      have hk2 : headE s = 4 := if_neg k2
      have Q2 := Lib.hid (fun u => slotReadHead_any s u HSZ.out)
      rw [hk2] at Q2
      generalize headV s = hd at *
      have Q3 := Lib.hid (fun u => slotReadCommit_any s u HSZ.out)
      rw [show commitV s = ((partN s 1 6 : Nat) : Int) from if_pos k3, show commitW s = ((partN s 7 1 : Nat) : Int) from if_pos k3, show commitE s = 0 from if_pos k3] at Q3
      have hc1 : comS (partN s 1 6 : Nat) (partN s 7 1 : Nat) = s := (if_pos k3.1).trans k3.2
      have hc2 : comE (partN s 1 6 : Nat) (partN s 7 1 : Nat) = 0 := if_pos k3.1
      have HCO := Lib.hid (fun u => slotCommit_any (partN s 1 6 : Nat) (partN s 7 1 : Nat) u)
      rw [hc1, hc2] at HCO
      generalize ((partN s 1 6 : Nat) : Int) = N at *
      generalize ((partN s 7 1 : Nat) : Int) = N2 at *
      clear q1 k1 k2 k3 hk2 hc1 hc2
      go_wp2_with fail
      refine Q1.out.mono ?_
      rintro e u1 ⟨rfl, hb1⟩
      have hu1 := hw9.trans (hb1.mono hw9.size)
      go_upto_region 9 with fail
      have hB1 := heap_alloc_new u1 (.cells #[.int .i64 0] 30)
      have hu2 := hu1.alloc hu1.size (.cells #[.int .i64 0] 30)
      obtain ⟨u2, hU⟩ : ∃ u2, u1.alloc (.cells #[.int .i64 0] 30) = u2 := ⟨_, rfl⟩
      rw [hU] at hB1 hu2 ⊢
      clear hU hu1 hb1 Q1
      go_wp2_with fail
      refine (Q2.out _).mono ?_
      rintro e u4 ⟨v4, rfl, hh4, hb4⟩
      have hu4 := hu2.trans (hb4.mono hu2.size)
      have hh4' := hh4
      obtain ⟨tv, rfl, ta, tn, tc, rfl, _⟩ := hh4'
      go_upto_region 15 with fail
      have hB2 := heap_alloc_new u4 (.cells #[.int .i64 hd.epoch, .int .i64 hd.seq, .slice ta tn tc] 24)
      have hh5 := hh4.below ((Below.refl _ u4).alloc (Nat.le_refl _) (.cells #[.int .i64 hd.epoch, .int .i64 hd.seq, .slice ta tn tc] 24))
      have hu5 := hu4.alloc hu4.size (.cells #[.int .i64 hd.epoch, .int .i64 hd.seq, .slice ta tn tc] 24)
      obtain ⟨u5, hU⟩ : ∃ u5, u4.alloc (.cells #[.int .i64 hd.epoch, .int .i64 hd.seq, .slice ta tn tc] 24) = u5 := ⟨_, rfl⟩
      rw [hU] at hB2 hu5 hh5 ⊢
      clear hU hu4 hb4 hh4 Q2 hu2
      go_wp2_with fail
      refine (Q3.out _).mono ?_
      rintro e u7 ⟨rfl, hb7⟩
      have hu7 := hu5.trans (hb7.mono hu5.size)
      clear hb7 Q3 hu5
      go_wp2_with fail
      refine (HCO.out _).mono ?_
      rintro e u8 ⟨rfl, hb8⟩
      have hu8 := hu7.trans (hb8.mono hu7.size)
      clear hb8 hu7 HCO
      go_wp2_with fail
      refine (slotAlive _).mono ?_
      rintro e u9 ⟨rfl, hb9⟩
      go_wp2_with fail
      go_ret
      exact ⟨rfl, hu8.trans (hb9.mono hu8.size)⟩
    · have q1 := slotReadSuper_any s w9 HSZ.out
      rw [show superV s = 0 from if_neg k1, show superE s = 4 from if_neg k1] at q1
      have Q1 := Lib.hid q1
      have hk2 : headE s = 4 := if_neg k2
      have Q2 := Lib.hid (fun u => slotReadHead_any s u HSZ.out)
      rw [hk2] at Q2
      generalize headV s = hd at *
      have Q3 := Lib.hid (fun u => slotReadCommit_any s u HSZ.out)
      rw [show commitV s = 0 from if_neg k3, show commitW s = 0 from if_neg k3, show commitE s = 4 from if_neg k3] at Q3
      clear q1 k1 k2 k3 hk2
      go_wp2_with fail
      refine Q1.out.mono ?_
      rintro e u1 ⟨rfl, hb1⟩
      have hu1 := hw9.trans (hb1.mono hw9.size)
      go_upto_region 9 with fail
      have hB1 := heap_alloc_new u1 (.cells #[.int .i64 0] 30)
      have hu2 := hu1.alloc hu1.size (.cells #[.int .i64 0] 30)
      obtain ⟨u2, hU⟩ : ∃ u2, u1.alloc (.cells #[.int .i64 0] 30) = u2 := ⟨_, rfl⟩
      rw [hU] at hB1 hu2 ⊢
      clear hU hu1 hb1 Q1
      go_wp2_with fail
      refine (Q2.out _).mono ?_
      rintro e u4 ⟨v4, rfl, hh4, hb4⟩
      have hu4 := hu2.trans (hb4.mono hu2.size)
      have hh4' := hh4
      obtain ⟨tv, rfl, ta, tn, tc, rfl, _⟩ := hh4'
      go_upto_region 15 with fail
      have hB2 := heap_alloc_new u4 (.cells #[.int .i64 hd.epoch, .int .i64 hd.seq, .slice ta tn tc] 24)
      have hh5 := hh4.below ((Below.refl _ u4).alloc (Nat.le_refl _) (.cells #[.int .i64 hd.epoch, .int .i64 hd.seq, .slice ta tn tc] 24))
      have hu5 := hu4.alloc hu4.size (.cells #[.int .i64 hd.epoch, .int .i64 hd.seq, .slice ta tn tc] 24)
      obtain ⟨u5, hU⟩ : ∃ u5, u4.alloc (.cells #[.int .i64 hd.epoch, .int .i64 hd.seq, .slice ta tn tc] 24) = u5 := ⟨_, rfl⟩
      rw [hU] at hB2 hu5 hh5 ⊢
      clear hU hu4 hb4 hh4 Q2 hu2
      go_wp2_with fail
      refine (Q3.out _).mono ?_
      rintro e u7 ⟨rfl, hb7⟩
      have hu7 := hu5.trans (hb7.mono hu5.size)
      clear hb7 Q3 hu5
      go_wp2_with fail
      refine (slotAlive _).mono ?_
      rintro e u9 ⟨rfl, hb9⟩
      go_wp2_with fail
      go_ret
      exact ⟨rfl, hu7.trans (hb9.mono hu7.size)⟩
  · rw [show h.wE = 1 from if_neg ho]
    clear ho hA6 HH
    go_upto_region 8 with fail
    rcases kinds s with ⟨k1, k2, k3⟩ | ⟨k1, k2, k3⟩ | ⟨k1, k2, k3⟩ | ⟨k1, k2, k3⟩
    · have q1 := slotReadSuper_any s w6 HSZ.out
      rw [show superV s = ((partN s 1 6 : Nat) : Int) from if_pos k1, show superE s = 0 from if_pos k1] at q1
      have hs1 : supS (partN s 1 6 : Nat) = s := (if_pos k1.1).trans k1.2
      have hs2 : supE (partN s 1 6 : Nat) = 0 := if_pos k1.1
      have HSU := Lib.hid (fun u => slotSuper_any (partN s 1 6 : Nat) u)
      rw [hs1, hs2] at HSU
      generalize ((partN s 1 6 : Nat) : Int) = N at *
      have Q1 := Lib.hid q1
      have hk2 : headE s = 4 := if_neg k2
      have Q2 := Lib.hid (fun u => slotReadHead_any s u HSZ.out)
      rw [hk2] at Q2
      generalize headV s = hd at *
      have Q3 := Lib.hid (fun u => slotReadCommit_any s u HSZ.out)
      rw [show commitV s = 0 from if_neg k3, show commitW s = 0 from if_neg k3, show commitE s = 4 from if_neg k3] at Q3
      clear q1 k1 k2 k3 hk2 hs1 hs2
      go_wp2_with fail
      refine Q1.out.mono ?_
      rintro e u1 ⟨rfl, hb1⟩
      have hu1 := hw6.trans (hb1.mono hw6.size)
      go_upto_region 9 with fail
      have hB1 := heap_alloc_new u1 (.cells #[.int .i64 N] 30)
      have hu2 := hu1.alloc hu1.size (.cells #[.int .i64 N] 30)
      obtain ⟨u2, hU⟩ : ∃ u2, u1.alloc (.cells #[.int .i64 N] 30) = u2 := ⟨_, rfl⟩
      rw [hU] at hB1 hu2 ⊢
      clear hU hu1 hb1 Q1
      have y0 := below_cell (Below.refl _ u2) hB1 0 rfl
      go_wp2_with fail
      refine (HSU.out _).mono ?_
      rintro e u3 ⟨rfl, hb3⟩
      have hu3 := hu2.trans (hb3.mono hu2.size)
      clear y0 hb3 hu2 HSU hB1
      go_wp2_with fail
      refine (Q2.out _).mono ?_
      rintro e u4 ⟨v4, rfl, hh4, hb4⟩
      have hu4 := hu3.trans (hb4.mono hu3.size)
      have hh4' := hh4
      obtain ⟨tv, rfl, ta, tn, tc, rfl, _⟩ := hh4'
      go_upto_region 15 with fail
      have hB2 := heap_alloc_new u4 (.cells #[.int .i64 hd.epoch, .int .i64 hd.seq, .slice ta tn tc] 24)
      have hh5 := hh4.below ((Below.refl _ u4).alloc (Nat.le_refl _) (.cells #[.int .i64 hd.epoch, .int .i64 hd.seq, .slice ta tn tc] 24))
      have hu5 := hu4.alloc hu4.size (.cells #[.int .i64 hd.epoch, .int .i64 hd.seq, .slice ta tn tc] 24)
      obtain ⟨u5, hU⟩ : ∃ u5, u4.alloc (.cells #[.int .i64 hd.epoch, .int .i64 hd.seq, .slice ta tn tc] 24) = u5 := ⟨_, rfl⟩
      rw [hU] at hB2 hu5 hh5 ⊢
      clear hU hu4 hb4 hh4 Q2 hu3
      go_wp2_with fail
      refine (Q3.out _).mono ?_
      rintro e u7 ⟨rfl, hb7⟩
      have hu7 := hu5.trans (hb7.mono hu5.size)
      clear hb7 Q3 hu5
      go_wp2_with fail
      refine (slotAlive _).mono ?_
      rintro e u9 ⟨rfl, hb9⟩
      go_wp2_with fail
      go_ret
      exact ⟨rfl, hu7.trans (hb9.mono hu7.size)⟩
    · have q1 := slotReadSuper_any s w6 HSZ.out
      rw [show superV s = 0 from if_neg k1, show superE s = 4 from if_neg k1] at q1
      have Q1 := Lib.hid q1
      have hk2 : headE s = 0 := if_pos k2
      have Q2 := Lib.hid (fun u => slotReadHead_any s u HSZ.out)
      rw [hk2] at Q2
      have hv2 : headV s = headOf s := if_pos k2
      rw [hv2] at Q2
      have hw1 : (headOf s).wS = s := (if_pos k2.1).trans k2.2
      have hw2 : (headOf s).wE = 0 := if_pos k2.1
      have HHD := Lib.hid (fun v u hu => slotHead_any v (headOf s) u hu)
      rw [hw1, hw2] at HHD
      generalize headOf s = hd at *
      have Q3 := Lib.hid (fun u => slotReadCommit_any s u HSZ.out)
      rw [show commitV s = 0 from if_neg k3, show commitW s = 0 from if_neg k3, show commitE s = 4 from if_neg k3] at Q3
      clear q1 k1 k2 k3 hk2 hv2 hw1 hw2
      go_wp2_with fail
      refine Q1.out.mono ?_
      rintro e u1 ⟨rfl, hb1⟩
      have hu1 := hw6.trans (hb1.mono hw6.size)
      go_upto_region 9 with fail
      have hB1 := heap_alloc_new u1 (.cells #[.int .i64 0] 30)
      have hu2 := hu1.alloc hu1.size (.cells #[.int .i64 0] 30)
      obtain ⟨u2, hU⟩ : ∃ u2, u1.alloc (.cells #[.int .i64 0] 30) = u2 := ⟨_, rfl⟩
      rw [hU] at hB1 hu2 ⊢
      clear hU hu1 hb1 Q1
      go_wp2_with fail
      refine (Q2.out _).mono ?_
      rintro e u4 ⟨v4, rfl, hh4, hb4⟩
      have hu4 := hu2.trans (hb4.mono hu2.size)
      have hh4' := hh4
      obtain ⟨tv, rfl, ta, tn, tc, rfl, _⟩ := hh4'
      go_upto_region 15 with fail
      have hB2 := heap_alloc_new u4 (.cells #[.int .i64 hd.epoch, .int .i64 hd.seq, .slice ta tn tc] 24)
      have hh5 := hh4.below ((Below.refl _ u4).alloc (Nat.le_refl _) (.cells #[.int .i64 hd.epoch, .int .i64 hd.seq, .slice ta tn tc] 24))
      have hu5 := hu4.alloc hu4.size (.cells #[.int .i64 hd.epoch, .int .i64 hd.seq, .slice ta tn tc] 24)
      obtain ⟨u5, hU⟩ : ∃ u5, u4.alloc (.cells #[.int .i64 hd.epoch, .int .i64 hd.seq, .slice ta tn tc] 24) = u5 := ⟨_, rfl⟩
      rw [hU] at hB2 hu5 hh5 ⊢
      clear hU hu4 hb4 hh4 Q2 hu2
      have y0 := below_cell (Below.refl _ u5) hB2 0 rfl
      have y1 := below_cell (Below.refl _ u5) hB2 1 rfl
      have y2 := below_cell (Below.refl _ u5) hB2 2 rfl
      go_wp2_with fail
      refine (HHD.out _ u5 hh5).mono ?_
      rintro e u6 ⟨rfl, hb6⟩
      have hu6 := hu5.trans (hb6.mono hu5.size)
      clear y0 y1 y2 hb6 hu5 HHD hB2 hh5
      go_wp2_with fail
      refine (Q3.out _).mono ?_
      rintro e u7 ⟨rfl, hb7⟩
      have hu7 := hu6.trans (hb7.mono hu6.size)
      clear hb7 Q3 hu6
      go_wp2_with fail
      refine (slotAlive _).mono ?_
      rintro e u9 ⟨rfl, hb9⟩
      go_wp2_with fail
      go_ret
      exact ⟨rfl, hu7.trans (hb9.mono hu7.size)⟩
    · have q1 := slotReadSuper_any s w6 HSZ.out
      rw [show superV s = 0 from if_neg k1, show superE s = 4 from if_neg k1] at q1
      have Q1 := Lib.hid q1
      have hk2 : headE s = 4 := if_neg k2
      have Q2 := Lib.hid (fun u => slotReadHead_any s u HSZ.out)
      rw [hk2] at Q2
      generalize headV s = hd at *
      have Q3 := Lib.hid (fun u => slotReadCommit_any s u HSZ.out)
      rw [show commitV s = ((partN s 1 6 : Nat) : Int) from if_pos k3, show commitW s = ((partN s 7 1 : Nat) : Int) from if_pos k3, show commitE s = 0 from if_pos k3] at Q3
      have hc1 : comS (partN s 1 6 : Nat) (partN s 7 1 : Nat) = s := (if_pos k3.1).trans k3.2
      have hc2 : comE (partN s 1 6 : Nat) (partN s 7 1 : Nat) = 0 := if_pos k3.1
      have HCO := Lib.hid (fun u => slotCommit_any (partN s 1 6 : Nat) (partN s 7 1 : Nat) u)
      rw [hc1, hc2] at HCO
      generalize ((partN s 1 6 : Nat) : Int) = N at *
      generalize ((partN s 7 1 : Nat) : Int) = N2 at *
      clear q1 k1 k2 k3 hk2 hc1 hc2
      go_wp2_with fail
      refine Q1.out.mono ?_
      rintro e u1 ⟨rfl, hb1⟩
      have hu1 := hw6.trans (hb1.mono hw6.size)
      go_upto_region 9 with fail
      have hB1 := heap_alloc_new u1 (.cells #[.int .i64 0] 30)
      have hu2 := hu1.alloc hu1.size (.cells #[.int .i64 0] 30)
      obtain ⟨u2, hU⟩ : ∃ u2, u1.alloc (.cells #[.int .i64 0] 30) = u2 := ⟨_, rfl⟩
      rw [hU] at hB1 hu2 ⊢
      clear hU hu1 hb1 Q1
      go_wp2_with fail
      refine (Q2.out _).mono ?_
      rintro e u4 ⟨v4, rfl, hh4, hb4⟩
      have hu4 := hu2.trans (hb4.mono hu2.size)
      have hh4' := hh4
      obtain ⟨tv, rfl, ta, tn, tc, rfl, _⟩ := hh4'
      go_upto_region 15 with fail
      have hB2 := heap_alloc_new u4 (.cells #[.int .i64 hd.epoch, .int .i64 hd.seq, .slice ta tn tc] 24)
      have hh5 := hh4.below ((Below.refl _ u4).alloc (Nat.le_refl _) (.cells #[.int .i64 hd.epoch, .int .i64 hd.seq, .slice ta tn tc] 24))
      have hu5 := hu4.alloc hu4.size (.cells #[.int .i64 hd.epoch, .int .i64 hd.seq, .slice ta tn tc] 24)
      obtain ⟨u5, hU⟩ : ∃ u5, u4.alloc (.cells #[.int .i64 hd.epoch, .int .i64 hd.seq, .slice ta tn tc] 24) = u5 := ⟨_, rfl⟩
      rw [hU] at hB2 hu5 hh5 ⊢
      clear hU hu4 hb4 hh4 Q2 hu2
      go_wp2_with fail
      refine (Q3.out _).mono ?_
      rintro e u7 ⟨rfl, hb7⟩
      have hu7 := hu5.trans (hb7.mono hu5.size)
      clear hb7 Q3 hu5
      go_wp2_with fail
      refine (HCO.out _).mono ?_
      rintro e u8 ⟨rfl, hb8⟩
      have hu8 := hu7.trans (hb8.mono hu7.size)
      clear hb8 hu7 HCO
      go_wp2_with fail
      refine (slotAlive _).mono ?_
      rintro e u9 ⟨rfl, hb9⟩
      go_wp2_with fail
      go_ret
      exact ⟨rfl, hu8.trans (hb9.mono hu8.size)⟩
    · have q1 := slotReadSuper_any s w6 HSZ.out
      rw [show superV s = 0 from if_neg k1, show superE s = 4 from if_neg k1] at q1
      have Q1 := Lib.hid q1
      have hk2 : headE s = 4 := if_neg k2
      have Q2 := Lib.hid (fun u => slotReadHead_any s u HSZ.out)
      rw [hk2] at Q2
      generalize headV s = hd at *
      have Q3 := Lib.hid (fun u => slotReadCommit_any s u HSZ.out)
      rw [show commitV s = 0 from if_neg k3, show commitW s = 0 from if_neg k3, show commitE s = 4 from if_neg k3] at Q3
      clear q1 k1 k2 k3 hk2
      go_wp2_with fail
      refine Q1.out.mono ?_
      rintro e u1 ⟨rfl, hb1⟩
      have hu1 := hw6.trans (hb1.mono hw6.size)
      go_upto_region 9 with fail
      have hB1 := heap_alloc_new u1 (.cells #[.int .i64 0] 30)
      have hu2 := hu1.alloc hu1.size (.cells #[.int .i64 0] 30)
      obtain ⟨u2, hU⟩ : ∃ u2, u1.alloc (.cells #[.int .i64 0] 30) = u2 := ⟨_, rfl⟩
      rw [hU] at hB1 hu2 ⊢
      clear hU hu1 hb1 Q1
      go_wp2_with fail
      refine (Q2.out _).mono ?_
      rintro e u4 ⟨v4, rfl, hh4, hb4⟩
      have hu4 := hu2.trans (hb4.mono hu2.size)
      have hh4' := hh4
      obtain ⟨tv, rfl, ta, tn, tc, rfl, _⟩ := hh4'
      go_upto_region 15 with fail
      have hB2 := heap_alloc_new u4 (.cells #[.int .i64 hd.epoch, .int .i64 hd.seq, .slice ta tn tc] 24)
      have hh5 := hh4.below ((Below.refl _ u4).alloc (Nat.le_refl _) (.cells #[.int .i64 hd.epoch, .int .i64 hd.seq, .slice ta tn tc] 24))
      have hu5 := hu4.alloc hu4.size (.cells #[.int .i64 hd.epoch, .int .i64 hd.seq, .slice ta tn tc] 24)
      obtain ⟨u5, hU⟩ : ∃ u5, u4.alloc (.cells #[.int .i64 hd.epoch, .int .i64 hd.seq, .slice ta tn tc] 24) = u5 := ⟨_, rfl⟩
      rw [hU] at hB2 hu5 hh5 ⊢
      clear hU hu4 hb4 hh4 Q2 hu2
      go_wp2_with fail
      refine (Q3.out _).mono ?_
      rintro e u7 ⟨rfl, hb7⟩
      have hu7 := hu5.trans (hb7.mono hu5.size)
      clear hb7 Q3 hu5
      go_wp2_with fail
      refine (slotAlive _).mono ?_
      rintro e u9 ⟨rfl, hb9⟩
      go_wp2_with fail
      go_ret
      exact ⟨rfl, hu7.trans (hb9.mono hu7.size)⟩
end Go.Proofs.YtmhondkomcmmoaaDoor.lawSlotBack
