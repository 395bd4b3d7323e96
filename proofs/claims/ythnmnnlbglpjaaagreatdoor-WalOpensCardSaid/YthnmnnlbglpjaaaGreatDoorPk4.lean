/- WlD, WlE, WlF, WlG, WlR, in one text. -/
import Derived.Test.YthnmnnlbglpjaaaGreatDoorPk3
namespace Go.Proofs.YthnmnnlbglpjaaaGreatDoor
section SWlD
open Go.RowKit
set_option linter.unusedVariables false
set_option linter.unusedSimpArgs false

theorem box_no (a b c : Option Addr) (n1 n2 n3 n4 n5 n6 : Nat) (i1 i2 i3 i4 : Int) : ∀ (j : Nat) (s : ByteArray), (#[Value.slice a n1 n2, .slice b n3 n4, .int .i64 i1, .int .i64 i2, .int .i64 i3, .int .i64 i4, .slice c n5 n6] : Array Value)[j]? ≠ some (Value.string s)
  | 0, _ => by simp
  | 1, _ => by simp
  | 2, _ => by simp
  | 3, _ => by simp
  | 4, _ => by simp
  | 5, _ => by simp
  | 6, _ => by simp
  | j + 7, _ => by simp
theorem log_dirty {w : World} {sv pv dv : Value} {l : Lg} {x y z t : Int} (h : IsLog w (.agg #[sv, pv, .int .i64 x, .int .i64 y, .int .i64 z, .int .i64 t, dv]) l) : IsWrts w dv l.dirty := by
  obtain ⟨_, sv', pv', dv', hv, _, _, h3⟩ := h
  injection hv with hv
  injection hv with hv
  injection hv with e1 hv
  injection hv with e2 hv
  injection hv with e3 hv
  injection hv with e4 hv
  injection hv with e5 hv
  injection hv with e6 hv
  injection hv with e7 hv
  subst e7
  exact h3
theorem power_made {w : World} {sv pv dv : Value} {q : Outc} {e s u : Int} {d : List Wrt} (h : IsPower w (.agg #[sv, pv, .int .i64 q.left]) q.dsk q.left) (hd : IsWrts w dv d) (hk : q.ok) (hb : i64ok e ∧ i64ok s ∧ i64ok u) : IsLog w (.agg #[sv, pv, .int .i64 q.left, .int .i64 e, .int .i64 s, .int .i64 u, dv]) ⟨q.dsk.secs, q.dsk.pend, q.left, e, s, u, d⟩ := by
  obtain ⟨sv', pv', hv, h1, h2⟩ := h
  injection hv with hv
  injection hv with hv
  injection hv with e1 hv
  injection hv with e2 hv
  subst e1 e2
  exact ⟨⟨hk, hb⟩, _, _, _, rfl, h1, h2, hd⟩
set_option maxRecDepth 100000 in
set_option maxHeartbeats 8000000 in
theorem wlCommit (v wv : Value) (l : Lg) (xs : List Wrt) (w : World) (h : IsLog w v l) (hx : IsWrts w wv xs) (hp : l.pend.length ≤ 600) :
    Calls Tryz.prog 10 #[v, wv] w (LogPost (comL l xs) (comE l xs) w) := by
  obtain ⟨x1, x2, x3, x4, x5, x6, rfl, ⟨_, _⟩, ⟨_, _⟩, ⟨_, _⟩, _⟩ := id h.form
  obtain ⟨wa, n, cap, rfl, hlen, hc1, hc2, _, _⟩ := id hx
  have hL : comL l xs = if (rightL l && allowL l.secs.length xs) = true then if 40 < xs.length then zeroL else if xs.length = 0 then l else if fullB l xs.length = true then (if ckE l = 0 then doneL (ckL l) xs else ckL l) else doneL l xs else zeroL := rfl
  have hE : comE l xs = if (rightL l && allowL l.secs.length xs) = true then if 40 < xs.length then 30 else if xs.length = 0 then 0 else if fullB l xs.length = true then (if ckE l = 0 then doneE (ckL l) xs else ckE l) else doneE l xs else 1 := rfl
  obtain ⟨CL, hCL⟩ : ∃ CL, comL l xs = CL := ⟨_, rfl⟩
  obtain ⟨CE, hCE⟩ : ∃ CE, comE l xs = CE := ⟨_, rfl⟩
  rw [hCL] at hL
  rw [hCE] at hE
  rw [hCL, hCE]
  obtain ⟨B, hB⟩ : ∃ B, w.heap.size = B := ⟨_, rfl⟩
  have hX : Hid (∀ u : World, (w.alloc (.cells #[.slice x1 l.secs.length x2, .slice x3 l.pend.length x4, .int .i64 l.left, .int .i64 l.epoch, .int .i64 l.seq, .int .i64 l.used, .slice x5 l.dirty.length x6] 29)).alloc (.cells #[.slice none 0 0, .slice none 0 0, .int .i64 0, .int .i64 0, .int .i64 0, .int .i64 0, .slice none 0 0] 29) = u → u.heap[B]? = some (.cells #[.slice x1 l.secs.length x2, .slice x3 l.pend.length x4, .int .i64 l.left, .int .i64 l.epoch, .int .i64 l.seq, .int .i64 l.used, .slice x5 l.dirty.length x6] 29 (0, 0)) ∧ u.heap[B + 1]? = some (.cells #[.slice none 0 0, .slice none 0 0, .int .i64 0, .int .i64 0, .int .i64 0, .int .i64 0, .slice none 0 0] 29 (0, 0)) ∧ Below w.heap.size w u ∧ u.heap.size = B + 1 + 1) := Lib.hid (by
    rintro u rfl
    have b0 := heap_alloc_new w (.cells #[.slice x1 l.secs.length x2, .slice x3 l.pend.length x4, .int .i64 l.left, .int .i64 l.epoch, .int .i64 l.seq, .int .i64 l.used, .slice x5 l.dirty.length x6] 29)
    have e1 := heap_alloc_new (w.alloc (.cells #[.slice x1 l.secs.length x2, .slice x3 l.pend.length x4, .int .i64 l.left, .int .i64 l.epoch, .int .i64 l.seq, .int .i64 l.used, .slice x5 l.dirty.length x6] 29)) (.cells #[.slice none 0 0, .slice none 0 0, .int .i64 0, .int .i64 0, .int .i64 0, .int .i64 0, .slice none 0 0] 29)
    rw [World.size_alloc] at e1
    rw [← hB]
    exact ⟨(heap_alloc_old _ _ (lt_of_block b0)).trans b0, e1, ((Below.refl w.heap.size w).alloc (Nat.le_refl _) _).alloc (by simp) _, by rw [World.size_alloc, World.size_alloc]⟩)
  have HBQ := Lib.hid hB; have HCL := Lib.hid hL; have HCE := Lib.hid hE; have HH := Lib.hid h; have HX := Lib.hid hx; have HP := Lib.hid hp; have HLEN := Lib.hid hlen
  have HWS := Lib.hid (fun x (hb : Below w.heap.size w x) => hx.below hb)
  have HRR := Lib.hid (fun x (hb : Below w.heap.size w x) => wlRight _ l x (h.below hb))
  have HAL := Lib.hid (fun x (hb : Below w.heap.size w x) (hN : l.secs.length ≤ 256) => wlAllowed _ _ l xs x (h.below hb) (hx.below hb) hN)
  have HKB := Lib.hid h.1
  clear h hx hp hlen hL hE hCL hCE hB
  go_enter Tryz.func10, Tryz.ntmps10
  go_upto_region 1 with fail
  obtain ⟨u, hW⟩ : ∃ u, (w.alloc (.cells #[.slice x1 l.secs.length x2, .slice x3 l.pend.length x4, .int .i64 l.left, .int .i64 l.epoch, .int .i64 l.seq, .int .i64 l.used, .slice x5 l.dirty.length x6] 29)).alloc (.cells #[.slice none 0 0, .slice none 0 0, .int .i64 0, .int .i64 0, .int .i64 0, .int .i64 0, .slice none 0 0] 29) = u := ⟨_, rfl⟩
  rw [hW, HBQ.out]
  obtain ⟨hL1, hR1, hb1, hz1⟩ := hX.out u hW
  have HL1 := Lib.hid hL1; have HR1 := Lib.hid hR1; have HB1 := Lib.hid hb1
  have c0 := below_cell (Below.refl _ u) hL1 0 rfl
  have c1 := below_cell (Below.refl _ u) hL1 1 rfl
  have c2 := below_cell (Below.refl _ u) hL1 2 rfl
  have c3 := below_cell (Below.refl _ u) hL1 3 rfl
  have c4 := below_cell (Below.refl _ u) hL1 4 rfl
  have c5 := below_cell (Below.refl _ u) hL1 5 rfl
  have c6 := below_cell (Below.refl _ u) hL1 6 rfl
  have HRU := Lib.hid (HRR.out u hb1)
  clear hW hX hL1 hR1 hb1 HRR
  generalize hrl : rightL l = r at *
  cases r with
  | false =>
    have hl : CL = zeroL := HCL.out
    have he : CE = 1 := HCE.out
    have H1 := Lib.hid hl; have H2 := Lib.hid he
    clear hl he
    go_upto_region 2 with (first | (go_at_call 24; refine HRU.out.mono ?_; rintro e u2 ⟨rfl, hb2⟩))
    have hrs := (hb2.block _ (lt_of_block HR1.out)).trans HR1.out
    have HBU := Lib.hid (HB1.out.trans (hb2.mono HB1.out.size))
    have HS := Lib.hid (setRow_heap u2 (B + 1) _ #[.slice none 0 0, .slice none 0 0, .int .i64 0, .int .i64 0, .int .i64 0, .int .i64 0, .slice none 0 0] _ _ hrs)
    have HF := Lib.hid (below_setRow HBU.out (show w.heap.size ≤ B + 1 by rw [HBQ.out]; omega) #[.slice none 0 0, .slice none 0 0, .int .i64 0, .int .i64 0, .int .i64 0, .int .i64 0, .slice none 0 0])
    clear hb2
    go_wp2_with (first | (refine wpList_store_row rfl 29 _ _ rfl (B + 1) #[.slice none 0 0, .slice none 0 0, .int .i64 0, .int .i64 0, .int .i64 0, .int .i64 0, .slice none 0 0] rfl rfl 29 _ hrs (by kernel_rfl) rfl (by simp [Value.oneCell']) ?_))
    exact bodyPost_ret (results_row_tmp rfl _ _ (B + 1) _ _ _ _ rfl HS.out Tryz.underlying29 rfl (by kernel_rfl)) rfl (by exact ⟨_, by rw [H2.out]; rfl, by rw [H1.out]; exact zero_log _, HF.out⟩)
  | true =>
  obtain ⟨hd1, hd2, _⟩ := right_dirty hrl
  have HAU := Lib.hid (fun x (hb : Below w.heap.size w x) => HAL.out x hb hd2)
  have HRL := Lib.hid hrl
  clear hd1 hd2 hrl HAL
  generalize hal : allowL l.secs.length xs = al at *
  cases al with
  | false =>
    have hl : CL = zeroL := HCL.out
    have he : CE = 1 := HCE.out
    have H1 := Lib.hid hl; have H2 := Lib.hid he
    clear hl he
    go_upto_region 2 with (first | (go_at_call 24; refine HRU.out.mono ?_; rintro e u2 ⟨rfl, hb2⟩; have d0 := below_cell hb2 HL1.out 0 rfl; have d1 := below_cell hb2 HL1.out 1 rfl; have d2 := below_cell hb2 HL1.out 2 rfl; have d3 := below_cell hb2 HL1.out 3 rfl; have d4 := below_cell hb2 HL1.out 4 rfl; have d5 := below_cell hb2 HL1.out 5 rfl; have d6 := below_cell hb2 HL1.out 6 rfl) | (go_at_call 25; refine (HAU.out u2 (HB1.out.trans (hb2.mono HB1.out.size))).mono ?_; rintro e u3 ⟨rfl, hb3⟩))
    have hrs := (hb3.block _ (lt_of_block ((hb2.block _ (lt_of_block HR1.out)).trans HR1.out))).trans ((hb2.block _ (lt_of_block HR1.out)).trans HR1.out)
    have HBU := Lib.hid ((HB1.out.trans (hb2.mono HB1.out.size)).trans (hb3.mono (HB1.out.trans (hb2.mono HB1.out.size)).size))
    have HS := Lib.hid (setRow_heap u3 (B + 1) _ #[.slice none 0 0, .slice none 0 0, .int .i64 0, .int .i64 0, .int .i64 0, .int .i64 0, .slice none 0 0] _ _ hrs)
    have HF := Lib.hid (below_setRow HBU.out (show w.heap.size ≤ B + 1 by rw [HBQ.out]; omega) #[.slice none 0 0, .slice none 0 0, .int .i64 0, .int .i64 0, .int .i64 0, .int .i64 0, .slice none 0 0])
    clear hb2 hb3 d0 d1 d2 d3 d4 d5 d6
    go_wp2_with (first | (refine wpList_store_row rfl 29 _ _ rfl (B + 1) #[.slice none 0 0, .slice none 0 0, .int .i64 0, .int .i64 0, .int .i64 0, .int .i64 0, .slice none 0 0] rfl rfl 29 _ hrs (by kernel_rfl) rfl (by simp [Value.oneCell']) ?_))
    exact bodyPost_ret (results_row_tmp rfl _ _ (B + 1) _ _ _ _ rfl HS.out Tryz.underlying29 rfl (by kernel_rfl)) rfl (by exact ⟨_, by rw [H2.out]; rfl, by rw [H1.out]; exact zero_log _, HF.out⟩)
  | true =>
  have HAW := Lib.hid hal
  clear hal
  go_upto_region 3 with (first | (go_at_call 24; refine HRU.out.mono ?_; rintro e u2 ⟨rfl, hb2⟩; have d0 := below_cell hb2 HL1.out 0 rfl; have d1 := below_cell hb2 HL1.out 1 rfl; have d2 := below_cell hb2 HL1.out 2 rfl; have d3 := below_cell hb2 HL1.out 3 rfl; have d4 := below_cell hb2 HL1.out 4 rfl; have d5 := below_cell hb2 HL1.out 5 rfl; have d6 := below_cell hb2 HL1.out 6 rfl) | (go_at_call 25; refine (HAU.out u2 (HB1.out.trans (hb2.mono HB1.out.size))).mono ?_; rintro e u3 ⟨rfl, hb3⟩))
  have hb4 := hb2.trans (hb3.mono hb2.size)
  have HLG := Lib.hid ((hb4.block _ (lt_of_block HL1.out)).trans HL1.out)
  have HRS := Lib.hid ((hb4.block _ (lt_of_block HR1.out)).trans HR1.out)
  have HBU := Lib.hid (HB1.out.trans (hb4.mono HB1.out.size))
  have hzu : B + 1 + 1 ≤ u3.heap.size := by have := hb4.size; omega
  clear c0 c1 c2 c3 c4 c5 c6 d0 d1 d2 d3 d4 d5 d6 hb2 hb3 hb4 HL1 HR1 HB1 HRU HAU hz1
  generalize u3 = u at *
  by_cases h40 : 40 < n
  · have h40I : (40 : Int) < n := by omega
    have hl : CL = zeroL := HCL.out.trans (by rw [HLEN.out, if_pos h40]; rfl)
    have he : CE = 30 := HCE.out.trans (by rw [HLEN.out, if_pos h40]; rfl)
    have H1 := Lib.hid hl; have H2 := Lib.hid he
    clear hl he h40
    go_upto_region 4 with fail
    have HS := Lib.hid (setRow_heap u (B + 1) _ #[.slice none 0 0, .slice none 0 0, .int .i64 0, .int .i64 0, .int .i64 0, .int .i64 0, .slice none 0 0] _ _ HRS.out)
    have HF := Lib.hid (below_setRow HBU.out (show w.heap.size ≤ B + 1 by rw [HBQ.out]; omega) #[.slice none 0 0, .slice none 0 0, .int .i64 0, .int .i64 0, .int .i64 0, .int .i64 0, .slice none 0 0])
    have hrs := HRS.out
    go_wp2_with (first | (refine wpList_store_row rfl 29 _ _ rfl (B + 1) #[.slice none 0 0, .slice none 0 0, .int .i64 0, .int .i64 0, .int .i64 0, .int .i64 0, .slice none 0 0] rfl rfl 29 _ hrs (by kernel_rfl) rfl (by simp [Value.oneCell']) ?_))
    exact bodyPost_ret (results_row_tmp rfl _ _ (B + 1) _ _ _ _ rfl HS.out Tryz.underlying29 rfl (by kernel_rfl)) rfl (by exact ⟨_, by rw [H2.out]; rfl, by rw [H1.out]; exact zero_log _, HF.out⟩)
  have h40I : ¬ (40 : Int) < n := by omega
  by_cases h0 : n = 0
  · have h0I : (n : Int) = 0 := by omega
    have hl : CL = l := HCL.out.trans (by rw [HLEN.out, if_neg h40, if_pos h0]; rfl)
    have he : CE = 0 := HCE.out.trans (by rw [HLEN.out, if_neg h40, if_pos h0]; rfl)
    have H1 := Lib.hid hl; have H2 := Lib.hid he
    subst h0
    clear hl he h40 h0I
    go_upto_region 6 with fail
    have c0 := below_cell (Below.refl _ u) HLG.out 0 rfl
    have c1 := below_cell (Below.refl _ u) HLG.out 1 rfl
    have c2 := below_cell (Below.refl _ u) HLG.out 2 rfl
    have c3 := below_cell (Below.refl _ u) HLG.out 3 rfl
    have c4 := below_cell (Below.refl _ u) HLG.out 4 rfl
    have c5 := below_cell (Below.refl _ u) HLG.out 5 rfl
    have c6 := below_cell (Below.refl _ u) HLG.out 6 rfl
    have HS := Lib.hid (setRow_heap u (B + 1) _ #[.slice x1 l.secs.length x2, .slice x3 l.pend.length x4, .int .i64 l.left, .int .i64 l.epoch, .int .i64 l.seq, .int .i64 l.used, .slice x5 l.dirty.length x6] _ _ HRS.out)
    have HF := Lib.hid (below_setRow HBU.out (show w.heap.size ≤ B + 1 by rw [HBQ.out]; omega) #[.slice x1 l.secs.length x2, .slice x3 l.pend.length x4, .int .i64 l.left, .int .i64 l.epoch, .int .i64 l.seq, .int .i64 l.used, .slice x5 l.dirty.length x6])
    have hrs := HRS.out
    go_wp2_with (first | (refine wpList_store_row rfl 29 _ _ rfl (B + 1) #[.slice x1 l.secs.length x2, .slice x3 l.pend.length x4, .int .i64 l.left, .int .i64 l.epoch, .int .i64 l.seq, .int .i64 l.used, .slice x5 l.dirty.length x6] rfl rfl 29 _ hrs (by kernel_rfl) rfl (by simp [Value.oneCell']) ?_))
    exact bodyPost_ret (results_row_tmp rfl _ _ (B + 1) _ _ _ _ rfl HS.out Tryz.underlying29 rfl (by kernel_rfl)) rfl (by exact ⟨_, by rw [H2.out]; rfl, by rw [H1.out]; exact IsLog.apart (HH.out.below HBU.out) HRS.out no_textL (by simp [World.setRow]) (fun b hb => setRow_other u (B + 1) b _ hb), HF.out⟩)
  have h0I : ((n : Int) == 0) = false := by simpa using h0
  have hl : CL = if fullB l n = true then (if ckE l = 0 then doneL (ckL l) xs else ckL l) else doneL l xs := HCL.out.trans (by rw [HLEN.out, if_neg h40, if_neg h0]; rfl)
  have he : CE = if fullB l n = true then (if ckE l = 0 then doneE (ckL l) xs else ckE l) else doneE l xs := HCE.out.trans (by rw [HLEN.out, if_neg h40, if_neg h0]; rfl)
  have HCL := Lib.hid hl; have HCE := Lib.hid he
  have HN0 := Lib.hid h0; have HN40 := Lib.hid h40
  clear hl he h0 h40
  go_upto_region 7 with fail
  have hnum := right_nums HRL.out
  have hwu : wrap64 (l.used + (n : Int)) = l.used + n := IntWalk.wrap64_in _ ⟨by omega, by omega⟩
  have s4 := below_cell (Below.refl _ u) HLG.out 4 rfl
  have s5 := below_cell (Below.refl _ u) HLG.out 5 rfl
  clear hnum
  by_cases hs6 : l.seq = 6
  · have hs6q : (l.seq == 6) = true := by simpa using hs6
    have hful : fullB l n = true := by unfold fullB; exact decide_eq_true (by omega)
    have hl : CL = if ckE l = 0 then doneL (ckL l) xs else ckL l := HCL.out.trans (if_pos hful)
    have he : CE = if ckE l = 0 then doneE (ckL l) xs else ckE l := HCE.out.trans (if_pos hful)
    have hcp := wlCheckpoint _ l u (HH.out.below HBU.out) HP.out
    have hry : ckE l = 0 → Ready (ckL l) xs := fun h => ready_ck HRL.out HAW.out (by rw [HLEN.out]; exact HN0.out) (by rw [HLEN.out]; have := HN40.out; omega) h HP.out HKB.out.1
    have HCL := Lib.hid hl; have HCE := Lib.hid he; have HCP := Lib.hid hcp; have HRY0 := Lib.hid hry
    clear hl he hful hcp hry
    generalize ckL l = L1 at *
    generalize ckE l = E1 at *
    clear hs6
    go_upto_region 8 with fail
    clear s4 s5 hs6q
    have c0 := below_cell (Below.refl _ u) HLG.out 0 rfl
    have c1 := below_cell (Below.refl _ u) HLG.out 1 rfl
    have c2 := below_cell (Below.refl _ u) HLG.out 2 rfl
    have c3 := below_cell (Below.refl _ u) HLG.out 3 rfl
    have c4 := below_cell (Below.refl _ u) HLG.out 4 rfl
    have c5 := below_cell (Below.refl _ u) HLG.out 5 rfl
    have c6 := below_cell (Below.refl _ u) HLG.out 6 rfl
    go_upto_region 9 with (first | (go_at_call 12; refine HCP.out.mono ?_; rintro e u4 ⟨v4, rfl, hlg4, hb4⟩; obtain ⟨k1, k2, k3, k4, k5, k6, rfl, _⟩ := id hlg4.form))
    have hal4 := (Below.refl u4.heap.size u4).alloc (Nat.le_refl _) (.cells #[.slice k1 L1.secs.length k2, .slice k3 L1.pend.length k4, .int .i64 L1.left, .int .i64 L1.epoch, .int .i64 L1.seq, .int .i64 L1.used, .slice k5 L1.dirty.length k6] 29)
    have hn4 := heap_alloc_new u4 (.cells #[.slice k1 L1.secs.length k2, .slice k3 L1.pend.length k4, .int .i64 L1.left, .int .i64 L1.epoch, .int .i64 L1.seq, .int .i64 L1.used, .slice k5 L1.dirty.length k6] 29)
    have hL5 := (hal4.block _ (lt_of_block ((hb4.block _ (lt_of_block HLG.out)).trans HLG.out))).trans ((hb4.block _ (lt_of_block HLG.out)).trans HLG.out)
    have hR5 := (hal4.block _ (lt_of_block ((hb4.block _ (lt_of_block HRS.out)).trans HRS.out))).trans ((hb4.block _ (lt_of_block HRS.out)).trans HRS.out)
    have hB5 := (HBU.out.trans (hb4.mono HBU.out.size)).trans (hal4.mono (HBU.out.trans (hb4.mono HBU.out.size)).size)
    have hV5 := hlg4.below hal4
    obtain ⟨u5, hW⟩ : ∃ u5, u4.alloc (.cells #[.slice k1 L1.secs.length k2, .slice k3 L1.pend.length k4, .int .i64 L1.left, .int .i64 L1.epoch, .int .i64 L1.seq, .int .i64 L1.used, .slice k5 L1.dirty.length k6] 29) = u5 := ⟨_, rfl⟩
    obtain ⟨C, hC⟩ : ∃ C, u4.heap.size = C := ⟨_, rfl⟩
    have hzc : B + 1 + 1 ≤ C := by have := hb4.size; omega
    rw [hW] at hn4 hL5 hR5 hB5 hV5 ⊢
    rw [hC] at hn4
    (try rw [hC])
    have HL5 := Lib.hid hL5; have HR5 := Lib.hid hR5; have HB5 := Lib.hid hB5; have HV5 := Lib.hid hV5; have HN5 := Lib.hid hn4
    clear c0 c1 c2 c3 c4 c5 c6 hal4 hn4 hL5 hR5 hB5 hV5 hW hC hb4 hlg4 HCP HLG HRS HBU hzu
    by_cases hce : E1 = 0
    · subst hce
      have hl : CL = doneL L1 xs := HCL.out.trans (if_pos rfl)
      have he : CE = doneE L1 xs := HCE.out.trans (if_pos rfl)
      have HCL := Lib.hid hl; have HCE := Lib.hid he
      have HRY := Lib.hid (HRY0.out rfl)
      clear hl he
      go_upto_region 11 with fail
      have d0 := below_cell (Below.refl _ u5) HN5.out 0 rfl
      have d1 := below_cell (Below.refl _ u5) HN5.out 1 rfl
      have d2 := below_cell (Below.refl _ u5) HN5.out 2 rfl
      have d3 := below_cell (Below.refl _ u5) HN5.out 3 rfl
      have d4 := below_cell (Below.refl _ u5) HN5.out 4 rfl
      have d5 := below_cell (Below.refl _ u5) HN5.out 5 rfl
      have d6 := below_cell (Below.refl _ u5) HN5.out 6 rfl
      have hLs := HL5.out
      go_upto_region 12 with (first | (refine wpList_store_row rfl 29 _ _ rfl B #[.slice k1 L1.secs.length k2, .slice k3 L1.pend.length k4, .int .i64 L1.left, .int .i64 L1.epoch, .int .i64 L1.seq, .int .i64 L1.used, .slice k5 L1.dirty.length k6] rfl rfl 29 _ hLs (by kernel_rfl) rfl (by simp [Value.oneCell']) ?_))
      have hX : Hid (∀ u, u5.setRow B #[.slice k1 L1.secs.length k2, .slice k3 L1.pend.length k4, .int .i64 L1.left, .int .i64 L1.epoch, .int .i64 L1.seq, .int .i64 L1.used, .slice k5 L1.dirty.length k6] = u → u.heap[B]? = some (.cells #[.slice k1 L1.secs.length k2, .slice k3 L1.pend.length k4, .int .i64 L1.left, .int .i64 L1.epoch, .int .i64 L1.seq, .int .i64 L1.used, .slice k5 L1.dirty.length k6] 29 (0, 0)) ∧ u.heap[B + 1]? = some (.cells #[.slice none 0 0, .slice none 0 0, .int .i64 0, .int .i64 0, .int .i64 0, .int .i64 0, .slice none 0 0] 29 (0, 0)) ∧ Below w.heap.size w u ∧ IsLog u (.agg #[.slice k1 L1.secs.length k2, .slice k3 L1.pend.length k4, .int .i64 L1.left, .int .i64 L1.epoch, .int .i64 L1.seq, .int .i64 L1.used, .slice k5 L1.dirty.length k6]) L1 ∧ B + 1 + 1 ≤ u.heap.size) := Lib.hid (by
        rintro u rfl
        have hr := (setRow_other u5 B (B + 1) #[.slice k1 L1.secs.length k2, .slice k3 L1.pend.length k4, .int .i64 L1.left, .int .i64 L1.epoch, .int .i64 L1.seq, .int .i64 L1.used, .slice k5 L1.dirty.length k6] (by omega)).trans HR5.out
        exact ⟨setRow_heap u5 B _ #[.slice k1 L1.secs.length k2, .slice k3 L1.pend.length k4, .int .i64 L1.left, .int .i64 L1.epoch, .int .i64 L1.seq, .int .i64 L1.used, .slice k5 L1.dirty.length k6] _ _ HL5.out, hr, below_setRow HB5.out (by rw [HBQ.out]; exact Nat.le_refl _) _, IsLog.apart HV5.out HL5.out (box_no _ _ _ _ _ _ _ _ _ _ _ _ _) (by simp [World.setRow]) (fun b hb => setRow_other u5 B b _ hb), by have := lt_of_block hr; omega⟩)
      clear d0 d1 d2 d3 d4 d5 d6 hLs
      obtain ⟨u, hW⟩ : ∃ u, u5.setRow B #[.slice k1 L1.secs.length k2, .slice k3 L1.pend.length k4, .int .i64 L1.left, .int .i64 L1.epoch, .int .i64 L1.seq, .int .i64 L1.used, .slice k5 L1.dirty.length k6] = u := ⟨_, rfl⟩
      rw [hW]
      obtain ⟨hg1, hg2, hg3, hg4, hzu⟩ := hX.out u hW
      have HLG := Lib.hid hg1; have HRS := Lib.hid hg2; have HBU := Lib.hid hg3; have HVL := Lib.hid hg4; have HVB := Lib.hid hg4.1.2
      clear hg1 hg2 hg3 hg4 hX hW HL5 HR5 HB5 HV5 HN5
      have c0 := below_cell (Below.refl _ u) HLG.out 0 rfl
      have c1 := below_cell (Below.refl _ u) HLG.out 1 rfl
      have c2 := below_cell (Below.refl _ u) HLG.out 2 rfl
      have hn := heap_alloc_new u (.cells #[.slice k1 L1.secs.length k2, .slice k3 L1.pend.length k4, .int .i64 L1.left, .int .i64 0] 59)
      have hal := (Below.refl u.heap.size u).alloc (Nat.le_refl _) (.cells #[.slice k1 L1.secs.length k2, .slice k3 L1.pend.length k4, .int .i64 L1.left, .int .i64 0] 59)
      have hpl := (power_log HVL.out).below hal
      have hL1 := (hal.block _ (lt_of_block HLG.out)).trans HLG.out
      have hR1 := (hal.block _ (lt_of_block HRS.out)).trans HRS.out
      have hB1 := HBU.out.trans (hal.mono HBU.out.size)
      have hV1 := HVL.out.below hal
      go_upto_region 13 with fail
      obtain ⟨u1, hW⟩ : ∃ u1, u.alloc (.cells #[.slice k1 L1.secs.length k2, .slice k3 L1.pend.length k4, .int .i64 L1.left, .int .i64 0] 59) = u1 := ⟨_, rfl⟩
      obtain ⟨T, hT⟩ : ∃ T, u.heap.size = T := ⟨_, rfl⟩
      rw [hW] at hn hL1 hR1 hB1 hV1 hpl ⊢
      rw [hT] at hn
      (try rw [hT])
      rw [hT] at hzu
      have hC1 : IsCls u1 T ⟨L1.dsk, L1.left, 0⟩ := ⟨_, _, hn, hpl⟩
      have HC1 := Lib.hid hC1
      have HL1 := Lib.hid hL1; have HR1 := Lib.hid hR1; have HB1 := Lib.hid hB1; have HV1 := Lib.hid hV1
      have HLD := Lib.hid (wlLogged T ⟨L1.dsk, L1.left, 0⟩ _ _ L1 xs u1 hC1 hV1 (HWS.out u1 hB1) HRY.out.ok HRY.out.pend HRY.out.n HRY.out.head HRY.out.used)
      clear c0 c1 c2 hn hal hpl hL1 hR1 hB1 hV1 hW hT hC1 HLG HRS HBU HVL
      have c0 := below_cell (Below.refl _ u1) HL1.out 0 rfl
      have c1 := below_cell (Below.refl _ u1) HL1.out 1 rfl
      have c2 := below_cell (Below.refl _ u1) HL1.out 2 rfl
      have c3 := below_cell (Below.refl _ u1) HL1.out 3 rfl
      have c4 := below_cell (Below.refl _ u1) HL1.out 4 rfl
      have c5 := below_cell (Below.refl _ u1) HL1.out 5 rfl
      have c6 := below_cell (Below.refl _ u1) HL1.out 6 rfl
      go_upto_region 14 with (first | (go_at_call 26; refine HLD.out.mono ?_; rintro e u2 ⟨rfl, hc2, hg2⟩))
      have HLG := Lib.hid ((hg2.block _ (lt_of_block HL1.out) (fun e => absurd (Option.some.inj e) (by omega))).trans HL1.out)
      have HRS := Lib.hid ((hg2.block _ (lt_of_block HR1.out) (fun e => absurd (Option.some.inj e) (by omega))).trans HR1.out)
      have HBU : Hid (Below w.heap.size w u2) := Lib.hid (HB1.out.grown hg2 HB1.out.size (fun k hk => by injection hk with hk; have := HBQ.out; omega))
      obtain ⟨cs9, hcs9, hno9⟩ := cls_text HC1.out
      have HDW : Hid (IsWrts u2 (.slice k5 L1.dirty.length k6) L1.dirty) := Lib.hid (wrts_grown (log_dirty HV1.out) hcs9 hno9 hg2)
      have HQK := Lib.hid (log_ok ⟨L1.dsk, L1.left, 0⟩ L1 xs HRY.out.ok)
      have HQS := Lib.hid (log_secs ⟨L1.dsk, L1.left, 0⟩ L1 xs)
      have HDL : Hid (CL = if (logO ⟨L1.dsk, L1.left, 0⟩ L1 xs).code = 0 then tkL (logO ⟨L1.dsk, L1.left, 0⟩ L1 xs) L1 xs else goneL (logO ⟨L1.dsk, L1.left, 0⟩ L1 xs)) := Lib.hid HCL.out
      have HDE : Hid (CE = (logO ⟨L1.dsk, L1.left, 0⟩ L1 xs).code) := Lib.hid HCE.out
      generalize logO ⟨L1.dsk, L1.left, 0⟩ L1 xs = q at *
      obtain ⟨z1, z2, z3, z4, hcq, hpw⟩ := hc2.form
      have HCQ := Lib.hid hcq; have HPW := Lib.hid hpw
      clear c0 c1 c2 c3 c4 c5 c6 hcs9 hno9 hc2 hg2 hpw HLD HC1 HL1 HR1 HB1 HV1 HCL HCE
      have t0 := below_cell (Below.refl _ u2) hcq 0 rfl
      have t1 := below_cell (Below.refl _ u2) hcq 1 rfl
      have t2 := below_cell (Below.refl _ u2) hcq 2 rfl
      have t3 := below_cell (Below.refl _ u2) hcq 3 rfl
      clear hcq
      by_cases hco : q.code = 0
      · have hl : CL = tkL q L1 xs := HDL.out.trans (by rw [if_pos hco])
        have he : CE = 0 := HDE.out.trans hco
        have HDL := Lib.hid hl; have HDE := Lib.hid he
        rw [hco] at t3
        clear hl he hco
        go_upto_region 16 with fail
        have HLGo := HLG.out
        have l0 := below_cell (Below.refl _ u2) HLGo 0 rfl
        have l1 := below_cell (Below.refl _ u2) HLGo 1 rfl
        have l2 := below_cell (Below.refl _ u2) HLGo 2 rfl
        have l3 := below_cell (Below.refl _ u2) HLGo 3 rfl
        have l4 := below_cell (Below.refl _ u2) HLGo 4 rfl
        have l5 := below_cell (Below.refl _ u2) HLGo 5 rfl
        have l6 := below_cell (Below.refl _ u2) HLGo 6 rfl
        have f0 := block_frozen HLGo 0
        have f1 := block_frozen HLGo 1
        have f2 := block_frozen HLGo 2
        have hX : Hid (∀ u3, ((u2.setCell ⟨B, 0, none⟩ (.slice z1 q.dsk.secs.length z2)).setCell ⟨B, 1, none⟩ (.slice z3 q.dsk.pend.length z4)).setCell ⟨B, 2, none⟩ (.int .i64 q.left) = u3 → u3.heap[B]? = some (.cells #[.slice z1 q.dsk.secs.length z2, .slice z3 q.dsk.pend.length z4, .int .i64 q.left, .int .i64 L1.epoch, .int .i64 L1.seq, .int .i64 L1.used, .slice k5 L1.dirty.length k6] 29 (0, 0)) ∧
            u3.heap[B + 1]? = some (.cells #[.slice none 0 0, .slice none 0 0, .int .i64 0, .int .i64 0, .int .i64 0, .int .i64 0, .slice none 0 0] 29 (0, 0)) ∧ Below w.heap.size w u3 ∧ IsLog u3 (.agg #[.slice z1 q.dsk.secs.length z2, .slice z3 q.dsk.pend.length z4, .int .i64 q.left, .int .i64 L1.epoch, .int .i64 L1.seq, .int .i64 L1.used, .slice k5 L1.dirty.length k6]) ⟨q.dsk.secs, q.dsk.pend, q.left, L1.epoch, L1.seq, L1.used, L1.dirty⟩) := Lib.hid (by
          rintro u3 rfl
          have hb : ∀ b, b ≠ B → (((u2.setCell ⟨B, 0, none⟩ (.slice z1 q.dsk.secs.length z2)).setCell ⟨B, 1, none⟩ (.slice z3 q.dsk.pend.length z4)).setCell ⟨B, 2, none⟩ (.int .i64 q.left)).heap[b]? = u2.heap[b]? := fun b hb => (Below.heap_setCell _ _ _ _ hb).trans ((Below.heap_setCell _ _ _ _ hb).trans (Below.heap_setCell _ _ _ _ hb))
          have hp3 := HPW.out.apart HLGo (box_no _ _ _ _ _ _ _ _ _ _ _ _ _) (w' := ((u2.setCell ⟨B, 0, none⟩ (.slice z1 q.dsk.secs.length z2)).setCell ⟨B, 1, none⟩ (.slice z3 q.dsk.pend.length z4)).setCell ⟨B, 2, none⟩ (.int .i64 q.left)) (by simp) hb
          have hd3 := HDW.out.apart HLGo (box_no _ _ _ _ _ _ _ _ _ _ _ _ _) (w' := ((u2.setCell ⟨B, 0, none⟩ (.slice z1 q.dsk.secs.length z2)).setCell ⟨B, 1, none⟩ (.slice z3 q.dsk.pend.length z4)).setCell ⟨B, 2, none⟩ (.int .i64 q.left)) (by simp) hb
          have hB0 : w.heap.size ≤ B := by rw [HBQ.out]; exact Nat.le_refl _
          refine ⟨block_set (block_set (block_set HLGo 0 _) 1 _) 2 _, (hb (B + 1) (by omega)).trans HRS.out, ((HBU.out.setCell (p := ⟨B, 0, none⟩) hB0 _).setCell (p := ⟨B, 1, none⟩) hB0 _).setCell (p := ⟨B, 2, none⟩) hB0 _, power_made hp3 hd3 HQK.out HVB.out⟩)
        clear HLGo HBU HRS HLG HDW HPW HCQ
        go_upto_region 17 with fail
        obtain ⟨u3, hW⟩ : ∃ u3, ((u2.setCell ⟨B, 0, none⟩ (.slice z1 q.dsk.secs.length z2)).setCell ⟨B, 1, none⟩ (.slice z3 q.dsk.pend.length z4)).setCell ⟨B, 2, none⟩ (.int .i64 q.left) = u3 := ⟨_, rfl⟩
        rw [hW]
        obtain ⟨hL3, hR3, hB3, hV3⟩ := hX.out u3 hW
        have hq2 : q.dsk.secs.length = L1.secs.length := HQS.out
        have HTK := Lib.hid (wlTaken _ _ ⟨q.dsk.secs, q.dsk.pend, q.left, L1.epoch, L1.seq, L1.used, L1.dirty⟩ xs u3 hV3 (HWS.out u3 hB3) (by show dirtyB q.dsk.secs.length (-1) L1.dirty = true; rw [hq2]; exact HRY.out.dirty) (by show q.dsk.secs.length ≤ 256; rw [hq2]; exact HRY.out.small) (by show ∀ x ∈ xs, mayW q.dsk.secs.length x; rw [hq2]; exact HRY.out.may) (by have := HRY.out.n; omega) HRY.out.seq ⟨HRY.out.used.1, by have h : L1.used ≤ 40 := HRY.out.used.2; show L1.used ≤ 1000; omega⟩)
        have HR3 := Lib.hid hR3; have HB3 := Lib.hid hB3
        clear l0 l1 l2 l3 l4 l5 l6 f0 f1 f2 t0 t1 t2 t3 hX hW hV3 hR3 hB3 hq2
        have c0 := below_cell (Below.refl _ u3) hL3 0 rfl
        have c1 := below_cell (Below.refl _ u3) hL3 1 rfl
        have c2 := below_cell (Below.refl _ u3) hL3 2 rfl
        have c3 := below_cell (Below.refl _ u3) hL3 3 rfl
        have c4 := below_cell (Below.refl _ u3) hL3 4 rfl
        have c5 := below_cell (Below.refl _ u3) hL3 5 rfl
        have c6 := below_cell (Below.refl _ u3) hL3 6 rfl
        clear hL3
        go_wp2_with (first
          | (go_at_call 28; refine HTK.out.mono ?_; rintro e u4 ⟨v4, rfl, hlg4, hb4⟩; obtain ⟨y1, y2, y3, y4, y5, y6, rfl, _⟩ := id hlg4.form; have hrs := (hb4.block _ (lt_of_block HR3.out)).trans HR3.out)
          | (refine wpList_store_row rfl 29 _ _ rfl (B + 1) #[.slice y1 (tkL q L1 xs).secs.length y2, .slice y3 (tkL q L1 xs).pend.length y4, .int .i64 (tkL q L1 xs).left, .int .i64 (tkL q L1 xs).epoch, .int .i64 (tkL q L1 xs).seq, .int .i64 (tkL q L1 xs).used, .slice y5 (tkL q L1 xs).dirty.length y6] rfl rfl 29 _ hrs (by kernel_rfl) rfl (by simp [Value.oneCell']) ?_))
        have HS := Lib.hid (setRow_heap u4 (B + 1) _ #[.slice y1 (tkL q L1 xs).secs.length y2, .slice y3 (tkL q L1 xs).pend.length y4, .int .i64 (tkL q L1 xs).left, .int .i64 (tkL q L1 xs).epoch, .int .i64 (tkL q L1 xs).seq, .int .i64 (tkL q L1 xs).used, .slice y5 (tkL q L1 xs).dirty.length y6] _ _ hrs)
        refine bodyPost_ret (results_row_tmp rfl _ _ (B + 1) _ _ _ _ rfl HS.out Tryz.underlying29 rfl (by kernel_rfl)) rfl ⟨_, by rw [HDE.out]; rfl, ?_, below_setRow (HB3.out.trans (hb4.mono HB3.out.size)) (show w.heap.size ≤ B + 1 by rw [HBQ.out]; omega) _⟩
        rw [HDL.out]
        exact IsLog.apart hlg4 hrs no_textL (by simp [World.setRow]) (fun b hb => setRow_other u4 (B + 1) b _ hb)
      · have hl : CL = goneL q := HDL.out.trans (by rw [if_neg hco])
        have he : CE = q.code := HDE.out
        have hcq : (q.code != 0) = true := by simpa using hco
        have HGN := Lib.hid (fun x (hx : Below u2.heap.size u2 x) => wlGone z1 z3 q.dsk.secs.length z2 q.dsk.pend.length z4 q x (HPW.out.below hx) HQK.out)
        have HDL := Lib.hid hl; have HDE := Lib.hid he
        clear hl he hco
        go_upto_region 15 with fail
        go_region_with (first
          | (go_at_call 27; refine (HGN.out _ (by first | exact Below.refl _ _ | exact (Below.refl _ _).drew)).mono ?_; rintro e u9 ⟨rfl, hlog, hb9⟩; have hR10 := (hb9.block _ (lt_of_block HRS.out)).trans HRS.out; have hC10 := (hb9.block _ (lt_of_block HCQ.out)).trans HCQ.out; have t3 := below_cell (Below.refl _ u9) hC10 3 rfl; have r0 := below_cell (Below.refl _ u9) hR10 0 rfl; have fr0 := block_frozen hR10 0; have r1 := below_cell (Below.refl _ u9) hR10 1 rfl; have fr1 := block_frozen hR10 1; have r2 := below_cell (Below.refl _ u9) hR10 2 rfl; have fr2 := block_frozen hR10 2; have r3 := below_cell (Below.refl _ u9) hR10 3 rfl; have fr3 := block_frozen hR10 3; have r4 := below_cell (Below.refl _ u9) hR10 4 rfl; have fr4 := block_frozen hR10 4; have r5 := below_cell (Below.refl _ u9) hR10 5 rfl; have fr5 := block_frozen hR10 5; have r6 := below_cell (Below.refl _ u9) hR10 6 rfl; have fr6 := block_frozen hR10 6)
          | fail)
        all_goals
          have hbz := (Below.refl u2.heap.size u2).drew.trans (hb9.mono (Nat.le_refl _))
          have hB10 := HBU.out.trans (hbz.mono HBU.out.size)
          have hS := set7_block hR10 (.slice z1 q.dsk.secs.length z2) (.slice z3 q.dsk.pend.length z4) (.int .i64 q.left) (.int .i64 0) (.int .i64 0) (.int .i64 0) (.slice none 0 0)
          have hF := set7_below hB10 (show w.heap.size ≤ B + 1 by rw [HBQ.out]; omega) (.slice z1 q.dsk.secs.length z2) (.slice z3 q.dsk.pend.length z4) (.int .i64 q.left) (.int .i64 0) (.int .i64 0) (.int .i64 0) (.slice none 0 0)
          have hLg := hlog.apart (w' := set7 u9 (B + 1) (.slice z1 q.dsk.secs.length z2) (.slice z3 q.dsk.pend.length z4) (.int .i64 q.left) (.int .i64 0) (.int .i64 0) (.int .i64 0) (.slice none 0 0)) hR10 no_textL (by rw [set7_size]; exact Nat.le_refl _) (fun b hb => set7_other _ _ _ _ _ _ _ _ _ _ hb)
          unfold set7 at hS hF hLg
          have HS := Lib.hid hS; have HF := Lib.hid hF; have HLg := Lib.hid hLg
          clear hS hF hLg hlog hb9 hbz hB10 hR10 hC10 r0 r1 r2 r3 r4 r5 r6 fr0 fr1 fr2 fr3 fr4 fr5 fr6 t0 t1 t2 t3
          go_wp2_with fail
          exact bodyPost_ret (results_row_tmp rfl _ _ (B + 1) _ _ _ _ rfl HS.out Tryz.underlying29 rfl (by kernel_rfl)) rfl (by exact ⟨_, by rw [HDE.out]; rfl, by rw [HDL.out]; exact HLg.out, HF.out⟩)
    · have hq : (E1 != 0) = true := by simpa using hce
      have hl : CL = L1 := HCL.out.trans (if_neg hce)
      have he : CE = E1 := HCE.out.trans (if_neg hce)
      have H1 := Lib.hid hl; have H2 := Lib.hid he
      clear hl he hce
      go_upto_region 10 with fail
      have d0 := below_cell (Below.refl _ u5) HN5.out 0 rfl
      have d1 := below_cell (Below.refl _ u5) HN5.out 1 rfl
      have d2 := below_cell (Below.refl _ u5) HN5.out 2 rfl
      have d3 := below_cell (Below.refl _ u5) HN5.out 3 rfl
      have d4 := below_cell (Below.refl _ u5) HN5.out 4 rfl
      have d5 := below_cell (Below.refl _ u5) HN5.out 5 rfl
      have d6 := below_cell (Below.refl _ u5) HN5.out 6 rfl
      have HS := Lib.hid (setRow_heap u5 (B + 1) _ #[.slice k1 L1.secs.length k2, .slice k3 L1.pend.length k4, .int .i64 L1.left, .int .i64 L1.epoch, .int .i64 L1.seq, .int .i64 L1.used, .slice k5 L1.dirty.length k6] _ _ HR5.out)
      have HF := Lib.hid (below_setRow HB5.out (show w.heap.size ≤ B + 1 by rw [HBQ.out]; omega) #[.slice k1 L1.secs.length k2, .slice k3 L1.pend.length k4, .int .i64 L1.left, .int .i64 L1.epoch, .int .i64 L1.seq, .int .i64 L1.used, .slice k5 L1.dirty.length k6])
      have hrs := HR5.out
      go_wp2_with (first | (refine wpList_store_row rfl 29 _ _ rfl (B + 1) #[.slice k1 L1.secs.length k2, .slice k3 L1.pend.length k4, .int .i64 L1.left, .int .i64 L1.epoch, .int .i64 L1.seq, .int .i64 L1.used, .slice k5 L1.dirty.length k6] rfl rfl 29 _ hrs (by kernel_rfl) rfl (by simp [Value.oneCell']) ?_))
      exact bodyPost_ret (results_row_tmp rfl _ _ (B + 1) _ _ _ _ rfl HS.out Tryz.underlying29 rfl (by kernel_rfl)) rfl (by exact ⟨_, by rw [H2.out]; rfl, by rw [H1.out]; exact IsLog.apart HV5.out HR5.out no_textL (by simp [World.setRow]) (fun b hb => setRow_other u5 (B + 1) b _ hb), HF.out⟩)
  by_cases hu4 : 40 < l.used + n
  · have hs6q : (l.seq == 6) = false := by simpa using hs6
    have hful : fullB l n = true := by unfold fullB; exact decide_eq_true (by omega)
    have hl : CL = if ckE l = 0 then doneL (ckL l) xs else ckL l := HCL.out.trans (if_pos hful)
    have he : CE = if ckE l = 0 then doneE (ckL l) xs else ckE l := HCE.out.trans (if_pos hful)
    have hcp := wlCheckpoint _ l u (HH.out.below HBU.out) HP.out
    have hry : ckE l = 0 → Ready (ckL l) xs := fun h => ready_ck HRL.out HAW.out (by rw [HLEN.out]; exact HN0.out) (by rw [HLEN.out]; have := HN40.out; omega) h HP.out HKB.out.1
    have HCL := Lib.hid hl; have HCE := Lib.hid he; have HCP := Lib.hid hcp; have HRY0 := Lib.hid hry
    clear hl he hful hcp hry
    generalize ckL l = L1 at *
    generalize ckE l = E1 at *
    clear hs6
    go_upto_region 8 with fail
    clear s4 s5 hs6q
    have c0 := below_cell (Below.refl _ u) HLG.out 0 rfl
    have c1 := below_cell (Below.refl _ u) HLG.out 1 rfl
    have c2 := below_cell (Below.refl _ u) HLG.out 2 rfl
    have c3 := below_cell (Below.refl _ u) HLG.out 3 rfl
    have c4 := below_cell (Below.refl _ u) HLG.out 4 rfl
    have c5 := below_cell (Below.refl _ u) HLG.out 5 rfl
    have c6 := below_cell (Below.refl _ u) HLG.out 6 rfl
    go_upto_region 9 with (first | (go_at_call 12; refine HCP.out.mono ?_; rintro e u4 ⟨v4, rfl, hlg4, hb4⟩; obtain ⟨k1, k2, k3, k4, k5, k6, rfl, _⟩ := id hlg4.form))
    have hal4 := (Below.refl u4.heap.size u4).alloc (Nat.le_refl _) (.cells #[.slice k1 L1.secs.length k2, .slice k3 L1.pend.length k4, .int .i64 L1.left, .int .i64 L1.epoch, .int .i64 L1.seq, .int .i64 L1.used, .slice k5 L1.dirty.length k6] 29)
    have hn4 := heap_alloc_new u4 (.cells #[.slice k1 L1.secs.length k2, .slice k3 L1.pend.length k4, .int .i64 L1.left, .int .i64 L1.epoch, .int .i64 L1.seq, .int .i64 L1.used, .slice k5 L1.dirty.length k6] 29)
    have hL5 := (hal4.block _ (lt_of_block ((hb4.block _ (lt_of_block HLG.out)).trans HLG.out))).trans ((hb4.block _ (lt_of_block HLG.out)).trans HLG.out)
    have hR5 := (hal4.block _ (lt_of_block ((hb4.block _ (lt_of_block HRS.out)).trans HRS.out))).trans ((hb4.block _ (lt_of_block HRS.out)).trans HRS.out)
    have hB5 := (HBU.out.trans (hb4.mono HBU.out.size)).trans (hal4.mono (HBU.out.trans (hb4.mono HBU.out.size)).size)
    have hV5 := hlg4.below hal4
    obtain ⟨u5, hW⟩ : ∃ u5, u4.alloc (.cells #[.slice k1 L1.secs.length k2, .slice k3 L1.pend.length k4, .int .i64 L1.left, .int .i64 L1.epoch, .int .i64 L1.seq, .int .i64 L1.used, .slice k5 L1.dirty.length k6] 29) = u5 := ⟨_, rfl⟩
    obtain ⟨C, hC⟩ : ∃ C, u4.heap.size = C := ⟨_, rfl⟩
    have hzc : B + 1 + 1 ≤ C := by have := hb4.size; omega
    rw [hW] at hn4 hL5 hR5 hB5 hV5 ⊢
    rw [hC] at hn4
    (try rw [hC])
    have HL5 := Lib.hid hL5; have HR5 := Lib.hid hR5; have HB5 := Lib.hid hB5; have HV5 := Lib.hid hV5; have HN5 := Lib.hid hn4
    clear c0 c1 c2 c3 c4 c5 c6 hal4 hn4 hL5 hR5 hB5 hV5 hW hC hb4 hlg4 HCP HLG HRS HBU hzu
    by_cases hce : E1 = 0
    · subst hce
      have hl : CL = doneL L1 xs := HCL.out.trans (if_pos rfl)
      have he : CE = doneE L1 xs := HCE.out.trans (if_pos rfl)
      have HCL := Lib.hid hl; have HCE := Lib.hid he
      have HRY := Lib.hid (HRY0.out rfl)
      clear hl he
      go_upto_region 11 with fail
      have d0 := below_cell (Below.refl _ u5) HN5.out 0 rfl
      have d1 := below_cell (Below.refl _ u5) HN5.out 1 rfl
      have d2 := below_cell (Below.refl _ u5) HN5.out 2 rfl
      have d3 := below_cell (Below.refl _ u5) HN5.out 3 rfl
      have d4 := below_cell (Below.refl _ u5) HN5.out 4 rfl
      have d5 := below_cell (Below.refl _ u5) HN5.out 5 rfl
      have d6 := below_cell (Below.refl _ u5) HN5.out 6 rfl
      have hLs := HL5.out
      go_upto_region 12 with (first | (refine wpList_store_row rfl 29 _ _ rfl B #[.slice k1 L1.secs.length k2, .slice k3 L1.pend.length k4, .int .i64 L1.left, .int .i64 L1.epoch, .int .i64 L1.seq, .int .i64 L1.used, .slice k5 L1.dirty.length k6] rfl rfl 29 _ hLs (by kernel_rfl) rfl (by simp [Value.oneCell']) ?_))
      have hX : Hid (∀ u, u5.setRow B #[.slice k1 L1.secs.length k2, .slice k3 L1.pend.length k4, .int .i64 L1.left, .int .i64 L1.epoch, .int .i64 L1.seq, .int .i64 L1.used, .slice k5 L1.dirty.length k6] = u → u.heap[B]? = some (.cells #[.slice k1 L1.secs.length k2, .slice k3 L1.pend.length k4, .int .i64 L1.left, .int .i64 L1.epoch, .int .i64 L1.seq, .int .i64 L1.used, .slice k5 L1.dirty.length k6] 29 (0, 0)) ∧ u.heap[B + 1]? = some (.cells #[.slice none 0 0, .slice none 0 0, .int .i64 0, .int .i64 0, .int .i64 0, .int .i64 0, .slice none 0 0] 29 (0, 0)) ∧ Below w.heap.size w u ∧ IsLog u (.agg #[.slice k1 L1.secs.length k2, .slice k3 L1.pend.length k4, .int .i64 L1.left, .int .i64 L1.epoch, .int .i64 L1.seq, .int .i64 L1.used, .slice k5 L1.dirty.length k6]) L1 ∧ B + 1 + 1 ≤ u.heap.size) := Lib.hid (by
        rintro u rfl
        have hr := (setRow_other u5 B (B + 1) #[.slice k1 L1.secs.length k2, .slice k3 L1.pend.length k4, .int .i64 L1.left, .int .i64 L1.epoch, .int .i64 L1.seq, .int .i64 L1.used, .slice k5 L1.dirty.length k6] (by omega)).trans HR5.out
        exact ⟨setRow_heap u5 B _ #[.slice k1 L1.secs.length k2, .slice k3 L1.pend.length k4, .int .i64 L1.left, .int .i64 L1.epoch, .int .i64 L1.seq, .int .i64 L1.used, .slice k5 L1.dirty.length k6] _ _ HL5.out, hr, below_setRow HB5.out (by rw [HBQ.out]; exact Nat.le_refl _) _, IsLog.apart HV5.out HL5.out (box_no _ _ _ _ _ _ _ _ _ _ _ _ _) (by simp [World.setRow]) (fun b hb => setRow_other u5 B b _ hb), by have := lt_of_block hr; omega⟩)
      clear d0 d1 d2 d3 d4 d5 d6 hLs
      obtain ⟨u, hW⟩ : ∃ u, u5.setRow B #[.slice k1 L1.secs.length k2, .slice k3 L1.pend.length k4, .int .i64 L1.left, .int .i64 L1.epoch, .int .i64 L1.seq, .int .i64 L1.used, .slice k5 L1.dirty.length k6] = u := ⟨_, rfl⟩
      rw [hW]
      obtain ⟨hg1, hg2, hg3, hg4, hzu⟩ := hX.out u hW
      have HLG := Lib.hid hg1; have HRS := Lib.hid hg2; have HBU := Lib.hid hg3; have HVL := Lib.hid hg4; have HVB := Lib.hid hg4.1.2
      clear hg1 hg2 hg3 hg4 hX hW HL5 HR5 HB5 HV5 HN5
      have c0 := below_cell (Below.refl _ u) HLG.out 0 rfl
      have c1 := below_cell (Below.refl _ u) HLG.out 1 rfl
      have c2 := below_cell (Below.refl _ u) HLG.out 2 rfl
      have hn := heap_alloc_new u (.cells #[.slice k1 L1.secs.length k2, .slice k3 L1.pend.length k4, .int .i64 L1.left, .int .i64 0] 59)
      have hal := (Below.refl u.heap.size u).alloc (Nat.le_refl _) (.cells #[.slice k1 L1.secs.length k2, .slice k3 L1.pend.length k4, .int .i64 L1.left, .int .i64 0] 59)
      have hpl := (power_log HVL.out).below hal
      have hL1 := (hal.block _ (lt_of_block HLG.out)).trans HLG.out
      have hR1 := (hal.block _ (lt_of_block HRS.out)).trans HRS.out
      have hB1 := HBU.out.trans (hal.mono HBU.out.size)
      have hV1 := HVL.out.below hal
      go_upto_region 13 with fail
      obtain ⟨u1, hW⟩ : ∃ u1, u.alloc (.cells #[.slice k1 L1.secs.length k2, .slice k3 L1.pend.length k4, .int .i64 L1.left, .int .i64 0] 59) = u1 := ⟨_, rfl⟩
      obtain ⟨T, hT⟩ : ∃ T, u.heap.size = T := ⟨_, rfl⟩
      rw [hW] at hn hL1 hR1 hB1 hV1 hpl ⊢
      rw [hT] at hn
      (try rw [hT])
      rw [hT] at hzu
      have hC1 : IsCls u1 T ⟨L1.dsk, L1.left, 0⟩ := ⟨_, _, hn, hpl⟩
      have HC1 := Lib.hid hC1
      have HL1 := Lib.hid hL1; have HR1 := Lib.hid hR1; have HB1 := Lib.hid hB1; have HV1 := Lib.hid hV1
      have HLD := Lib.hid (wlLogged T ⟨L1.dsk, L1.left, 0⟩ _ _ L1 xs u1 hC1 hV1 (HWS.out u1 hB1) HRY.out.ok HRY.out.pend HRY.out.n HRY.out.head HRY.out.used)
      clear c0 c1 c2 hn hal hpl hL1 hR1 hB1 hV1 hW hT hC1 HLG HRS HBU HVL
      have c0 := below_cell (Below.refl _ u1) HL1.out 0 rfl
      have c1 := below_cell (Below.refl _ u1) HL1.out 1 rfl
      have c2 := below_cell (Below.refl _ u1) HL1.out 2 rfl
      have c3 := below_cell (Below.refl _ u1) HL1.out 3 rfl
      have c4 := below_cell (Below.refl _ u1) HL1.out 4 rfl
      have c5 := below_cell (Below.refl _ u1) HL1.out 5 rfl
      have c6 := below_cell (Below.refl _ u1) HL1.out 6 rfl
      go_upto_region 14 with (first | (go_at_call 26; refine HLD.out.mono ?_; rintro e u2 ⟨rfl, hc2, hg2⟩))
      have HLG := Lib.hid ((hg2.block _ (lt_of_block HL1.out) (fun e => absurd (Option.some.inj e) (by omega))).trans HL1.out)
      have HRS := Lib.hid ((hg2.block _ (lt_of_block HR1.out) (fun e => absurd (Option.some.inj e) (by omega))).trans HR1.out)
      have HBU : Hid (Below w.heap.size w u2) := Lib.hid (HB1.out.grown hg2 HB1.out.size (fun k hk => by injection hk with hk; have := HBQ.out; omega))
      obtain ⟨cs9, hcs9, hno9⟩ := cls_text HC1.out
      have HDW : Hid (IsWrts u2 (.slice k5 L1.dirty.length k6) L1.dirty) := Lib.hid (wrts_grown (log_dirty HV1.out) hcs9 hno9 hg2)
      have HQK := Lib.hid (log_ok ⟨L1.dsk, L1.left, 0⟩ L1 xs HRY.out.ok)
      have HQS := Lib.hid (log_secs ⟨L1.dsk, L1.left, 0⟩ L1 xs)
      have HDL : Hid (CL = if (logO ⟨L1.dsk, L1.left, 0⟩ L1 xs).code = 0 then tkL (logO ⟨L1.dsk, L1.left, 0⟩ L1 xs) L1 xs else goneL (logO ⟨L1.dsk, L1.left, 0⟩ L1 xs)) := Lib.hid HCL.out
      have HDE : Hid (CE = (logO ⟨L1.dsk, L1.left, 0⟩ L1 xs).code) := Lib.hid HCE.out
      generalize logO ⟨L1.dsk, L1.left, 0⟩ L1 xs = q at *
      obtain ⟨z1, z2, z3, z4, hcq, hpw⟩ := hc2.form
      have HCQ := Lib.hid hcq; have HPW := Lib.hid hpw
      clear c0 c1 c2 c3 c4 c5 c6 hcs9 hno9 hc2 hg2 hpw HLD HC1 HL1 HR1 HB1 HV1 HCL HCE
      have t0 := below_cell (Below.refl _ u2) hcq 0 rfl
      have t1 := below_cell (Below.refl _ u2) hcq 1 rfl
      have t2 := below_cell (Below.refl _ u2) hcq 2 rfl
      have t3 := below_cell (Below.refl _ u2) hcq 3 rfl
      clear hcq
      by_cases hco : q.code = 0
      · have hl : CL = tkL q L1 xs := HDL.out.trans (by rw [if_pos hco])
        have he : CE = 0 := HDE.out.trans hco
        have HDL := Lib.hid hl; have HDE := Lib.hid he
        rw [hco] at t3
        clear hl he hco
        go_upto_region 16 with fail
        have HLGo := HLG.out
        have l0 := below_cell (Below.refl _ u2) HLGo 0 rfl
        have l1 := below_cell (Below.refl _ u2) HLGo 1 rfl
        have l2 := below_cell (Below.refl _ u2) HLGo 2 rfl
        have l3 := below_cell (Below.refl _ u2) HLGo 3 rfl
        have l4 := below_cell (Below.refl _ u2) HLGo 4 rfl
        have l5 := below_cell (Below.refl _ u2) HLGo 5 rfl
        have l6 := below_cell (Below.refl _ u2) HLGo 6 rfl
        have f0 := block_frozen HLGo 0
        have f1 := block_frozen HLGo 1
        have f2 := block_frozen HLGo 2
        have hX : Hid (∀ u3, ((u2.setCell ⟨B, 0, none⟩ (.slice z1 q.dsk.secs.length z2)).setCell ⟨B, 1, none⟩ (.slice z3 q.dsk.pend.length z4)).setCell ⟨B, 2, none⟩ (.int .i64 q.left) = u3 → u3.heap[B]? = some (.cells #[.slice z1 q.dsk.secs.length z2, .slice z3 q.dsk.pend.length z4, .int .i64 q.left, .int .i64 L1.epoch, .int .i64 L1.seq, .int .i64 L1.used, .slice k5 L1.dirty.length k6] 29 (0, 0)) ∧
            u3.heap[B + 1]? = some (.cells #[.slice none 0 0, .slice none 0 0, .int .i64 0, .int .i64 0, .int .i64 0, .int .i64 0, .slice none 0 0] 29 (0, 0)) ∧ Below w.heap.size w u3 ∧ IsLog u3 (.agg #[.slice z1 q.dsk.secs.length z2, .slice z3 q.dsk.pend.length z4, .int .i64 q.left, .int .i64 L1.epoch, .int .i64 L1.seq, .int .i64 L1.used, .slice k5 L1.dirty.length k6]) ⟨q.dsk.secs, q.dsk.pend, q.left, L1.epoch, L1.seq, L1.used, L1.dirty⟩) := Lib.hid (by
          rintro u3 rfl
          have hb : ∀ b, b ≠ B → (((u2.setCell ⟨B, 0, none⟩ (.slice z1 q.dsk.secs.length z2)).setCell ⟨B, 1, none⟩ (.slice z3 q.dsk.pend.length z4)).setCell ⟨B, 2, none⟩ (.int .i64 q.left)).heap[b]? = u2.heap[b]? := fun b hb => (Below.heap_setCell _ _ _ _ hb).trans ((Below.heap_setCell _ _ _ _ hb).trans (Below.heap_setCell _ _ _ _ hb))
          have hp3 := HPW.out.apart HLGo (box_no _ _ _ _ _ _ _ _ _ _ _ _ _) (w' := ((u2.setCell ⟨B, 0, none⟩ (.slice z1 q.dsk.secs.length z2)).setCell ⟨B, 1, none⟩ (.slice z3 q.dsk.pend.length z4)).setCell ⟨B, 2, none⟩ (.int .i64 q.left)) (by simp) hb
          have hd3 := HDW.out.apart HLGo (box_no _ _ _ _ _ _ _ _ _ _ _ _ _) (w' := ((u2.setCell ⟨B, 0, none⟩ (.slice z1 q.dsk.secs.length z2)).setCell ⟨B, 1, none⟩ (.slice z3 q.dsk.pend.length z4)).setCell ⟨B, 2, none⟩ (.int .i64 q.left)) (by simp) hb
          have hB0 : w.heap.size ≤ B := by rw [HBQ.out]; exact Nat.le_refl _
          refine ⟨block_set (block_set (block_set HLGo 0 _) 1 _) 2 _, (hb (B + 1) (by omega)).trans HRS.out, ((HBU.out.setCell (p := ⟨B, 0, none⟩) hB0 _).setCell (p := ⟨B, 1, none⟩) hB0 _).setCell (p := ⟨B, 2, none⟩) hB0 _, power_made hp3 hd3 HQK.out HVB.out⟩)
        clear HLGo HBU HRS HLG HDW HPW HCQ
        go_upto_region 17 with fail
        obtain ⟨u3, hW⟩ : ∃ u3, ((u2.setCell ⟨B, 0, none⟩ (.slice z1 q.dsk.secs.length z2)).setCell ⟨B, 1, none⟩ (.slice z3 q.dsk.pend.length z4)).setCell ⟨B, 2, none⟩ (.int .i64 q.left) = u3 := ⟨_, rfl⟩
        rw [hW]
        obtain ⟨hL3, hR3, hB3, hV3⟩ := hX.out u3 hW
        have hq2 : q.dsk.secs.length = L1.secs.length := HQS.out
        have HTK := Lib.hid (wlTaken _ _ ⟨q.dsk.secs, q.dsk.pend, q.left, L1.epoch, L1.seq, L1.used, L1.dirty⟩ xs u3 hV3 (HWS.out u3 hB3) (by show dirtyB q.dsk.secs.length (-1) L1.dirty = true; rw [hq2]; exact HRY.out.dirty) (by show q.dsk.secs.length ≤ 256; rw [hq2]; exact HRY.out.small) (by show ∀ x ∈ xs, mayW q.dsk.secs.length x; rw [hq2]; exact HRY.out.may) (by have := HRY.out.n; omega) HRY.out.seq ⟨HRY.out.used.1, by have h : L1.used ≤ 40 := HRY.out.used.2; show L1.used ≤ 1000; omega⟩)
        have HR3 := Lib.hid hR3; have HB3 := Lib.hid hB3
        clear l0 l1 l2 l3 l4 l5 l6 f0 f1 f2 t0 t1 t2 t3 hX hW hV3 hR3 hB3 hq2
        have c0 := below_cell (Below.refl _ u3) hL3 0 rfl
        have c1 := below_cell (Below.refl _ u3) hL3 1 rfl
        have c2 := below_cell (Below.refl _ u3) hL3 2 rfl
        have c3 := below_cell (Below.refl _ u3) hL3 3 rfl
        have c4 := below_cell (Below.refl _ u3) hL3 4 rfl
        have c5 := below_cell (Below.refl _ u3) hL3 5 rfl
        have c6 := below_cell (Below.refl _ u3) hL3 6 rfl
        clear hL3
        go_wp2_with (first
          | (go_at_call 28; refine HTK.out.mono ?_; rintro e u4 ⟨v4, rfl, hlg4, hb4⟩; obtain ⟨y1, y2, y3, y4, y5, y6, rfl, _⟩ := id hlg4.form; have hrs := (hb4.block _ (lt_of_block HR3.out)).trans HR3.out)
          | (refine wpList_store_row rfl 29 _ _ rfl (B + 1) #[.slice y1 (tkL q L1 xs).secs.length y2, .slice y3 (tkL q L1 xs).pend.length y4, .int .i64 (tkL q L1 xs).left, .int .i64 (tkL q L1 xs).epoch, .int .i64 (tkL q L1 xs).seq, .int .i64 (tkL q L1 xs).used, .slice y5 (tkL q L1 xs).dirty.length y6] rfl rfl 29 _ hrs (by kernel_rfl) rfl (by simp [Value.oneCell']) ?_))
        have HS := Lib.hid (setRow_heap u4 (B + 1) _ #[.slice y1 (tkL q L1 xs).secs.length y2, .slice y3 (tkL q L1 xs).pend.length y4, .int .i64 (tkL q L1 xs).left, .int .i64 (tkL q L1 xs).epoch, .int .i64 (tkL q L1 xs).seq, .int .i64 (tkL q L1 xs).used, .slice y5 (tkL q L1 xs).dirty.length y6] _ _ hrs)
        refine bodyPost_ret (results_row_tmp rfl _ _ (B + 1) _ _ _ _ rfl HS.out Tryz.underlying29 rfl (by kernel_rfl)) rfl ⟨_, by rw [HDE.out]; rfl, ?_, below_setRow (HB3.out.trans (hb4.mono HB3.out.size)) (show w.heap.size ≤ B + 1 by rw [HBQ.out]; omega) _⟩
        rw [HDL.out]
        exact IsLog.apart hlg4 hrs no_textL (by simp [World.setRow]) (fun b hb => setRow_other u4 (B + 1) b _ hb)
      · have hl : CL = goneL q := HDL.out.trans (by rw [if_neg hco])
        have he : CE = q.code := HDE.out
        have hcq : (q.code != 0) = true := by simpa using hco
        have HGN := Lib.hid (fun x (hx : Below u2.heap.size u2 x) => wlGone z1 z3 q.dsk.secs.length z2 q.dsk.pend.length z4 q x (HPW.out.below hx) HQK.out)
        have HDL := Lib.hid hl; have HDE := Lib.hid he
        clear hl he hco
        go_upto_region 15 with fail
        go_region_with (first
          | (go_at_call 27; refine (HGN.out _ (by first | exact Below.refl _ _ | exact (Below.refl _ _).drew)).mono ?_; rintro e u9 ⟨rfl, hlog, hb9⟩; have hR10 := (hb9.block _ (lt_of_block HRS.out)).trans HRS.out; have hC10 := (hb9.block _ (lt_of_block HCQ.out)).trans HCQ.out; have t3 := below_cell (Below.refl _ u9) hC10 3 rfl; have r0 := below_cell (Below.refl _ u9) hR10 0 rfl; have fr0 := block_frozen hR10 0; have r1 := below_cell (Below.refl _ u9) hR10 1 rfl; have fr1 := block_frozen hR10 1; have r2 := below_cell (Below.refl _ u9) hR10 2 rfl; have fr2 := block_frozen hR10 2; have r3 := below_cell (Below.refl _ u9) hR10 3 rfl; have fr3 := block_frozen hR10 3; have r4 := below_cell (Below.refl _ u9) hR10 4 rfl; have fr4 := block_frozen hR10 4; have r5 := below_cell (Below.refl _ u9) hR10 5 rfl; have fr5 := block_frozen hR10 5; have r6 := below_cell (Below.refl _ u9) hR10 6 rfl; have fr6 := block_frozen hR10 6)
          | fail)
        all_goals
          have hbz := (Below.refl u2.heap.size u2).drew.trans (hb9.mono (Nat.le_refl _))
          have hB10 := HBU.out.trans (hbz.mono HBU.out.size)
          have hS := set7_block hR10 (.slice z1 q.dsk.secs.length z2) (.slice z3 q.dsk.pend.length z4) (.int .i64 q.left) (.int .i64 0) (.int .i64 0) (.int .i64 0) (.slice none 0 0)
          have hF := set7_below hB10 (show w.heap.size ≤ B + 1 by rw [HBQ.out]; omega) (.slice z1 q.dsk.secs.length z2) (.slice z3 q.dsk.pend.length z4) (.int .i64 q.left) (.int .i64 0) (.int .i64 0) (.int .i64 0) (.slice none 0 0)
          have hLg := hlog.apart (w' := set7 u9 (B + 1) (.slice z1 q.dsk.secs.length z2) (.slice z3 q.dsk.pend.length z4) (.int .i64 q.left) (.int .i64 0) (.int .i64 0) (.int .i64 0) (.slice none 0 0)) hR10 no_textL (by rw [set7_size]; exact Nat.le_refl _) (fun b hb => set7_other _ _ _ _ _ _ _ _ _ _ hb)
          unfold set7 at hS hF hLg
          have HS := Lib.hid hS; have HF := Lib.hid hF; have HLg := Lib.hid hLg
          clear hS hF hLg hlog hb9 hbz hB10 hR10 hC10 r0 r1 r2 r3 r4 r5 r6 fr0 fr1 fr2 fr3 fr4 fr5 fr6 t0 t1 t2 t3
          go_wp2_with fail
          exact bodyPost_ret (results_row_tmp rfl _ _ (B + 1) _ _ _ _ rfl HS.out Tryz.underlying29 rfl (by kernel_rfl)) rfl (by exact ⟨_, by rw [HDE.out]; rfl, by rw [HDL.out]; exact HLg.out, HF.out⟩)
    · have hq : (E1 != 0) = true := by simpa using hce
      have hl : CL = L1 := HCL.out.trans (if_neg hce)
      have he : CE = E1 := HCE.out.trans (if_neg hce)
      have H1 := Lib.hid hl; have H2 := Lib.hid he
      clear hl he hce
      go_upto_region 10 with fail
      have d0 := below_cell (Below.refl _ u5) HN5.out 0 rfl
      have d1 := below_cell (Below.refl _ u5) HN5.out 1 rfl
      have d2 := below_cell (Below.refl _ u5) HN5.out 2 rfl
      have d3 := below_cell (Below.refl _ u5) HN5.out 3 rfl
      have d4 := below_cell (Below.refl _ u5) HN5.out 4 rfl
      have d5 := below_cell (Below.refl _ u5) HN5.out 5 rfl
      have d6 := below_cell (Below.refl _ u5) HN5.out 6 rfl
      have HS := Lib.hid (setRow_heap u5 (B + 1) _ #[.slice k1 L1.secs.length k2, .slice k3 L1.pend.length k4, .int .i64 L1.left, .int .i64 L1.epoch, .int .i64 L1.seq, .int .i64 L1.used, .slice k5 L1.dirty.length k6] _ _ HR5.out)
      have HF := Lib.hid (below_setRow HB5.out (show w.heap.size ≤ B + 1 by rw [HBQ.out]; omega) #[.slice k1 L1.secs.length k2, .slice k3 L1.pend.length k4, .int .i64 L1.left, .int .i64 L1.epoch, .int .i64 L1.seq, .int .i64 L1.used, .slice k5 L1.dirty.length k6])
      have hrs := HR5.out
      go_wp2_with (first | (refine wpList_store_row rfl 29 _ _ rfl (B + 1) #[.slice k1 L1.secs.length k2, .slice k3 L1.pend.length k4, .int .i64 L1.left, .int .i64 L1.epoch, .int .i64 L1.seq, .int .i64 L1.used, .slice k5 L1.dirty.length k6] rfl rfl 29 _ hrs (by kernel_rfl) rfl (by simp [Value.oneCell']) ?_))
      exact bodyPost_ret (results_row_tmp rfl _ _ (B + 1) _ _ _ _ rfl HS.out Tryz.underlying29 rfl (by kernel_rfl)) rfl (by exact ⟨_, by rw [H2.out]; rfl, by rw [H1.out]; exact IsLog.apart HV5.out HR5.out no_textL (by simp [World.setRow]) (fun b hb => setRow_other u5 (B + 1) b _ hb), HF.out⟩)
  have hs6q : (l.seq == 6) = false := by simpa using hs6
  have hful : fullB l n = false := by unfold fullB; exact decide_eq_false (by omega)
  have hl : CL = doneL l xs := HCL.out.trans (if_neg (by rw [hful]; decide))
  have he : CE = doneE l xs := HCE.out.trans (if_neg (by rw [hful]; decide))
  have HCL := Lib.hid hl; have HCE := Lib.hid he
  have HRY := Lib.hid (ready_at HRL.out HAW.out (by rw [HLEN.out]; exact HN0.out) (by rw [HLEN.out]; have := HN40.out; omega) (by rw [HLEN.out]; exact hful) HP.out HKB.out.1)
  have HVL := Lib.hid (HH.out.below HBU.out)
  have HVB := Lib.hid HKB.out.2
  clear hl he hful hs6
  go_upto_region 12 with fail
  clear s4 s5
  have c0 := below_cell (Below.refl _ u) HLG.out 0 rfl
  have c1 := below_cell (Below.refl _ u) HLG.out 1 rfl
  have c2 := below_cell (Below.refl _ u) HLG.out 2 rfl
  have hn := heap_alloc_new u (.cells #[.slice x1 l.secs.length x2, .slice x3 l.pend.length x4, .int .i64 l.left, .int .i64 0] 59)
  have hal := (Below.refl u.heap.size u).alloc (Nat.le_refl _) (.cells #[.slice x1 l.secs.length x2, .slice x3 l.pend.length x4, .int .i64 l.left, .int .i64 0] 59)
  have hpl := (power_log HVL.out).below hal
  have hL1 := (hal.block _ (lt_of_block HLG.out)).trans HLG.out
  have hR1 := (hal.block _ (lt_of_block HRS.out)).trans HRS.out
  have hB1 := HBU.out.trans (hal.mono HBU.out.size)
  have hV1 := HVL.out.below hal
  go_upto_region 13 with fail
  obtain ⟨u1, hW⟩ : ∃ u1, u.alloc (.cells #[.slice x1 l.secs.length x2, .slice x3 l.pend.length x4, .int .i64 l.left, .int .i64 0] 59) = u1 := ⟨_, rfl⟩
  obtain ⟨T, hT⟩ : ∃ T, u.heap.size = T := ⟨_, rfl⟩
  rw [hW] at hn hL1 hR1 hB1 hV1 hpl ⊢
  rw [hT] at hn
  (try rw [hT])
  rw [hT] at hzu
  have hC1 : IsCls u1 T ⟨l.dsk, l.left, 0⟩ := ⟨_, _, hn, hpl⟩
  have HC1 := Lib.hid hC1
  have HL1 := Lib.hid hL1; have HR1 := Lib.hid hR1; have HB1 := Lib.hid hB1; have HV1 := Lib.hid hV1
  have HLD := Lib.hid (wlLogged T ⟨l.dsk, l.left, 0⟩ _ _ l xs u1 hC1 hV1 (HWS.out u1 hB1) HRY.out.ok HRY.out.pend HRY.out.n HRY.out.head HRY.out.used)
  clear c0 c1 c2 hn hal hpl hL1 hR1 hB1 hV1 hW hT hC1 HLG HRS HBU HVL
  have c0 := below_cell (Below.refl _ u1) HL1.out 0 rfl
  have c1 := below_cell (Below.refl _ u1) HL1.out 1 rfl
  have c2 := below_cell (Below.refl _ u1) HL1.out 2 rfl
  have c3 := below_cell (Below.refl _ u1) HL1.out 3 rfl
  have c4 := below_cell (Below.refl _ u1) HL1.out 4 rfl
  have c5 := below_cell (Below.refl _ u1) HL1.out 5 rfl
  have c6 := below_cell (Below.refl _ u1) HL1.out 6 rfl
  go_upto_region 14 with (first | (go_at_call 26; refine HLD.out.mono ?_; rintro e u2 ⟨rfl, hc2, hg2⟩))
  have HLG := Lib.hid ((hg2.block _ (lt_of_block HL1.out) (fun e => absurd (Option.some.inj e) (by omega))).trans HL1.out)
  have HRS := Lib.hid ((hg2.block _ (lt_of_block HR1.out) (fun e => absurd (Option.some.inj e) (by omega))).trans HR1.out)
  have HBU : Hid (Below w.heap.size w u2) := Lib.hid (HB1.out.grown hg2 HB1.out.size (fun k hk => by injection hk with hk; have := HBQ.out; omega))
  obtain ⟨cs9, hcs9, hno9⟩ := cls_text HC1.out
  have HDW : Hid (IsWrts u2 (.slice x5 l.dirty.length x6) l.dirty) := Lib.hid (wrts_grown (log_dirty HV1.out) hcs9 hno9 hg2)
  have HQK := Lib.hid (log_ok ⟨l.dsk, l.left, 0⟩ l xs HRY.out.ok)
  have HQS := Lib.hid (log_secs ⟨l.dsk, l.left, 0⟩ l xs)
  have HDL : Hid (CL = if (logO ⟨l.dsk, l.left, 0⟩ l xs).code = 0 then tkL (logO ⟨l.dsk, l.left, 0⟩ l xs) l xs else goneL (logO ⟨l.dsk, l.left, 0⟩ l xs)) := Lib.hid HCL.out
  have HDE : Hid (CE = (logO ⟨l.dsk, l.left, 0⟩ l xs).code) := Lib.hid HCE.out
  generalize logO ⟨l.dsk, l.left, 0⟩ l xs = q at *
  obtain ⟨z1, z2, z3, z4, hcq, hpw⟩ := hc2.form
  have HCQ := Lib.hid hcq; have HPW := Lib.hid hpw
  clear c0 c1 c2 c3 c4 c5 c6 hcs9 hno9 hc2 hg2 hpw HLD HC1 HL1 HR1 HB1 HV1 HCL HCE
  have t0 := below_cell (Below.refl _ u2) hcq 0 rfl
  have t1 := below_cell (Below.refl _ u2) hcq 1 rfl
  have t2 := below_cell (Below.refl _ u2) hcq 2 rfl
  have t3 := below_cell (Below.refl _ u2) hcq 3 rfl
  clear hcq
  by_cases hco : q.code = 0
  · have hl : CL = tkL q l xs := HDL.out.trans (by rw [if_pos hco])
    have he : CE = 0 := HDE.out.trans hco
    have HDL := Lib.hid hl; have HDE := Lib.hid he
    rw [hco] at t3
    clear hl he hco
    go_upto_region 16 with fail
    have HLGo := HLG.out
    have l0 := below_cell (Below.refl _ u2) HLGo 0 rfl
    have l1 := below_cell (Below.refl _ u2) HLGo 1 rfl
    have l2 := below_cell (Below.refl _ u2) HLGo 2 rfl
    have l3 := below_cell (Below.refl _ u2) HLGo 3 rfl
    have l4 := below_cell (Below.refl _ u2) HLGo 4 rfl
    have l5 := below_cell (Below.refl _ u2) HLGo 5 rfl
    have l6 := below_cell (Below.refl _ u2) HLGo 6 rfl
    have f0 := block_frozen HLGo 0
    have f1 := block_frozen HLGo 1
    have f2 := block_frozen HLGo 2
    have hX : Hid (∀ u3, ((u2.setCell ⟨B, 0, none⟩ (.slice z1 q.dsk.secs.length z2)).setCell ⟨B, 1, none⟩ (.slice z3 q.dsk.pend.length z4)).setCell ⟨B, 2, none⟩ (.int .i64 q.left) = u3 → u3.heap[B]? = some (.cells #[.slice z1 q.dsk.secs.length z2, .slice z3 q.dsk.pend.length z4, .int .i64 q.left, .int .i64 l.epoch, .int .i64 l.seq, .int .i64 l.used, .slice x5 l.dirty.length x6] 29 (0, 0)) ∧
        u3.heap[B + 1]? = some (.cells #[.slice none 0 0, .slice none 0 0, .int .i64 0, .int .i64 0, .int .i64 0, .int .i64 0, .slice none 0 0] 29 (0, 0)) ∧ Below w.heap.size w u3 ∧ IsLog u3 (.agg #[.slice z1 q.dsk.secs.length z2, .slice z3 q.dsk.pend.length z4, .int .i64 q.left, .int .i64 l.epoch, .int .i64 l.seq, .int .i64 l.used, .slice x5 l.dirty.length x6]) ⟨q.dsk.secs, q.dsk.pend, q.left, l.epoch, l.seq, l.used, l.dirty⟩) := Lib.hid (by
      rintro u3 rfl
      have hb : ∀ b, b ≠ B → (((u2.setCell ⟨B, 0, none⟩ (.slice z1 q.dsk.secs.length z2)).setCell ⟨B, 1, none⟩ (.slice z3 q.dsk.pend.length z4)).setCell ⟨B, 2, none⟩ (.int .i64 q.left)).heap[b]? = u2.heap[b]? := fun b hb => (Below.heap_setCell _ _ _ _ hb).trans ((Below.heap_setCell _ _ _ _ hb).trans (Below.heap_setCell _ _ _ _ hb))
      have hp3 := HPW.out.apart HLGo (box_no _ _ _ _ _ _ _ _ _ _ _ _ _) (w' := ((u2.setCell ⟨B, 0, none⟩ (.slice z1 q.dsk.secs.length z2)).setCell ⟨B, 1, none⟩ (.slice z3 q.dsk.pend.length z4)).setCell ⟨B, 2, none⟩ (.int .i64 q.left)) (by simp) hb
      have hd3 := HDW.out.apart HLGo (box_no _ _ _ _ _ _ _ _ _ _ _ _ _) (w' := ((u2.setCell ⟨B, 0, none⟩ (.slice z1 q.dsk.secs.length z2)).setCell ⟨B, 1, none⟩ (.slice z3 q.dsk.pend.length z4)).setCell ⟨B, 2, none⟩ (.int .i64 q.left)) (by simp) hb
      have hB0 : w.heap.size ≤ B := by rw [HBQ.out]; exact Nat.le_refl _
      refine ⟨block_set (block_set (block_set HLGo 0 _) 1 _) 2 _, (hb (B + 1) (by omega)).trans HRS.out, ((HBU.out.setCell (p := ⟨B, 0, none⟩) hB0 _).setCell (p := ⟨B, 1, none⟩) hB0 _).setCell (p := ⟨B, 2, none⟩) hB0 _, power_made hp3 hd3 HQK.out HVB.out⟩)
    clear HLGo HBU HRS HLG HDW HPW HCQ
    go_upto_region 17 with fail
    obtain ⟨u3, hW⟩ : ∃ u3, ((u2.setCell ⟨B, 0, none⟩ (.slice z1 q.dsk.secs.length z2)).setCell ⟨B, 1, none⟩ (.slice z3 q.dsk.pend.length z4)).setCell ⟨B, 2, none⟩ (.int .i64 q.left) = u3 := ⟨_, rfl⟩
    rw [hW]
    obtain ⟨hL3, hR3, hB3, hV3⟩ := hX.out u3 hW
    have hq2 : q.dsk.secs.length = l.secs.length := HQS.out
    have HTK := Lib.hid (wlTaken _ _ ⟨q.dsk.secs, q.dsk.pend, q.left, l.epoch, l.seq, l.used, l.dirty⟩ xs u3 hV3 (HWS.out u3 hB3) (by show dirtyB q.dsk.secs.length (-1) l.dirty = true; rw [hq2]; exact HRY.out.dirty) (by show q.dsk.secs.length ≤ 256; rw [hq2]; exact HRY.out.small) (by show ∀ x ∈ xs, mayW q.dsk.secs.length x; rw [hq2]; exact HRY.out.may) (by have := HRY.out.n; omega) HRY.out.seq ⟨HRY.out.used.1, by have h : l.used ≤ 40 := HRY.out.used.2; show l.used ≤ 1000; omega⟩)
    have HR3 := Lib.hid hR3; have HB3 := Lib.hid hB3
    clear l0 l1 l2 l3 l4 l5 l6 f0 f1 f2 t0 t1 t2 t3 hX hW hV3 hR3 hB3 hq2
    have c0 := below_cell (Below.refl _ u3) hL3 0 rfl
    have c1 := below_cell (Below.refl _ u3) hL3 1 rfl
    have c2 := below_cell (Below.refl _ u3) hL3 2 rfl
    have c3 := below_cell (Below.refl _ u3) hL3 3 rfl
    have c4 := below_cell (Below.refl _ u3) hL3 4 rfl
    have c5 := below_cell (Below.refl _ u3) hL3 5 rfl
    have c6 := below_cell (Below.refl _ u3) hL3 6 rfl
    clear hL3
    go_wp2_with (first
      | (go_at_call 28; refine HTK.out.mono ?_; rintro e u4 ⟨v4, rfl, hlg4, hb4⟩; obtain ⟨y1, y2, y3, y4, y5, y6, rfl, _⟩ := id hlg4.form; have hrs := (hb4.block _ (lt_of_block HR3.out)).trans HR3.out)
      | (refine wpList_store_row rfl 29 _ _ rfl (B + 1) #[.slice y1 (tkL q l xs).secs.length y2, .slice y3 (tkL q l xs).pend.length y4, .int .i64 (tkL q l xs).left, .int .i64 (tkL q l xs).epoch, .int .i64 (tkL q l xs).seq, .int .i64 (tkL q l xs).used, .slice y5 (tkL q l xs).dirty.length y6] rfl rfl 29 _ hrs (by kernel_rfl) rfl (by simp [Value.oneCell']) ?_))
    have HS := Lib.hid (setRow_heap u4 (B + 1) _ #[.slice y1 (tkL q l xs).secs.length y2, .slice y3 (tkL q l xs).pend.length y4, .int .i64 (tkL q l xs).left, .int .i64 (tkL q l xs).epoch, .int .i64 (tkL q l xs).seq, .int .i64 (tkL q l xs).used, .slice y5 (tkL q l xs).dirty.length y6] _ _ hrs)
    refine bodyPost_ret (results_row_tmp rfl _ _ (B + 1) _ _ _ _ rfl HS.out Tryz.underlying29 rfl (by kernel_rfl)) rfl ⟨_, by rw [HDE.out]; rfl, ?_, below_setRow (HB3.out.trans (hb4.mono HB3.out.size)) (show w.heap.size ≤ B + 1 by rw [HBQ.out]; omega) _⟩
    rw [HDL.out]
    exact IsLog.apart hlg4 hrs no_textL (by simp [World.setRow]) (fun b hb => setRow_other u4 (B + 1) b _ hb)
  · have hl : CL = goneL q := HDL.out.trans (by rw [if_neg hco])
    have he : CE = q.code := HDE.out
    have hcq : (q.code != 0) = true := by simpa using hco
    have HGN := Lib.hid (fun x (hx : Below u2.heap.size u2 x) => wlGone z1 z3 q.dsk.secs.length z2 q.dsk.pend.length z4 q x (HPW.out.below hx) HQK.out)
    have HDL := Lib.hid hl; have HDE := Lib.hid he
    clear hl he hco
    go_upto_region 15 with fail
    go_region_with (first
      | (go_at_call 27; refine (HGN.out _ (by first | exact Below.refl _ _ | exact (Below.refl _ _).drew)).mono ?_; rintro e u9 ⟨rfl, hlog, hb9⟩; have hR10 := (hb9.block _ (lt_of_block HRS.out)).trans HRS.out; have hC10 := (hb9.block _ (lt_of_block HCQ.out)).trans HCQ.out; have t3 := below_cell (Below.refl _ u9) hC10 3 rfl; have r0 := below_cell (Below.refl _ u9) hR10 0 rfl; have fr0 := block_frozen hR10 0; have r1 := below_cell (Below.refl _ u9) hR10 1 rfl; have fr1 := block_frozen hR10 1; have r2 := below_cell (Below.refl _ u9) hR10 2 rfl; have fr2 := block_frozen hR10 2; have r3 := below_cell (Below.refl _ u9) hR10 3 rfl; have fr3 := block_frozen hR10 3; have r4 := below_cell (Below.refl _ u9) hR10 4 rfl; have fr4 := block_frozen hR10 4; have r5 := below_cell (Below.refl _ u9) hR10 5 rfl; have fr5 := block_frozen hR10 5; have r6 := below_cell (Below.refl _ u9) hR10 6 rfl; have fr6 := block_frozen hR10 6)
      | fail)
    all_goals
      have hbz := (Below.refl u2.heap.size u2).drew.trans (hb9.mono (Nat.le_refl _))
      have hB10 := HBU.out.trans (hbz.mono HBU.out.size)
      have hS := set7_block hR10 (.slice z1 q.dsk.secs.length z2) (.slice z3 q.dsk.pend.length z4) (.int .i64 q.left) (.int .i64 0) (.int .i64 0) (.int .i64 0) (.slice none 0 0)
      have hF := set7_below hB10 (show w.heap.size ≤ B + 1 by rw [HBQ.out]; omega) (.slice z1 q.dsk.secs.length z2) (.slice z3 q.dsk.pend.length z4) (.int .i64 q.left) (.int .i64 0) (.int .i64 0) (.int .i64 0) (.slice none 0 0)
      have hLg := hlog.apart (w' := set7 u9 (B + 1) (.slice z1 q.dsk.secs.length z2) (.slice z3 q.dsk.pend.length z4) (.int .i64 q.left) (.int .i64 0) (.int .i64 0) (.int .i64 0) (.slice none 0 0)) hR10 no_textL (by rw [set7_size]; exact Nat.le_refl _) (fun b hb => set7_other _ _ _ _ _ _ _ _ _ _ hb)
      unfold set7 at hS hF hLg
      have HS := Lib.hid hS; have HF := Lib.hid hF; have HLg := Lib.hid hLg
      clear hS hF hLg hlog hb9 hbz hB10 hR10 hC10 r0 r1 r2 r3 r4 r5 r6 fr0 fr1 fr2 fr3 fr4 fr5 fr6 t0 t1 t2 t3
      go_wp2_with fail
      exact bodyPost_ret (results_row_tmp rfl _ _ (B + 1) _ _ _ _ rfl HS.out Tryz.underlying29 rfl (by kernel_rfl)) rfl (by exact ⟨_, by rw [HDE.out]; rfl, by rw [HDL.out]; exact HLg.out, HF.out⟩)
end SWlD
section SWlE
open Go.RowKit
set_option linter.unusedVariables false
set_option linter.unusedSimpArgs false

set_option maxRecDepth 100000 in
theorem diskNew_own (n : Nat) (w : World) (h1 : 1 ≤ n) (h2 : n ≤ 256) : Calls Tryz.prog 49 #[.int .i64 n] w fun e w' => ∃ g, e = .returned (.tuple #[.agg #[.slice (some ⟨g, 0, none⟩) n n, .slice none 0 0], .int .i64 0]) ∧ w.heap.size ≤ g ∧ w'.heap[g]? = some (.cells (Array.replicate n (Value.string ⟨#[]⟩)) 9 (0, 0)) ∧ Below w.heap.size w w' := by
  have h1I : (1 : Int) ≤ n := by omega
  have h2I : (n : Int) ≤ 256 := by omega
  have hmk := make_strs n (by omega)
  go_enter Tryz.func49, Tryz.ntmps49
  go_wp2_with fail
  refine bodyPost_ret (results_row_tmp rfl _ _ w.heap.size _ _ _ _ rfl (by rw [heap_alloc_old _ _ (by simp)]; exact heap_alloc_new _ _) Tryz.underlying25 rfl (by kernel_rfl)) rfl ⟨w.heap.size + 1, rfl, by omega, ?_, ((Below.refl _ _).alloc (Nat.le_refl _) _).alloc (by simp) _⟩
  have := heap_alloc_new (w.alloc (.cells #[.slice (some ⟨w.heap.size + 1, 0, none⟩) n n, .slice none 0 0] 25)) (.cells (Array.replicate n (Value.string ⟨#[]⟩)) 9); rwa [World.size_alloc] at this
def newS : ByteArray := layS (superL 1)
def newLg (n : Int) : Lg := if 64 ≤ n ∧ n ≤ 256 then ⟨(List.replicate n.toNat ⟨#[]⟩).set 0 newS, [], -1, 1, 0, 0, []⟩ else zeroL
def newE (n : Int) : Int := if 64 ≤ n ∧ n ≤ 256 then 0 else 1
theorem newS_small : newS.size ≤ 9223372036854775807 := layS_small _ (by unfold superL; rw [List.length_append, fieldsL_len, fieldsL_len]; simp)
theorem new_cells (n : Nat) (S : ByteArray) (i : Nat) (hi : i < ((List.replicate n (⟨#[]⟩ : ByteArray)).set 0 S).length) : ((Array.replicate n (Value.string ⟨#[]⟩)).setIfInBounds 0 (.string S))[i]? = some (.string ((List.replicate n (⟨#[]⟩ : ByteArray)).set 0 S)[i]) := by
  rw [List.length_set, List.length_replicate] at hi
  rw [Array.getElem?_setIfInBounds, List.getElem_set]
  by_cases h : 0 = i
  · subst h; simp [hi]
  · simp [h, hi]
theorem new_ok : i64ok (-1) ∧ i64ok 1 ∧ i64ok 0 ∧ i64ok 0 := ⟨⟨by decide, by decide⟩, ⟨by decide, by decide⟩, ⟨by decide, by decide⟩, ⟨by decide, by decide⟩⟩
set_option maxRecDepth 100000 in
set_option maxHeartbeats 2000000 in
theorem wlNew (n : Int) (w : World) (hn : -9223372036854775808 ≤ n ∧ n ≤ 9223372036854775807) :
    Calls Tryz.prog 18 #[.int .i64 n] w (LogPost (newLg n) (newE n) w) := by
  obtain ⟨B, hB⟩ : ∃ B, w.heap.size = B := ⟨_, rfl⟩
  have b0 := heap_alloc_new w (.cells #[.slice none 0 0, .slice none 0 0, .int .i64 0, .int .i64 0, .int .i64 0, .int .i64 0, .slice none 0 0] 29)
  have hb0 := (Below.refl w.heap.size w).alloc (Nat.le_refl _) (.cells #[.slice none 0 0, .slice none 0 0, .int .i64 0, .int .i64 0, .int .i64 0, .int .i64 0, .slice none 0 0] 29)
  obtain ⟨u, hU⟩ : ∃ u, w.alloc (.cells #[.slice none 0 0, .slice none 0 0, .int .i64 0, .int .i64 0, .int .i64 0, .int .i64 0, .slice none 0 0] 29) = u := ⟨_, rfl⟩
  rw [hU] at b0 hb0
  rw [hB] at b0
  have hL : newLg n = if 64 ≤ n ∧ n ≤ 256 then ⟨(List.replicate n.toNat ⟨#[]⟩).set 0 newS, [], -1, 1, 0, 0, []⟩ else zeroL := rfl
  have hE : newE n = if 64 ≤ n ∧ n ≤ 256 then 0 else 1 := rfl
  generalize newLg n = CL at *
  generalize newE n = CE at *
  have HU := Lib.hid hU; have HR := Lib.hid b0; have HBU := Lib.hid hb0; have HBQ := Lib.hid hB; have HL := Lib.hid hL; have HE := Lib.hid hE
  clear hB b0 hb0 hU hL hE
  have bad : ¬ (64 ≤ n ∧ n ≤ 256) → Hid (CL = zeroL ∧ CE = 1) := fun h => Lib.hid ⟨HL.out.trans (if_neg h), HE.out.trans (if_neg h)⟩
  have HS := Lib.hid (setRow_heap u B _ #[.slice none 0 0, .slice none 0 0, .int .i64 0, .int .i64 0, .int .i64 0, .int .i64 0, .slice none 0 0] _ _ HR.out)
  have HF := Lib.hid (below_setRow HBU.out (show w.heap.size ≤ B by rw [HBQ.out]; exact Nat.le_refl _) #[.slice none 0 0, .slice none 0 0, .int .i64 0, .int .i64 0, .int .i64 0, .int .i64 0, .slice none 0 0])
  go_enter Tryz.func18, Tryz.ntmps18
  go_upto_region 1 with fail
  rw [HU.out, HBQ.out]
  by_cases h64 : n < 64
  · have H1 := bad (by omega)
    have hrs := HR.out
    clear bad
    go_wp2_with (first | (refine wpList_store_row rfl 29 _ _ rfl B #[.slice none 0 0, .slice none 0 0, .int .i64 0, .int .i64 0, .int .i64 0, .int .i64 0, .slice none 0 0] rfl rfl 29 _ hrs (by kernel_rfl) rfl (by simp [Value.oneCell']) ?_))
    exact bodyPost_ret (results_row_tmp rfl _ _ B _ _ _ _ rfl HS.out Tryz.underlying29 rfl (by kernel_rfl)) rfl (by exact ⟨_, by rw [H1.out.2]; rfl, by rw [H1.out.1]; exact zero_log _, HF.out⟩)
  by_cases h256 : 256 < n
  · have H1 := bad (by omega)
    have hrs := HR.out
    clear bad
    go_wp2_with (first | (refine wpList_store_row rfl 29 _ _ rfl B #[.slice none 0 0, .slice none 0 0, .int .i64 0, .int .i64 0, .int .i64 0, .int .i64 0, .slice none 0 0] rfl rfl 29 _ hrs (by kernel_rfl) rfl (by simp [Value.oneCell']) ?_))
    exact bodyPost_ret (results_row_tmp rfl _ _ B _ _ _ _ rfl HS.out Tryz.underlying29 rfl (by kernel_rfl)) rfl (by exact ⟨_, by rw [H1.out.2]; rfl, by rw [H1.out.1]; exact zero_log _, HF.out⟩)
  obtain ⟨k, rfl⟩ : ∃ k : Nat, n = k := ⟨n.toNat, by omega⟩
  have hin : (64 : Int) ≤ k ∧ (k : Int) ≤ 256 := by omega
  have hcl := HL.out.trans (if_pos hin)
  have hce := HE.out.trans (if_pos hin)
  rw [Int.toNat_natCast] at hcl
  have H1 := Lib.hid hcl; have H2 := Lib.hid hce
  have HND := Lib.hid (diskNew_own k u (by omega) (by omega))
  have HSU := Lib.hid (fun x => slotSuper_ok 1 x (by omega) (by omega))
  rw [show layS (superL 1) = newS from rfl] at HSU
  have HSS := Lib.hid newS_small
  have hk0 : (0 : Int) < k := by omega
  have hk1 : 0 < k := by omega
  clear bad HS HF HL HE hcl hce hin
  generalize newS = S at *
  go_upto_region 4 with (first | (go_at_call 49; refine HND.out.mono ?_; rintro e u2 ⟨g, rfl, hg, hgr, hb2⟩))
  have hal := (Below.refl u2.heap.size u2).alloc (Nat.le_refl _) (.cells #[.slice (some ⟨g, 0, none⟩) k k, .slice none 0 0] 25)
  have hn := heap_alloc_new u2 (.cells #[.slice (some ⟨g, 0, none⟩) k k, .slice none 0 0] 25)
  have hR3 := (hal.block _ (lt_of_block ((hb2.block _ (lt_of_block HR.out)).trans HR.out))).trans ((hb2.block _ (lt_of_block HR.out)).trans HR.out)
  have hG3 := (hal.block _ (lt_of_block hgr)).trans hgr
  have hB3 := (HBU.out.trans (hb2.mono HBU.out.size)).trans (hal.mono (HBU.out.trans (hb2.mono HBU.out.size)).size)
  have hBg : B < g := Nat.lt_of_lt_of_le (lt_of_block HR.out) hg
  obtain ⟨D, hD⟩ : ∃ D, u2.heap.size = D := ⟨_, rfl⟩
  have hgD : g < D := by rw [← hD]; exact lt_of_block hgr
  obtain ⟨u3, hW⟩ : ∃ u3, u2.alloc (.cells #[.slice (some ⟨g, 0, none⟩) k k, .slice none 0 0] 25) = u3 := ⟨_, rfl⟩
  rw [hW] at hn hR3 hG3 hB3 ⊢
  rw [hD] at hn
  (try rw [hD])
  have HN := Lib.hid hn; have HR3 := Lib.hid hR3; have HG3 := Lib.hid hG3; have HB3 := Lib.hid hB3
  clear hal hn hR3 hG3 hB3 hD hW hb2 hgr HND HU HR HBU
  have c0 := below_cell (Below.refl _ u3) HN.out 0 rfl
  go_region_with (first
    | (go_at_call 35; refine (HSU.out _).mono ?_; rintro e u4 ⟨rfl, hb4⟩; have hb5 : Below u3.heap.size u3 u4 := (by first | exact hb4 | exact (Below.refl _ _).drew.trans (hb4.mono (Nat.le_refl _))); have hn4 := (hb5.block _ (lt_of_block HN.out)).trans HN.out; have hg4 := (hb5.block _ (lt_of_block HG3.out)).trans HG3.out; have d0 := below_cell (Below.refl _ u4) hn4 0 rfl; have r0 := below_cell (v := Value.string ⟨#[]⟩) (Below.refl _ u4) hg4 0 (by simp [hk1]); have fr0 := block_frozen hg4 0)
    | fail)
  all_goals
    have hR4 := (hb5.block _ (lt_of_block HR3.out)).trans HR3.out
    have hB4 := HB3.out.trans (hb5.mono HB3.out.size)
    have HG5 := Lib.hid (block_set hg4 0 (.string S))
    have hN5 := (Below.heap_setCell u4 ⟨g, 0, none⟩ (.string S) D (show D ≠ g by omega)).trans hn4
    have HR5 := Lib.hid ((Below.heap_setCell u4 ⟨g, 0, none⟩ (.string S) B (show B ≠ g by omega)).trans hR4)
    have HB5 := Lib.hid (hB4.setCell (p := ⟨g, 0, none⟩) (show w.heap.size ≤ g by rw [HBQ.out]; omega) (.string S))
    go_upto_region 5 with fail
    obtain ⟨u5, hW⟩ : ∃ u5, u4.setCell ⟨g, 0, none⟩ (.string S) = u5 := ⟨_, rfl⟩
    rw [hW] at HG5 hN5 HR5 HB5 ⊢
    clear hW c0 d0 r0 fr0 hb4 hb5 hn4 hg4 hR4 hB4
    have e0 := below_cell (Below.refl _ u5) hN5 0 rfl
    have e1 := below_cell (Below.refl _ u5) hN5 1 rfl
    have hrs := HR5.out
    have HS := Lib.hid (setRow_heap u5 B _ #[.slice (some ⟨g, 0, none⟩) k k, .slice none 0 0, .int .i64 (-1), .int .i64 1, .int .i64 0, .int .i64 0, .slice none 0 0] _ _ hrs)
    have HF := Lib.hid (below_setRow HB5.out (show w.heap.size ≤ B by rw [HBQ.out]; exact Nat.le_refl _) #[.slice (some ⟨g, 0, none⟩) k k, .slice none 0 0, .int .i64 (-1), .int .i64 1, .int .i64 0, .int .i64 0, .slice none 0 0])
    clear hN5
    go_wp2_with (first | (refine wpList_store_row rfl 29 _ _ rfl B #[.slice (some ⟨g, 0, none⟩) k k, .slice none 0 0, .int .i64 (-1), .int .i64 1, .int .i64 0, .int .i64 0, .slice none 0 0] rfl rfl 29 _ hrs (by kernel_rfl) rfl (by simp [Value.oneCell']) ?_))
    refine bodyPost_ret (results_row_tmp rfl _ _ B _ _ _ _ rfl HS.out Tryz.underlying29 rfl (by kernel_rfl)) rfl ⟨_, by rw [H2.out]; rfl, ?_, HF.out⟩
    rw [H1.out]
    have hst := block_strs (w := u5.setRow B #[.slice (some ⟨g, 0, none⟩) k k, .slice none 0 0, .int .i64 (-1), .int .i64 1, .int .i64 0, .int .i64 0, .slice none 0 0]) (l := (List.replicate k (⟨#[]⟩ : ByteArray)).set 0 S) (cap := k) (by simp) _ ((setRow_other u5 B g _ (by omega)).trans HG5.out) (new_cells k S) (by omega)
      (fun s hs => by
        rcases List.mem_or_eq_of_mem_set hs with h | rfl
        · rw [List.eq_of_mem_replicate h]; show 0 ≤ _; omega
        · exact HSS.out)
    rw [List.length_set, List.length_replicate] at hst
    exact ⟨new_ok, _, _, _, rfl, hst, nilWrts _, nilWrts _⟩
end SWlE
section SWlF
open Go.RowKit
set_option linter.unusedVariables false
set_option linter.unusedSimpArgs false

def aliveL : Lg := comL (newLg 64) [⟨60, ⟨#[97]⟩⟩]
theorem alive_new : newE 64 = 0 := by decide
theorem alive_pend : (newLg 64).pend.length ≤ 600 := by decide +kernel
theorem alive_com : comE (newLg 64) [⟨60, ⟨#[97]⟩⟩] = 0 := by decide +kernel
theorem alive_read : readWE aliveL 60 = 0 := by decide +kernel
theorem alive_says : readWS aliveL 60 = ⟨#[97]⟩ := by decide +kernel
theorem alive_few : aliveL.pend.length ≤ 1000000 := by decide +kernel
theorem alive_wrt : (⟨60, ⟨#[97]⟩⟩ : Wrt).bounded := ⟨⟨by decide, by decide⟩, by decide⟩
set_option maxRecDepth 100000 in
set_option maxHeartbeats 1000000 in
theorem wlAlive (w : World) : Calls Tryz.prog 14 #[] w fun e w' => e = .returned (.bool true) ∧ Below w.heap.size w w' := by
  have hN := wlNew 64 w ⟨by decide, by decide⟩
  rw [alive_new] at hN
  have HN := Lib.hid hN
  have HC := Lib.hid (fun v wv x (h : IsLog x v (newLg 64)) (hx : IsWrts x wv [⟨60, ⟨#[97]⟩⟩]) => wlCommit v wv (newLg 64) [⟨60, ⟨#[97]⟩⟩] x h hx alive_pend)
  rw [alive_com] at HC
  have HC : Hid (∀ v wv x, IsLog x v (newLg 64) → IsWrts x wv [⟨60, ⟨#[97]⟩⟩] → Calls Tryz.prog 10 #[v, wv] x (LogPost aliveL 0 x)) := HC
  have HR := Lib.hid (fun v x (h : IsLog x v aliveL) => wlRead v aliveL 60 x h alive_few)
  rw [alive_read, alive_says] at HR
  have hst : ((⟨#[97]⟩ : ByteArray).toList == [97]) = true := by decide +kernel
  clear hN
  generalize newLg 64 = L0 at *
  generalize aliveL = L1 at *
  go_enter Tryz.func14, Tryz.ntmps14
  go_upto_region 2 with (first | (go_at_call 18; refine HN.out.mono ?_; rintro e u1 ⟨v1, rfl, hl1, hb1⟩; obtain ⟨x1, x2, x3, x4, x5, x6, rfl, _⟩ := id hl1.form))
  have hal := (Below.refl u1.heap.size u1).alloc (Nat.le_refl _) (.cells #[.slice x1 L0.secs.length x2, .slice x3 L0.pend.length x4, .int .i64 L0.left, .int .i64 L0.epoch, .int .i64 L0.seq, .int .i64 L0.used, .slice x5 L0.dirty.length x6] 29)
  have hn := heap_alloc_new u1 (.cells #[.slice x1 L0.secs.length x2, .slice x3 L0.pend.length x4, .int .i64 L0.left, .int .i64 L0.epoch, .int .i64 L0.seq, .int .i64 L0.used, .slice x5 L0.dirty.length x6] 29)
  have hl2 := hl1.below hal
  have hb2 := hb1.trans (hal.mono hb1.size)
  obtain ⟨u2, hW⟩ : ∃ u2, u1.alloc (.cells #[.slice x1 L0.secs.length x2, .slice x3 L0.pend.length x4, .int .i64 L0.left, .int .i64 L0.epoch, .int .i64 L0.seq, .int .i64 L0.used, .slice x5 L0.dirty.length x6] 29) = u2 := ⟨_, rfl⟩
  obtain ⟨C, hC⟩ : ∃ C, u1.heap.size = C := ⟨_, rfl⟩
  rw [hW] at hn hl2 hb2 ⊢
  rw [hC] at hn
  (try rw [hC])
  have hal3 := (Below.refl u2.heap.size u2).alloc (Nat.le_refl _) (.cells #[.int .i64 60, .string ⟨#[97]⟩] 46)
  have HCM := Lib.hid (HC.out _ (.slice (some ⟨u2.heap.size, 0, none⟩) 1 1) (u2.alloc (.cells #[.int .i64 60, .string ⟨#[97]⟩] 46)) (hl2.below hal3) (one_wrt u2 ⟨60, ⟨#[97]⟩⟩ alive_wrt))
  have HB3 := Lib.hid (hb2.trans (hal3.mono hb2.size))
  have c0 := below_cell (Below.refl _ u2) hn 0 rfl
  have c1 := below_cell (Below.refl _ u2) hn 1 rfl
  have c2 := below_cell (Below.refl _ u2) hn 2 rfl
  have c3 := below_cell (Below.refl _ u2) hn 3 rfl
  have c4 := below_cell (Below.refl _ u2) hn 4 rfl
  have c5 := below_cell (Below.refl _ u2) hn 5 rfl
  have c6 := below_cell (Below.refl _ u2) hn 6 rfl
  clear hal hn hl1 hl2 hb1 hb2 hW hC hal3 HC HN
  go_upto_region 3 with (first | (go_at_call 10; refine HCM.out.mono ?_; rintro e u4 ⟨v4, rfl, hl4, hb4⟩; obtain ⟨y1, y2, y3, y4, y5, y6, rfl, _⟩ := id hl4.form))
  have hal := (Below.refl u4.heap.size u4).alloc (Nat.le_refl _) (.cells #[.slice y1 L1.secs.length y2, .slice y3 L1.pend.length y4, .int .i64 L1.left, .int .i64 L1.epoch, .int .i64 L1.seq, .int .i64 L1.used, .slice y5 L1.dirty.length y6] 29)
  have hn := heap_alloc_new u4 (.cells #[.slice y1 L1.secs.length y2, .slice y3 L1.pend.length y4, .int .i64 L1.left, .int .i64 L1.epoch, .int .i64 L1.seq, .int .i64 L1.used, .slice y5 L1.dirty.length y6] 29)
  have hl5 := hl4.below hal
  have hb4' := HB3.out.trans (hb4.mono HB3.out.size)
  have hb5 := hb4'.trans (hal.mono hb4'.size)
  obtain ⟨u5, hW⟩ : ∃ u5, u4.alloc (.cells #[.slice y1 L1.secs.length y2, .slice y3 L1.pend.length y4, .int .i64 L1.left, .int .i64 L1.epoch, .int .i64 L1.seq, .int .i64 L1.used, .slice y5 L1.dirty.length y6] 29) = u5 := ⟨_, rfl⟩
  obtain ⟨C2, hC2⟩ : ∃ C2, u4.heap.size = C2 := ⟨_, rfl⟩
  rw [hW] at hn hl5 hb5 ⊢
  rw [hC2] at hn
  (try rw [hC2])
  have HRD := Lib.hid (HR.out _ u5 hl5)
  have HB5 := Lib.hid hb5
  clear c0 c1 c2 c3 c4 c5 c6 HB3 HCM
  have c0 := below_cell (Below.refl _ u5) hn 0 rfl
  have c1 := below_cell (Below.refl _ u5) hn 1 rfl
  have c2 := below_cell (Below.refl _ u5) hn 2 rfl
  have c3 := below_cell (Below.refl _ u5) hn 3 rfl
  have c4 := below_cell (Below.refl _ u5) hn 4 rfl
  have c5 := below_cell (Below.refl _ u5) hn 5 rfl
  have c6 := below_cell (Below.refl _ u5) hn 6 rfl
  clear hal hn hl4 hl5 hb4 hb4' hb5 hW hC2 HR
  go_wp2_with (first | (go_at_call 39; refine HRD.out.mono ?_; rintro e u6 ⟨rfl, hb6⟩))
  go_ret
  exact ⟨rfl, HB5.out.trans (hb6.mono HB5.out.size)⟩
end SWlF
section SWlG
open Go.RowKit
set_option linter.unusedVariables false

/-- power for n calls at least, a disk of N sectors that may be, no error -/
structure Able (o : Outc) (n N : Nat) (L : Int) : Prop where
  code : o.code = 0
  right : rightD o.dsk = true
  left : o.left = L
  room : L < 0 ∨ (n : Int) ≤ L
  secs : o.dsk.secs.length = N
def lessI (L : Int) (k : Nat) : Int := if L < 0 then L else L - k
theorem less_less {L : Int} {a b : Nat} (h : L < 0 ∨ (a : Int) ≤ L) : lessI (lessI L a) b = lessI L (a + b) := by
  unfold lessI
  by_cases h0 : L < 0
  · simp only [if_pos h0]
  · rw [if_neg h0, if_neg h0, if_neg (by omega)]; omega
theorem less_spent {L : Int} {n : Nat} (h : L < 0 ∨ ((n + 1 : Nat) : Int) ≤ L) : spentI L = lessI L 1 ∧ (lessI L 1 < 0 ∨ (n : Int) ≤ lessI L 1) := by
  unfold spentI lessI
  by_cases h0 : L < 0
  · rw [if_pos h0, if_neg (by omega)]; exact ⟨rfl, .inl h0⟩
  · rw [if_neg h0, if_pos (by omega)]; exact ⟨by omega, .inr (by omega)⟩
theorem ready_able {o : Outc} {n N : Nat} {L : Int} (h : Able o (n + 1) N L) : readyE o.dsk o.left = 0 := by
  unfold readyE
  rw [if_neg (by rw [h.left]; have := h.room; omega), if_pos h.right]
theorem wr_able {o : Outc} {n N : Nat} {L : Int} (x : Wrt) (h : Able o (n + 1) N L) (hs : 0 ≤ x.sector ∧ x.sector < N) (hx : (trimS x.bytes).size ≤ 512) :
    Able (wrS o x) n N (lessI L 1) ∧ (wrS o x).dsk = writeD o.dsk x.sector x.bytes := by
  have hr := ready_able h
  have hsec : 0 ≤ x.sector ∧ x.sector < o.dsk.secs.length := by rw [h.secs]; exact hs
  have e : wrS o x = ⟨writeD o.dsk x.sector x.bytes, spentI o.left, 0⟩ := by
    unfold wrS wrO
    rw [if_pos h.code, if_neg (by rw [hr]; decide), if_neg (Decidable.not_not.2 hsec), if_neg (by omega)]
  obtain ⟨l1, l2⟩ := less_spent h.room
  rw [e]
  exact ⟨⟨rfl, write_right _ _ _ h.right hsec hx, by show spentI o.left = _; rw [h.left, l1], l2, h.secs⟩, rfl⟩
theorem fl_able {o : Outc} {n N : Nat} {L : Int} (h : Able o (n + 1) N L) : Able (flS o) n N (lessI L 1) ∧ (flS o).dsk = flushD o.dsk := by
  have hr := ready_able h
  have e : flS o = ⟨flushD o.dsk, spentI o.left, 0⟩ := by
    unfold flS flO
    rw [if_pos h.code, if_neg (by rw [hr]; decide)]
  obtain ⟨l1, l2⟩ := less_spent h.room
  rw [e]
  exact ⟨⟨rfl, crash_right _ _ h.right, by show spentI o.left = _; rw [h.left, l1], l2, (crash_len _ _ h.right).trans h.secs⟩, rfl⟩
/-- a row of writes, done -/
def wrD (d : Dsk) (l : List Wrt) : Dsk := l.foldl (fun d x => writeD d x.sector x.bytes) d
theorem fold_able {n N : Nat} : ∀ (l : List Wrt) {o : Outc} {L : Int}, Able o (n + l.length) N L → (∀ x ∈ l, (0 ≤ x.sector ∧ x.sector < N) ∧ (trimS x.bytes).size ≤ 512) →
    Able (l.foldl wrS o) n N (lessI L l.length) ∧ (l.foldl wrS o).dsk = wrD o.dsk l
  | [], o, L, h, _ => by
    refine ⟨?_, rfl⟩
    have : lessI L 0 = L := by unfold lessI; split <;> omega
    show Able o n N (lessI L 0)
    rw [this]; exact h
  | x :: l, o, L, h, hx => by
    have h' : Able o ((n + l.length) + 1) N L := by rw [List.length_cons] at h; exact h
    obtain ⟨h1, h2⟩ := wr_able x h' (hx x (List.mem_cons_self ..)).1 (hx x (List.mem_cons_self ..)).2
    obtain ⟨h3, h4⟩ := fold_able l h1 (fun y hy => hx y (List.mem_cons_of_mem _ hy))
    refine ⟨?_, ?_⟩
    · rw [less_less (by have := h.room; rw [List.length_cons] at this; omega)] at h3
      rw [List.foldl_cons, List.length_cons, Nat.add_comm l.length 1]
      exact h3
    · rw [List.foldl_cons, h4, h2]; rfl
theorem lay_small (l : List UInt8) : (trimS (layS l)).size ≤ l.length + 4 := by
  unfold layS
  have h0 := trimS_le (trimS (sealL ⟨l.toArray⟩))
  have h1 := trimS_le (sealL ⟨l.toArray⟩)
  have h2 := sealL_size ⟨l.toArray⟩
  have h4 : (ByteArray.mk l.toArray).size = l.length := ba_size _
  omega
theorem super_lay (n : Int) : (trimS (layS (superL n))).size ≤ 512 := by
  have := lay_small (superL n)
  have h : (superL n).length = 7 := by unfold superL; rw [List.length_append, fieldsL_len, fieldsL_len]; rfl
  omega
theorem commit_lay (n s : Int) : (trimS (layS (commitL n s))).size ≤ 512 := by
  have := lay_small (commitL n s)
  have h : (commitL n s).length = 8 := by unfold commitL; simp only [List.length_append, fieldsL_len, List.length_cons, List.length_nil]
  omega
theorem head_lay (n s : Int) (l : List Int) (hl : l.length ≤ 40) : (trimS (layS (headL n s l))).size ≤ 512 := by
  have := lay_small (headL n s l)
  rw [headL_len] at this
  omega
theorem img_mem {used : Int} {xs : List Wrt} {y : Wrt} (h : y ∈ imgL used xs) : ∃ i, i < xs.length ∧ y = ⟨13 + used + i, (xs.getD i wrtZ).bytes⟩ := by
  unfold imgL at h
  obtain ⟨i, hi, rfl⟩ := List.mem_map.1 h
  exact ⟨i, List.mem_range.1 hi, rfl⟩
theorem getD_mem {xs : List Wrt} {i : Nat} (h : i < xs.length) : xs.getD i wrtZ ∈ xs := by
  simp [List.getD, h]
theorem log_able {n N : Nat} {o : Outc} {L : Int} (l : Lg) (xs : List Wrt) (h : Able o (n + (xs.length + 4)) N L) (hN : 64 ≤ N) (hu : 0 ≤ l.used ∧ l.used + xs.length ≤ 40) (hs : 0 ≤ l.seq ∧ l.seq < 6)
    (hx : ∀ x ∈ xs, (trimS x.bytes).size ≤ 512) : Able (logO o l xs) n N (lessI L (xs.length + 4)) := by
  unfold logO
  have hr := h.room
  have h0 : Able o ((n + 4) + (imgL l.used xs).length) N L := by rw [imgL_len, show n + 4 + xs.length = n + (xs.length + 4) from by omega]; exact h
  obtain ⟨a1, _⟩ := fold_able (imgL l.used xs) h0 (fun y hy => by
    obtain ⟨i, hi, rfl⟩ := img_mem hy
    exact ⟨⟨show (0 : Int) ≤ 13 + l.used + i by omega, show 13 + l.used + (i : Int) < N by omega⟩, (show (trimS (xs.getD i wrtZ).bytes).size ≤ 512 from hx _ (getD_mem hi))⟩)
  rw [imgL_len] at a1
  obtain ⟨a2, _⟩ := wr_able ⟨1 + l.seq, layS (headL l.epoch l.seq (xs.map Wrt.sector))⟩ a1 ⟨show (0 : Int) ≤ 1 + l.seq by omega, show 1 + l.seq < N by omega⟩ (head_lay _ _ _ (by rw [List.length_map]; omega))
  obtain ⟨a3, _⟩ := fl_able a2
  obtain ⟨a4, _⟩ := wr_able ⟨7 + l.seq, layS (commitL l.epoch l.seq)⟩ a3 ⟨show (0 : Int) ≤ 7 + l.seq by omega, show 7 + l.seq < N by omega⟩ (commit_lay _ _)
  obtain ⟨a5, _⟩ := fl_able a4
  rw [less_less (L := L) (a := xs.length) (b := 1) (by omega), less_less (L := L) (a := xs.length + 1) (b := 1) (by omega), less_less (L := L) (a := xs.length + 1 + 1) (b := 1) (by omega), less_less (L := L) (a := xs.length + 1 + 1 + 1) (b := 1) (by omega)] at a5
  exact a5
theorem ck_able {n N : Nat} {L : Int} (l : Lg) (h : Able ⟨l.dsk, l.left, 0⟩ (n + (l.dirty.length + 3)) N L) (hN : 64 ≤ N) (hd : dirtyB N (-1) l.dirty = true) : Able (ckO l) n N (lessI L (l.dirty.length + 3)) := by
  unfold ckO
  have hr := h.room
  have h0 : Able ⟨l.dsk, l.left, 0⟩ ((n + 3) + l.dirty.length) N L := by rw [show n + 3 + l.dirty.length = n + (l.dirty.length + 3) from by omega]; exact h
  obtain ⟨a1, _⟩ := fold_able l.dirty h0 (fun y hy => by
    obtain ⟨j, hj, rfl⟩ := List.mem_iff_getElem.1 hy
    obtain ⟨⟨b1, b2⟩, _, b3⟩ := dirty_from hd j hj
    have e : l.dirty.getD j wrtZ = l.dirty[j] := by simp [List.getD, hj]
    rw [e] at b1 b2 b3
    unfold fitsB at b3
    obtain ⟨b4, b5⟩ := of_decide_eq_true b3
    exact ⟨⟨by omega, b2⟩, by rw [b5]; exact b4⟩)
  obtain ⟨a2, _⟩ := fl_able a1
  obtain ⟨a3, _⟩ := wr_able ⟨0, layS (superL (l.epoch + 1))⟩ a2 ⟨show (0 : Int) ≤ 0 by omega, show (0 : Int) < N by omega⟩ (super_lay _)
  obtain ⟨a4, _⟩ := fl_able a3
  rw [less_less (L := L) (a := l.dirty.length) (b := 1) (by omega), less_less (L := L) (a := l.dirty.length + 1) (b := 1) (by omega), less_less (L := L) (a := l.dirty.length + 1 + 1) (b := 1) (by omega)] at a4
  exact a4
theorem with_new {x : Wrt} : ∀ {l : List Wrt}, (∀ y ∈ l, y.sector ≠ x.sector) → (withW x l).length = l.length + 1 ∧ ∀ y ∈ withW x l, y = x ∨ y ∈ l
  | [], _ => ⟨rfl, fun y hy => .inl (by simpa [withW] using hy)⟩
  | z :: l, h => by
    have hz := h z (List.mem_cons_self ..)
    obtain ⟨i1, i2⟩ := with_new (x := x) (l := l) (fun y hy => h y (List.mem_cons_of_mem _ hy))
    unfold withW
    by_cases h1 : z.sector < x.sector
    · rw [if_pos h1]
      refine ⟨by rw [List.length_cons, i1, List.length_cons], fun y hy => ?_⟩
      rcases List.mem_cons.1 hy with rfl | hy
      · exact .inr (List.mem_cons_self ..)
      · exact (i2 y hy).imp id (List.mem_cons_of_mem _)
    · rw [if_neg h1, if_neg hz]
      exact ⟨by simp, fun y hy => (List.mem_cons.1 hy)⟩
theorem fold_new : ∀ (xs d : List Wrt), (xs.map Wrt.sector).Nodup → (∀ x ∈ xs, ∀ y ∈ d, y.sector ≠ x.sector) → (xs.foldl withT d).length = d.length + xs.length
  | [], d, _, _ => rfl
  | x :: xs, d, hn, hd => by
    rw [List.map_cons, List.nodup_cons] at hn
    obtain ⟨i1, i2⟩ := with_new (x := ⟨x.sector, trimS x.bytes⟩) (l := d) (fun y hy => hd x (List.mem_cons_self ..) y hy)
    rw [List.foldl_cons, fold_new xs (withT d x) hn.2 (fun z hz y hy => by
      rcases i2 y hy with rfl | hy
      · exact fun e => hn.1 (by rw [show x.sector = z.sector from e]; exact List.mem_map_of_mem hz)
      · exact hd z (List.mem_cons_of_mem _ hz) y hy)]
    show (withW _ d).length + _ = _
    rw [i1, List.length_cons]; omega
/-- what a log that may be, with room for a transaction, and with power, has behind it -/
theorem com_able {n N : Nat} {L : Int} (l : Lg) (xs : List Wrt) (hr : rightL l = true) (hL : l.left = L) (hN : l.secs.length = N) (ha : allowL N xs = true) (h0 : xs.length ≠ 0) (h1 : xs.length ≤ 40) (hf : fullB l xs.length = false)
    (hp : L < 0 ∨ ((n + (xs.length + 4) : Nat) : Int) ≤ L) : comE l xs = 0 ∧ comL l xs = tkL (logO ⟨l.dsk, l.left, 0⟩ l xs) l xs ∧ Able (logO ⟨l.dsk, l.left, 0⟩ l xs) n N (lessI L (xs.length + 4)) := by
  obtain ⟨n1, n2, n3⟩ := right_nums hr
  obtain ⟨d1, d2, d3⟩ := right_dirty hr
  have hN64 : 64 ≤ N := by
    rw [rightL_eq] at hr
    simp only [Bool.and_eq_true, decide_eq_true_eq] at hr
    rw [← hN]; exact hr.1.1.2
  have hf' := hf
  unfold fullB at hf'
  rw [decide_eq_false_iff_not] at hf'
  have hA := log_able (n := n) (N := N) (o := ⟨l.dsk, l.left, 0⟩) (L := L) l xs ⟨rfl, d3, hL, hp, hN⟩ hN64 ⟨n3.1, by omega⟩ ⟨n2.1, by omega⟩ (fun x hx => (allow_may ha x hx).2)
  have hc : (rightL l && allowL l.secs.length xs) = true := by rw [hr, hN, ha]; rfl
  refine ⟨?_, ?_, hA⟩
  · unfold comE
    rw [if_pos hc, if_neg (by omega), if_neg h0, if_neg (by rw [hf]; decide)]
    exact hA.code
  · unfold comL
    rw [if_pos hc, if_neg (by omega), if_neg h0, if_neg (by rw [hf]; decide)]
    unfold doneL
    rw [if_pos hA.code]
theorem taken_right {n N : Nat} {L : Int} {q : Outc} {l : Lg} {xs : List Wrt} (hq : Able q n N L) (hr : rightL l = true) (hN : l.secs.length = N) (ha : allowL N xs = true) (h1 : xs.length ≤ 40) (hf : fullB l xs.length = false) : rightL (tkL q l xs) = true := by
  obtain ⟨n1, n2, n3⟩ := right_nums hr
  obtain ⟨d1, d2, d3⟩ := right_dirty hr
  have hN64 : 64 ≤ N := by
    rw [rightL_eq] at hr
    simp only [Bool.and_eq_true, decide_eq_true_eq] at hr
    rw [← hN]; exact hr.1.1.2
  unfold fullB at hf
  rw [decide_eq_false_iff_not] at hf
  have hs : (tkL q l xs).secs.length = N := hq.secs
  rw [rightL_eq, show (tkL q l xs).dsk = q.dsk from rfl, hq.right, hs, decide_eq_true hN64]
  have e1 : numsB (tkL q l xs) = true := decide_eq_true ⟨n1, ⟨show 0 ≤ l.seq + 1 by omega, show l.seq + 1 ≤ 6 by omega⟩, ⟨show 0 ≤ l.used + xs.length by omega, show l.used + xs.length ≤ 40 by omega⟩⟩
  have e2 : dirtyB N (-1) (tkL q l xs).dirty = true := fold_with xs l.dirty (fun x hx => allow_may ha x hx) (by rw [← hN]; exact d1)
  rw [e1, e2]; rfl
end SWlG
section SWlR
open Go.RowKit
set_option linter.unusedVariables false

/-- a call, as the reference has it: below 0 a flush -/
def caS (o : Outc) (c : Wrt) : Outc := if o.code = 0 then (if c.sector < 0 then flO o.dsk o.left else wrO o.dsk o.left c.sector c.bytes) else o
theorem ca_flush (o : Outc) (b : ByteArray) : caS o ⟨-1, b⟩ = flS o := by
  unfold caS flS
  by_cases h : o.code = 0
  · rw [if_pos h, if_pos h, if_pos (show (-1 : Int) < 0 by decide)]
  · rw [if_neg h, if_neg h]
theorem ca_write (o : Outc) (x : Wrt) (h : 0 ≤ x.sector) : caS o x = wrS o x := by
  unfold caS wrS
  by_cases h0 : o.code = 0
  · rw [if_pos h0, if_pos h0, if_neg (by omega)]
  · rw [if_neg h0, if_neg h0]
theorem ca_writes : ∀ (l : List Wrt) (o : Outc), (∀ x ∈ l, 0 ≤ x.sector) → l.foldl caS o = l.foldl wrS o
  | [], _, _ => rfl
  | x :: l, o, h => by
    rw [List.foldl_cons, List.foldl_cons, ca_write o x (h x (List.mem_cons_self ..))]
    exact ca_writes l _ (fun y hy => h y (List.mem_cons_of_mem _ hy))
theorem ca_ok (o : Outc) (x : Wrt) (h : o.ok) : (caS o x).ok := by
  by_cases hx : x.sector < 0
  · have e : caS o x = flS o := by
      unfold caS flS
      by_cases h0 : o.code = 0
      · rw [if_pos h0, if_pos h0, if_pos hx]
      · rw [if_neg h0, if_neg h0]
    rw [e]; exact fl_left o h
  · rw [ca_write o x (by omega)]; exact wr_left o x h
theorem ca_pend (o : Outc) (x : Wrt) : (caS o x).dsk.pend.length ≤ o.dsk.pend.length + 1 := by
  by_cases hx : x.sector < 0
  · have e : caS o x = flS o := by
      unfold caS flS
      by_cases h0 : o.code = 0
      · rw [if_pos h0, if_pos h0, if_pos hx]
      · rw [if_neg h0, if_neg h0]
    rw [e]; have := fl_pend o; omega
  · rw [ca_write o x (by omega)]; exact wr_pend o x
theorem ca_foldok : ∀ (l : List Wrt) (o : Outc), o.ok → (l.foldl caS o).ok
  | [], _, h => h
  | x :: l, o, h => ca_foldok l _ (ca_ok o x h)
theorem ca_foldpend : ∀ (l : List Wrt) (o : Outc), (l.foldl caS o).dsk.pend.length ≤ o.dsk.pend.length + l.length
  | [], _ => by simp
  | x :: l, o => by
    have h1 := ca_foldpend l (caS o x)
    have h2 := ca_pend o x
    rw [List.foldl_cons, List.length_cons]; omega
theorem ca_snoc (l : List Wrt) (o : Outc) (j : Nat) (h : j < l.length) : (l.take (j + 1)).foldl caS o = caS ((l.take j).foldl caS o) (l.getD j wrtZ) := by
  rw [List.take_add_one, List.foldl_append]
  simp [List.getD, h]
/-- what only the lack of power can stop -/
structure Fair (o : Outc) (N : Nat) : Prop where
  code : o.code = 0 ∨ o.code = 21
  right : rightD o.dsk = true
  secs : o.dsk.secs.length = N
theorem wr_fair {o : Outc} {N : Nat} (x : Wrt) (h : Fair o N) (hs : 0 ≤ x.sector ∧ x.sector < N) (hx : (trimS x.bytes).size ≤ 512) : Fair (wrS o x) N := by
  unfold wrS
  by_cases h0 : o.code = 0
  · rw [if_pos h0]
    unfold wrO
    by_cases h1 : readyE o.dsk o.left ≠ 0
    · rw [if_pos h1]
      refine ⟨.inr ?_, h.right, h.secs⟩
      show readyE o.dsk o.left = 21
      rcases ready_is o.dsk o.left with h2 | h2 | h2
      · exact absurd h2 h1
      · unfold readyE at h2
        split at h2
        · exact absurd h2 (by decide)
        · rw [if_pos h.right] at h2; exact absurd h2 (by decide)
      · exact h2
    · rw [if_neg h1, if_neg (Decidable.not_not.2 (by rw [h.secs]; exact hs)), if_neg (by omega)]
      exact ⟨.inl rfl, write_right _ _ _ h.right (by rw [h.secs]; exact hs) hx, h.secs⟩
  · rw [if_neg h0]; exact h
theorem fl_fair {o : Outc} {N : Nat} (h : Fair o N) : Fair (flS o) N := by
  unfold flS
  by_cases h0 : o.code = 0
  · rw [if_pos h0]
    unfold flO
    by_cases h1 : readyE o.dsk o.left ≠ 0
    · rw [if_pos h1]
      refine ⟨.inr ?_, h.right, h.secs⟩
      show readyE o.dsk o.left = 21
      rcases ready_is o.dsk o.left with h2 | h2 | h2
      · exact absurd h2 h1
      · unfold readyE at h2
        split at h2
        · exact absurd h2 (by decide)
        · rw [if_pos h.right] at h2; exact absurd h2 (by decide)
      · exact h2
    · rw [if_neg h1]
      exact ⟨.inl rfl, crash_right _ _ h.right, (crash_len _ _ h.right).trans h.secs⟩
  · rw [if_neg h0]; exact h
theorem fold_fair {N : Nat} : ∀ (l : List Wrt) {o : Outc}, Fair o N → (∀ x ∈ l, (0 ≤ x.sector ∧ x.sector < N) ∧ (trimS x.bytes).size ≤ 512) → Fair (l.foldl wrS o) N
  | [], _, h, _ => h
  | x :: l, o, h, hx => fold_fair l (wr_fair x h (hx x (List.mem_cons_self ..)).1 (hx x (List.mem_cons_self ..)).2) (fun y hy => hx y (List.mem_cons_of_mem _ hy))
theorem dirty_mem {N : Nat} {p : Int} {l : List Wrt} (hd : dirtyB N p l = true) : ∀ x ∈ l, (53 ≤ x.sector ∧ x.sector < N) ∧ fitsB x.bytes = true := fun y hy => by
  obtain ⟨j, hj, rfl⟩ := List.mem_iff_getElem.1 hy
  obtain ⟨b, _, b3⟩ := dirty_from hd j hj
  have e : l.getD j wrtZ = l[j] := by simp [List.getD, hj]
  rw [e] at b b3
  exact ⟨b, b3⟩
theorem fits_size {b : ByteArray} (h : fitsB b = true) : (trimS b).size ≤ 512 ∧ trimS b = b := by
  unfold fitsB at h
  obtain ⟨b4, b5⟩ := of_decide_eq_true h
  exact ⟨by rw [b5]; exact b4, b5⟩
theorem ck_fair {l : Lg} (hr : rightL l = true) : Fair (ckO l) l.secs.length := by
  obtain ⟨d1, d2, d3⟩ := right_dirty hr
  have hN : 64 ≤ l.secs.length := by
    rw [rightL_eq] at hr
    simp only [Bool.and_eq_true, decide_eq_true_eq] at hr
    exact hr.1.1.2
  unfold ckO
  exact fl_fair (wr_fair _ (fl_fair (fold_fair l.dirty ⟨.inl rfl, d3, rfl⟩ (fun x hx => by
    obtain ⟨h1, h2⟩ := dirty_mem d1 x hx
    exact ⟨by omega, (fits_size h2).1⟩))) ⟨show (0 : Int) ≤ 0 by omega, show (0 : Int) < l.secs.length by omega⟩ (super_lay _))
theorem log_fair {N : Nat} {o : Outc} {l : Lg} {xs : List Wrt} (h : Fair o N) (hN : 64 ≤ N) (hu : 0 ≤ l.used ∧ l.used + xs.length ≤ 40) (hs : 0 ≤ l.seq ∧ l.seq < 6) (hx : ∀ x ∈ xs, (trimS x.bytes).size ≤ 512) : Fair (logO o l xs) N := by
  unfold logO
  exact fl_fair (wr_fair _ (fl_fair (wr_fair _ (fold_fair _ h (fun y hy => by
    obtain ⟨i, hi, rfl⟩ := img_mem hy
    exact ⟨⟨show (0 : Int) ≤ 13 + l.used + i by omega, show 13 + l.used + (i : Int) < N by omega⟩, (show (trimS (xs.getD i wrtZ).bytes).size ≤ 512 from hx _ (getD_mem hi))⟩)) ⟨show (0 : Int) ≤ 1 + l.seq by omega, show 1 + l.seq < (N : Int) by omega⟩ (head_lay _ _ _ (by rw [List.length_map]; omega)))) ⟨show (0 : Int) ≤ 7 + l.seq by omega, show 7 + l.seq < (N : Int) by omega⟩ (commit_lay _ _))
end SWlR
end Go.Proofs.YthnmnnlbglpjaaaGreatDoor
