/- The walk of WalAgain. -/
import Derived.Test.YthnmnnlbglpjaaaGreatDoorWq2
namespace Go.Proofs.YthnmnnlbglpjaaaGreatDoor.lawWalAgain
open Go.RowKit
set_option linter.unusedVariables false
set_option linter.unusedSimpArgs false

set_option maxRecDepth 100000 in
set_option maxHeartbeats 20000000 in
theorem walk (n0 : Int) (v0 : Value) (l0 : List (List Wrt)) (w : World) (wn : (Lit.int .i64 n0).wf = true) (w0 : IsWrtss w v0 l0) :
    Calls Tryz.prog 7 #[.int .i64 n0, v0] w fun e w' => e = .returned (.bool true) ∧ Below w.heap.size w w' := by
  have hwn := wf_i64 wn
  obtain ⟨a, n, c, rfl, hl, hc1, hc2, _⟩ := id w0
  obtain ⟨q, hq⟩ : ∃ q, (if n0 < 64 then (64 : Int) else n0) = q := ⟨_, rfl⟩
  have hq2 : max n0 64 = q := by rw [← hq]; split <;> omega
  obtain ⟨k, hk⟩ : ∃ k : Nat, (if 100 < q then (100 : Int) else q) = k := ⟨(if 100 < q then (100 : Int) else q).toNat, by
    have : 64 ≤ q := by rw [← hq]; split <;> omega
    rw [Int.toNat_of_nonneg (by split <;> omega)]⟩
  have hk2 : min q 100 = k := by rw [← hk]; split <;> omega
  have hkk : 64 ≤ k ∧ k ≤ 100 := by
    have : 64 ≤ q := by rw [← hq]; split <;> omega
    split at hk <;> omega
  have HN := Lib.hid (wlNew k · ⟨by omega, by omega⟩)
  have hne : newE k = 0 := if_pos (by omega)
  rw [hne] at HN
  have HP0 := Lib.hid (new_play (k := k) ⟨hkk.1, by omega⟩)
  have HKK := Lib.hid hkk
  have HR0 := Lib.hid (fun x (hx : Below w.heap.size w x) => w0.below hx)
  have hnI : (n : Int) ≤ c := by omega
  have hcI : (c : Int) ≤ 9223372036854775807 := by omega
  generalize newLg k = X at *
  clear hne hwn wn w0 hl hkk
  go_enter Tryz.func7, Tryz.ntmps7
  go_upto_region 2 with (first | (go_at_call 18; refine (HN.out _).mono ?_; rintro e u1 ⟨vx, rfl, hlx, hb1⟩; obtain ⟨y1, y2, y3, y4, y5, y6, rfl, _⟩ := id hlx.form))
  obtain ⟨u2, D, hU, hD, hn, hb2, hal, hwD, hz2⟩ := step_alloc hb1 (.cells #[.slice y1 X.secs.length y2, .slice y3 X.pend.length y4, .int .i64 X.left, .int .i64 X.epoch, .int .i64 X.seq, .int .i64 X.used, .slice y5 X.dirty.length y6] 29)
  rw [hU]
  (try rw [hD])
  have HLB := Lib.hid ((hlx.below hal).box hn); have HB2 := Lib.hid hb2; have HWD := Lib.hid hwD
  clear hU hD hn hb2 hal hwD hz2 hb1 hlx HN
  go_upto_region 5 with (first | (go_at_call 14; refine (wlAlive _).mono ?_; rintro e u3 ⟨rfl, hb3⟩))
  have HLB3 := Lib.hid (HLB.out.below hb3); have HB3 := Lib.hid (HB2.out.trans (hb3.mono HB2.out.size))
  clear HLB HB2 hb3
  go_loopw [32] (fun z wr => ∃ (i : Nat) (l : Lg) (T : Nat → ByteArray), i ≤ n ∧ z = .int .i64 i ∧ Hid (LogBox wr D l) ∧ Hid (InPlay l k T (1 + min i 8)) ∧ Hid (Below w.heap.size w wr)) (fun z _ => n - (intOf z).toNat)
  case atStart => exact ⟨0, X, _, by omega, rfl, HLB3, HP0, HB3⟩
  case round =>
    obtain ⟨i, l, T, hi, rfl, HL, HI, HW⟩ := hrel
    by_cases hlt : i < n
    · have hltI : (i : Int) < n := by omega
      obtain ⟨b, off, a', m, c', rfl, hbl, p0, hws, hm, hmc, hcc⟩ := (HR0.out wr HW.out).get i hlt
      obtain ⟨xs0, hxs⟩ : ∃ xs, l0.getD i [] = xs := ⟨_, rfl⟩
      rw [hxs] at hws hm
      have HWS := Lib.hid hws; have HM := Lib.hid hm
      have hmI : (m : Int) ≤ c' := by omega
      have hcI' : (c' : Int) ≤ 9223372036854775807 := by omega
      clear hxs hws hm
      by_cases h8 : i < 8
      · have h8I : (i : Int) < 8 := by omega
        go_upto_region 8 with fail
        obtain ⟨g1, e1, g2, e2, g3, e3, hgD, hgL⟩ := id HL.out
        have HSH := Lib.hid (fun u => short5 a' m c' u hmc hcc)
        obtain ⟨m5, hm5⟩ : ∃ m5, min m 45 = m5 := ⟨_, rfl⟩
        rw [hm5] at HSH
        have HXS := Lib.hid (show IsWrts wr (.slice a' m5 c') (xs0.take m5) from by
          obtain ⟨a9, n9, c9, hv9, hl9, _, _, ht9⟩ := HWS.out.take
          injection hv9 with t1 t2 t3
          subst t1 t2 t3
          exact ht9 _ (by omega))
        have HCM := Lib.hid (fun u (hu : Below wr.heap.size wr u) => wlCommit _ _ l (xs0.take m5) u (hgL.below hu) (HXS.out.below hu) HI.out.pend)
        have HCO := Lib.hid (HI.out.commit (by omega) (xs0.take m5))
        obtain ⟨M, hM⟩ : ∃ M, comL l (xs0.take m5) = M := ⟨_, rfl⟩
        obtain ⟨F, hF⟩ : ∃ F, comE l (xs0.take m5) = F := ⟨_, rfl⟩
        rw [hM, hF] at HCM HCO
        obtain ⟨d1, hd1⟩ : ∃ d1, l.secs.length = d1 := ⟨_, rfl⟩
        obtain ⟨d2, hd2⟩ : ∃ d2, l.pend.length = d2 := ⟨_, rfl⟩
        obtain ⟨d3, hd3⟩ : ∃ d3, l.dirty.length = d3 := ⟨_, rfl⟩
        rw [hd1, hd2, hd3] at hgD HCM
        have HGD := Lib.hid hgD
        clear hM hF hgL hd1 hd2 hd3 hm5 hgD
        have q0 := below_cell (Below.refl _ wr) HGD.out 0 rfl
        have q1 := below_cell (Below.refl _ wr) HGD.out 1 rfl
        have q2 := below_cell (Below.refl _ wr) HGD.out 2 rfl
        have q3 := below_cell (Below.refl _ wr) HGD.out 3 rfl
        have q4 := below_cell (Below.refl _ wr) HGD.out 4 rfl
        have q5 := below_cell (Below.refl _ wr) HGD.out 5 rfl
        have q6 := below_cell (Below.refl _ wr) HGD.out 6 rfl
        have HKB := Lib.hid (fun (u : World) (R : Prop) (h : Below wr.heap.size wr u ∧ R) => HCM.out u h.1)
        go_cut [9, 10] (fun pv fv wx => ∃ g, pv = .pointer (some ⟨g, 0, none⟩) ∧ fv = .int .i64 F ∧ LogBox wx g M ∧ wr.heap.size ≤ g ∧ Below wr.heap.size wr wx)
        case first =>
          clear p0
          have hGz := fun o : Obj => (heap_alloc_old wr o (lt_of_block HGD.out)).trans HGD.out
          have pz0 := fun o : Obj => below_cell (Below.refl _ (wr.alloc o)) (hGz o) 0 rfl
          have pz1 := fun o : Obj => below_cell (Below.refl _ (wr.alloc o)) (hGz o) 1 rfl
          have pz2 := fun o : Obj => below_cell (Below.refl _ (wr.alloc o)) (hGz o) 2 rfl
          have pz3 := fun o : Obj => below_cell (Below.refl _ (wr.alloc o)) (hGz o) 3 rfl
          have pz4 := fun o : Obj => below_cell (Below.refl _ (wr.alloc o)) (hGz o) 4 rfl
          have pz5 := fun o : Obj => below_cell (Below.refl _ (wr.alloc o)) (hGz o) 5 rfl
          have pz6 := fun o : Obj => below_cell (Below.refl _ (wr.alloc o)) (hGz o) 6 rfl
          go_region_with (first
            | (go_at_call 9; refine (HSH.out _).mono ?_; rintro e u3 ⟨rfl, hb3⟩; (first
                | (have hx3 : Below wr.heap.size wr u3 := (Below.refl wr.heap.size wr).drew.trans (hb3.mono (Nat.le_refl _)))
                | (have hx3 : Below wr.heap.size wr u3 := hb3)
                | (have hx3 : Below wr.heap.size wr u3 := ((Below.refl wr.heap.size wr).alloc (Nat.le_refl _) (.cells #[.slice none 0 0, .slice none 0 0, .int .i64 0, .int .i64 0, .int .i64 0, .int .i64 0, .slice none 0 0] 29)).drew.trans (hb3.mono (by show wr.heap.size ≤ (wr.alloc (.cells #[.slice none 0 0, .slice none 0 0, .int .i64 0, .int .i64 0, .int .i64 0, .int .i64 0, .slice none 0 0] 29)).heap.size; rw [World.size_alloc]; exact Nat.le_succ _)); have hZ3 : u3.heap[wr.heap.size]? = some (.cells #[.slice none 0 0, .slice none 0 0, .int .i64 0, .int .i64 0, .int .i64 0, .int .i64 0, .slice none 0 0] 29 (0, 0)) := Below.at' hb3 (heap_alloc_new wr (.cells #[.slice none 0 0, .slice none 0 0, .int .i64 0, .int .i64 0, .int .i64 0, .int .i64 0, .slice none 0 0] 29)))
                | (go_must (exact hb3))); have hG3 := Below.at' hx3 HGD.out; have p0 := below_cell (Below.refl _ u3) hG3 0 rfl; have p1 := below_cell (Below.refl _ u3) hG3 1 rfl; have p2 := below_cell (Below.refl _ u3) hG3 2 rfl; have p3 := below_cell (Below.refl _ u3) hG3 3 rfl; have p4 := below_cell (Below.refl _ u3) hG3 4 rfl; have p5 := below_cell (Below.refl _ u3) hG3 5 rfl; have p6 := below_cell (Below.refl _ u3) hG3 6 rfl; have hG3z := fun o : Obj => (heap_alloc_old u3 o (lt_of_block hG3)).trans hG3; have pu0 := fun o : Obj => below_cell (Below.refl _ (u3.alloc o)) (hG3z o) 0 rfl; have pu1 := fun o : Obj => below_cell (Below.refl _ (u3.alloc o)) (hG3z o) 1 rfl; have pu2 := fun o : Obj => below_cell (Below.refl _ (u3.alloc o)) (hG3z o) 2 rfl; have pu3 := fun o : Obj => below_cell (Below.refl _ (u3.alloc o)) (hG3z o) 3 rfl; have pu4 := fun o : Obj => below_cell (Below.refl _ (u3.alloc o)) (hG3z o) 4 rfl; have pu5 := fun o : Obj => below_cell (Below.refl _ (u3.alloc o)) (hG3z o) 5 rfl; have pu6 := fun o : Obj => below_cell (Below.refl _ (u3.alloc o)) (hG3z o) 6 rfl)
            | (go_at_call 10; refine (HCM.out _ (by first | exact hx3 | exact hx3.drew | exact hx3.alloc hx3.size _ | exact hx3.drew.alloc hx3.size _ | exact (hx3.alloc hx3.size _).drew | go_must (exact hx3))).mono ?_; rintro e u4 ⟨vm, rfl, hlm, hb4⟩; obtain ⟨t1, t2, t3, t4, t5, t6, rfl, _⟩ := id hlm.form; have hx4 : Below wr.heap.size wr u4 := (by first | exact hx3.trans (hb4.mono hx3.size) | exact (hx3.alloc hx3.size _).trans (hb4.mono (hx3.alloc hx3.size _).size)); first
                | (have hZ4 := Below.at' hb4 hZ3; have z0 := below_cell (Below.refl _ u4) hZ4 0 rfl; have z1 := below_cell (Below.refl _ u4) hZ4 1 rfl; have z2 := below_cell (Below.refl _ u4) hZ4 2 rfl; have z3 := below_cell (Below.refl _ u4) hZ4 3 rfl; have z4 := below_cell (Below.refl _ u4) hZ4 4 rfl; have z5 := below_cell (Below.refl _ u4) hZ4 5 rfl; have z6 := below_cell (Below.refl _ u4) hZ4 6 rfl; have zf0 := block_frozen hZ4 0; have zf1 := block_frozen hZ4 1; have zf2 := block_frozen hZ4 2; have zf3 := block_frozen hZ4 3; have zf4 := block_frozen hZ4 4; have zf5 := block_frozen hZ4 5; have zf6 := block_frozen hZ4 6)
                | (have hZ4 : u4.heap[u3.heap.size]? = some (.cells #[.slice none 0 0, .slice none 0 0, .int .i64 0, .int .i64 0, .int .i64 0, .int .i64 0, .slice none 0 0] 29 (0, 0)) := Below.at' hb4 (heap_alloc_new u3 (.cells #[.slice none 0 0, .slice none 0 0, .int .i64 0, .int .i64 0, .int .i64 0, .int .i64 0, .slice none 0 0] 29)); have z0 := below_cell (Below.refl _ u4) hZ4 0 rfl; have z1 := below_cell (Below.refl _ u4) hZ4 1 rfl; have z2 := below_cell (Below.refl _ u4) hZ4 2 rfl; have z3 := below_cell (Below.refl _ u4) hZ4 3 rfl; have z4 := below_cell (Below.refl _ u4) hZ4 4 rfl; have z5 := below_cell (Below.refl _ u4) hZ4 5 rfl; have z6 := below_cell (Below.refl _ u4) hZ4 6 rfl; have zf0 := block_frozen hZ4 0; have zf1 := block_frozen hZ4 1; have zf2 := block_frozen hZ4 2; have zf3 := block_frozen hZ4 3; have zf4 := block_frozen hZ4 4; have zf5 := block_frozen hZ4 5; have zf6 := block_frozen hZ4 6)
                | skip)
            | fail)
          all_goals
            go_wp2_with fail
            go_meet
          all_goals
            refine ⟨_, rfl, rfl, ?_, ?_, ?_⟩
            · (first | with_reducible exact box_alloc hlm | with_reducible exact box_set7 hZ4 hlm)
            · (first | with_reducible exact Nat.le_refl _ | with_reducible exact hx3.size | with_reducible exact hx4.size)
            · (first | with_reducible exact hx4.alloc hx4.size _ | with_reducible exact keep7 ⟨hx4, trivial⟩ (Nat.le_refl _) _ _ _ _ _ _ _ | with_reducible exact keep7 ⟨hx4, trivial⟩ hx3.size _ _ _ _ _ _ _)
        case rest =>
        obtain ⟨g, rfl, rfl, hMB, hgC, hWx⟩ := hcut
        obtain ⟨m1, n1, m2, n2, m3, n3, hg7, hgl⟩ := id hMB
        have HWx := Lib.hid (HW.out.trans (hWx.mono HW.out.size))
        have hst := Below.at' hWx HGD.out
        have HLx := Lib.hid (HL.out.below hWx)
        have HGL := Lib.hid hgl
        have k0 := below_cell (Below.refl _ wc) hg7 0 rfl
        have k1 := below_cell (Below.refl _ wc) hg7 1 rfl
        have k2 := below_cell (Below.refl _ wc) hg7 2 rfl
        have k3 := below_cell (Below.refl _ wc) hg7 3 rfl
        have k4 := below_cell (Below.refl _ wc) hg7 4 rfl
        have k5 := below_cell (Below.refl _ wc) hg7 5 rfl
        have k6 := below_cell (Below.refl _ wc) hg7 6 rfl
        have HST := Lib.hid hst
        clear hMB hgC hWx hg7 hgl q0 q1 q2 q3 q4 q5 q6 HKB p0
        rcases HCO.out with ⟨rfl, hP, _⟩ | rfl | rfl
        · have HP := Lib.hid hP
          clear hP
          go_wp2_with (first | (refine wpList_store_row rfl 29 _ _ rfl D #[.slice m1 M.secs.length n1, .slice m2 M.pend.length n2, .int .i64 M.left, .int .i64 M.epoch, .int .i64 M.seq, .int .i64 M.used, .slice m3 M.dirty.length n3] rfl rfl 29 _ hst (by kernel_rfl) rfl (by simp [Value.oneCell']) ?_))
          go_roundw
          case rel =>
            exact ⟨i + 1, M, updT T (xs0.take m5), by omega, by go_num, Lib.hid (HLx.out.set HGL.out), Lib.hid (HP.out.mono (by omega)), Lib.hid (below_setRow HWx.out HWD.out _)⟩
          case measure => simp [intOf]; omega
        · clear hst
          go_wp2_with fail
          go_roundw
          case rel =>
            exact ⟨i + 1, l, T, by omega, by go_num, HLx, Lib.hid (HI.out.mono (by omega)), HWx⟩
          case measure => simp [intOf]; omega
        · clear hst
          go_wp2_with fail
          go_roundw
          case rel =>
            exact ⟨i + 1, l, T, by omega, by go_num, HLx, Lib.hid (HI.out.mono (by omega)), HWx⟩
          case measure => simp [intOf]; omega
      · have h8I : ¬ (i : Int) < 8 := by omega
        go_wp2_with fail
        go_roundw
        case rel => exact ⟨i + 1, l, T, by omega, by go_num, HL, Lib.hid (HI.out.mono (by omega)), HW⟩
        case measure => simp [intOf]; omega
    · obtain rfl : i = n := by omega
      have hnl : ¬ (i : Int) < i := by omega
      go_upto_region 12 with fail
      have hpE : ((1 + min i 8 : Nat) : Int) ≤ 9 := by omega
      obtain ⟨f1, f2⟩ := com_nil HI.out.sound.right
      obtain ⟨oA, pA, eA⟩ := HI.out.opn (by omega)
      obtain ⟨oB, pB, eB⟩ := pA.opn (by omega)
      have HCM := Lib.hid (fun v u (h : IsLog u v l) => wlCommit v (.slice none 0 0) l [] u h (nilWrts u) HI.out.pend)
      have HOA := Lib.hid (fun v u (h : IsPower u v l.dsk (-1)) => wlOpen v l.dsk (-1) u h ⟨by decide, by decide⟩ HI.out.pend)
      have HOB := Lib.hid (fun v u (h : IsPower u v (opL l.dsk (-1)).dsk (-1)) => wlOpen v (opL l.dsk (-1)).dsk (-1) u h ⟨by decide, by decide⟩ pA.pend)
      have hAe : 1 ≤ (opL l.dsk (-1)).epoch ∧ (opL l.dsk (-1)).epoch ≤ 10 := ⟨(right_nums pA.sound.right).1.1, by have := pA.ep; omega⟩
      rw [f1, f2] at HCM
      rw [oA] at HOA
      rw [oB] at HOB
      obtain ⟨A, hA⟩ : ∃ A, opL l.dsk (-1) = A := ⟨_, rfl⟩
      rw [hA] at HOA HOB pA pB eA eB hAe
      obtain ⟨E, hE⟩ : ∃ E, opL A.dsk (-1) = E := ⟨_, rfl⟩
      rw [hE] at HOB pB eB
      have HPA := Lib.hid pA; have HPB := Lib.hid pB
      have hwe : IntKind.i64.wrap (A.epoch + 1) = E.epoch := by rw [eB]; exact IntWalk.i64_in _ (by omega)
      have HWE := Lib.hid hwe; have HEB := Lib.hid eB
      clear f1 f2 oA oB pA pB eA eB hAe hA hE hwe hpE
      obtain ⟨g1, j1, g2, j2, g3, j3, hgD, hgL⟩ := id HL.out
      have HGD := Lib.hid hgD; have HGL := Lib.hid hgL
      clear hgL hgD
      have q0 := below_cell (Below.refl _ wr) HGD.out 0 rfl
      have q1 := below_cell (Below.refl _ wr) HGD.out 1 rfl
      have q2 := below_cell (Below.refl _ wr) HGD.out 2 rfl
      have q3 := below_cell (Below.refl _ wr) HGD.out 3 rfl
      have q4 := below_cell (Below.refl _ wr) HGD.out 4 rfl
      have q5 := below_cell (Below.refl _ wr) HGD.out 5 rfl
      have q6 := below_cell (Below.refl _ wr) HGD.out 6 rfl
      have HCM0 := Lib.hid (HCM.out _ wr HGL.out)
      go_upto_region 13 with (first | (go_at_call 10; refine HCM0.out.mono ?_; rintro e u1 ⟨vp, rfl, hlp, hb1⟩; obtain ⟨p1, p2, p3, p4, p5, p6, rfl, _⟩ := id hlp.form))
      obtain ⟨u2, P, hU, hP, hn, hbw2, hal, hwP, hz2⟩ := step_alloc (HW.out.trans (hb1.mono HW.out.size)) (.cells #[.slice p1 l.secs.length p2, .slice p3 l.pend.length p4, .int .i64 l.left, .int .i64 l.epoch, .int .i64 l.seq, .int .i64 l.used, .slice p5 l.dirty.length p6] 29)
      rw [hU]
      (try rw [hP])
      have HPB2 := Lib.hid hn; have HPL2 := Lib.hid (hlp.below hal)
      have HD2 := Lib.hid (Below.at' hal (Below.at' hb1 HGD.out)); have HDL2 := Lib.hid ((HGL.out.below hb1).below hal); have HW2 := Lib.hid hbw2
      clear hU hP hn hbw2 hal hwP hz2 hb1 hlp q0 q1 q2 q3 q4 q5 q6 HGD HGL HW HCM0 HCM
      have b0 := below_cell (Below.refl _ u2) HD2.out 0 rfl
      have b1 := below_cell (Below.refl _ u2) HD2.out 1 rfl
      have HOA2 := Lib.hid (HOA.out _ u2 (power_of (-1) HDL2.out.disk))
      go_upto_region 14 with (first | (go_at_call 16; refine HOA2.out.mono ?_; rintro e u3 ⟨vq, rfl, hlq, hb3⟩; obtain ⟨q1, q2, q3, q4, q5, q6, rfl, _⟩ := id hlq.form))
      obtain ⟨u4, Q, hU, hQ, hn, hbw4, hal, hwQ, hz4⟩ := step_alloc (HW2.out.trans (hb3.mono HW2.out.size)) (.cells #[.slice q1 A.secs.length q2, .slice q3 A.pend.length q4, .int .i64 A.left, .int .i64 A.epoch, .int .i64 A.seq, .int .i64 A.used, .slice q5 A.dirty.length q6] 29)
      rw [hU]
      (try rw [hQ])
      have HQB4 := Lib.hid hn; have HQL4 := Lib.hid (hlq.below hal)
      have HPB4 := Lib.hid (Below.at' hal (Below.at' hb3 HPB2.out)); have HPL4 := Lib.hid ((HPL2.out.below hb3).below hal)
      have HD4 := Lib.hid (Below.at' hal (Below.at' hb3 HD2.out)); have HDL4 := Lib.hid ((HDL2.out.below hb3).below hal); have HW4 := Lib.hid hbw4
      clear hU hQ hn hbw4 hal hwQ hz4 hb3 hlq b0 b1 HPB2 HPL2 HD2 HDL2 HW2 HOA2 HOA
      have b0 := below_cell (Below.refl _ u4) HQB4.out 0 rfl
      have b1 := below_cell (Below.refl _ u4) HQB4.out 1 rfl
      have HOB4 := Lib.hid (HOB.out _ u4 (power_of (-1) HQL4.out.disk))
      go_upto_region 15 with (first | (go_at_call 16; refine HOB4.out.mono ?_; rintro e u5 ⟨vr, rfl, hlr, hb5⟩; obtain ⟨r1, r2, r3, r4, r5, r6, rfl, _⟩ := id hlr.form))
      obtain ⟨u6, R, hU, hR, hn, hbw6, hal, hwR, hz6⟩ := step_alloc (HW4.out.trans (hb5.mono HW4.out.size)) (.cells #[.slice r1 E.secs.length r2, .slice r3 E.pend.length r4, .int .i64 E.left, .int .i64 E.epoch, .int .i64 E.seq, .int .i64 E.used, .slice r5 E.dirty.length r6] 29)
      rw [hU]
      (try rw [hR])
      have HRB6 := Lib.hid hn; have HRL6 := Lib.hid (hlr.below hal)
      have HQB6 := Lib.hid (Below.at' hal (Below.at' hb5 HQB4.out)); have HQL6 := Lib.hid ((HQL4.out.below hb5).below hal)
      have HPB6 := Lib.hid (Below.at' hal (Below.at' hb5 HPB4.out)); have HPL6 := Lib.hid ((HPL4.out.below hb5).below hal)
      have HD6 := Lib.hid (Below.at' hal (Below.at' hb5 HD4.out)); have HDL6 := Lib.hid ((HDL4.out.below hb5).below hal); have HW6 := Lib.hid hbw6
      clear hU hR hn hbw6 hal hwR hz6 hb5 hlr b0 b1 HPB4 HPL4 HD4 HDL4 HQB4 HQL4 HW4 HOB4 HOB
      have HLK : Hid (∀ (u : World) (Z : Prop), (Below u6.heap.size u6 u ∧ Z) → Calls Tryz.prog 15 #[.agg #[.slice p1 l.secs.length p2, .slice p3 l.pend.length p4, .int .i64 l.left, .int .i64 l.epoch, .int .i64 l.seq, .int .i64 l.used, .slice p5 l.dirty.length p6], .agg #[.slice g1 l.secs.length j1, .slice g2 l.pend.length j2, .int .i64 l.left, .int .i64 l.epoch, .int .i64 l.seq, .int .i64 l.used, .slice g3 l.dirty.length j3]] u fun e w' => e = .returned (.bool true) ∧ Below u.heap.size u w') := Lib.hid (fun u Z hu => by
        have := refLike5_any _ _ l l u (HPL6.out.below hu.1) (HDL6.out.below hu.1)
        simpa using this)
      have HHA := Lib.hid (fun (u : World) (Z : Prop) (hu : Below u6.heap.size u6 u ∧ Z) => refHomes _ A T k u (HQL6.out.below hu.1) HPA.out.sound HPA.out.has)
      have HHL := Lib.hid (fun (u : World) (Z : Prop) (hu : Below u6.heap.size u6 u ∧ Z) => refHomes _ l T k u (HDL6.out.below hu.1) HI.out.sound HI.out.has)
      have HHB := Lib.hid (fun (u : World) (Z : Prop) (hu : Below u6.heap.size u6 u ∧ Z) => refHomes _ E T k u (HRL6.out.below hu.1) HPB.out.sound HPB.out.has)
      have HSM : Hid (∀ u va vb, IsStrs u va (homesN T (k - 53)) → IsStrs u vb (homesN T (k - 53)) → Calls Tryz.prog 22 #[va, vb] u fun e w' => e = .returned (.bool true) ∧ Below u.heap.size u w') := Lib.hid (fun u va vb h1 h2 => by
        have := refSame va vb _ _ u h1 h2
        simpa using this)
      have HSZ := Lib.hid HI.out.sizes
      have hwe := HWE.out
      generalize A.epoch = ea at *
      generalize E.epoch = ee at *
      clear HEB
      clear HI HPA HPB HWE HR0 HKK HPL6 HDL6 HQL6 HRL6 HL HWD
      generalize l.secs.length = sl1 at *
      generalize l.pend.length = sl2 at *
      generalize l.dirty.length = sl3 at *
      generalize A.secs.length = sa1 at *
      generalize A.pend.length = sa2 at *
      generalize A.dirty.length = sa3 at *
      generalize E.secs.length = se1 at *
      generalize E.pend.length = se2 at *
      generalize E.dirty.length = se3 at *
      refine wp_region_held_drew (S := fun u => Below u6.heap.size u6 u ∧ u.cell? ⟨P, 0, none⟩ = some (.slice p1 sl1 p2) ∧ u.cell? ⟨P, 1, none⟩ = some (.slice p3 sl2 p4) ∧ u.cell? ⟨P, 2, none⟩ = some (.int .i64 l.left) ∧ u.cell? ⟨P, 3, none⟩ = some (.int .i64 l.epoch) ∧ u.cell? ⟨P, 4, none⟩ = some (.int .i64 l.seq) ∧ u.cell? ⟨P, 5, none⟩ = some (.int .i64 l.used) ∧ u.cell? ⟨P, 6, none⟩ = some (.slice p5 sl3 p6) ∧ u.cell? ⟨D, 0, none⟩ = some (.slice g1 sl1 j1) ∧ u.cell? ⟨D, 1, none⟩ = some (.slice g2 sl2 j2) ∧ u.cell? ⟨D, 2, none⟩ = some (.int .i64 l.left) ∧ u.cell? ⟨D, 3, none⟩ = some (.int .i64 l.epoch) ∧ u.cell? ⟨D, 4, none⟩ = some (.int .i64 l.seq) ∧ u.cell? ⟨D, 5, none⟩ = some (.int .i64 l.used) ∧ u.cell? ⟨D, 6, none⟩ = some (.slice g3 sl3 j3) ∧ u.cell? ⟨Q, 0, none⟩ = some (.slice q1 sa1 q2) ∧ u.cell? ⟨Q, 1, none⟩ = some (.slice q3 sa2 q4) ∧ u.cell? ⟨Q, 2, none⟩ = some (.int .i64 A.left) ∧ u.cell? ⟨Q, 3, none⟩ = some (.int .i64 ea) ∧ u.cell? ⟨Q, 4, none⟩ = some (.int .i64 A.seq) ∧ u.cell? ⟨Q, 5, none⟩ = some (.int .i64 A.used) ∧ u.cell? ⟨Q, 6, none⟩ = some (.slice q5 sa3 q6) ∧ u.cell? ⟨R, 0, none⟩ = some (.slice r1 se1 r2) ∧ u.cell? ⟨R, 1, none⟩ = some (.slice r3 se2 r4) ∧ u.cell? ⟨R, 2, none⟩ = some (.int .i64 E.left) ∧ u.cell? ⟨R, 3, none⟩ = some (.int .i64 ee) ∧ u.cell? ⟨R, 4, none⟩ = some (.int .i64 E.seq) ∧ u.cell? ⟨R, 5, none⟩ = some (.int .i64 E.used) ∧ u.cell? ⟨R, 6, none⟩ = some (.slice r5 se3 r6)) (by kernel_rfl) (keepQ4 HPB6.out HD6.out HQB6.out HRB6.out (Below.refl _ _).drew) (fun hS => ?_)
      refine wpAnyH_ready (rs := [0]) (by kernel_rfl) (by simp) ?_
      refine AllReadyH.cons rfl (fun K hK => ?_) AllReadyH.nil
      go_simp
      refine hK.out _ _ hS (fun hS => ?_)
      clear hK K
      try simp only [Act.put, List.setIfInBounds_toArray, List.set_cons_zero, List.set_cons_succ]
      refine wpAnyH_ready (rs := [1]) (by kernel_rfl) (by simp) ?_
      refine AllReadyH.cons rfl (fun K hK => ?_) AllReadyH.nil
      go_simp
      refine hK.out _ _ hS (fun hS => ?_)
      clear hK K
      try simp only [Act.put, List.setIfInBounds_toArray, List.set_cons_zero, List.set_cons_succ]
      refine wpAnyH_ready (rs := [2]) (by kernel_rfl) (by simp) ?_
      refine AllReadyH.cons rfl (fun K hK => ?_) AllReadyH.nil
      go_simp
      refine hK.out _ _ hS (fun hS => ?_)
      clear hK K
      try simp only [Act.put, List.setIfInBounds_toArray, List.set_cons_zero, List.set_cons_succ]
      refine wpAnyH_ready (rs := [3]) (by kernel_rfl) (by simp) ?_
      refine AllReadyH.cons rfl (fun K hK => ?_) AllReadyH.nil
      go_simp
      refine hK.out _ _ hS (fun hS => ?_)
      clear hK K
      try simp only [Act.put, List.setIfInBounds_toArray, List.set_cons_zero, List.set_cons_succ]
      refine wpAnyH_ready (rs := [4]) (by kernel_rfl) (by simp) ?_
      refine AllReadyH.cons rfl (fun K hK => ?_) AllReadyH.nil
      go_simp
      refine hK.out _ _ hS (fun hS => ?_)
      clear hK K
      try simp only [Act.put, List.setIfInBounds_toArray, List.set_cons_zero, List.set_cons_succ]
      refine wpAnyH_ready (rs := [5]) (by kernel_rfl) (by simp) ?_
      refine AllReadyH.cons rfl (fun K hK => ?_) AllReadyH.nil
      go_simp
      refine hK.out _ _ hS (fun hS => ?_)
      clear hK K
      try simp only [Act.put, List.setIfInBounds_toArray, List.set_cons_zero, List.set_cons_succ]
      refine wpAnyH_ready (rs := [6]) (by kernel_rfl) (by simp) ?_
      refine AllReadyH.cons rfl (fun K hK => ?_) AllReadyH.nil
      go_simp
      refine hK.out _ _ hS (fun hS => ?_)
      clear hK K
      try simp only [Act.put, List.setIfInBounds_toArray, List.set_cons_zero, List.set_cons_succ]
      refine wpAnyH_ready (rs := [7]) (by kernel_rfl) (by simp) ?_
      refine AllReadyH.cons rfl (fun K hK => ?_) AllReadyH.nil
      go_simp
      refine hK.out _ _ hS (fun hS => ?_)
      clear hK K
      try simp only [Act.put, List.setIfInBounds_toArray, List.set_cons_zero, List.set_cons_succ]
      refine wpAnyH_ready (rs := [8]) (by kernel_rfl) (by simp) ?_
      refine AllReadyH.cons rfl (fun K hK => ?_) AllReadyH.nil
      go_simp
      refine hK.out _ _ hS (fun hS => ?_)
      clear hK K
      try simp only [Act.put, List.setIfInBounds_toArray, List.set_cons_zero, List.set_cons_succ]
      refine wpAnyH_ready (rs := [9]) (by kernel_rfl) (by simp) ?_
      refine AllReadyH.cons rfl (fun K hK => ?_) AllReadyH.nil
      go_simp
      refine hK.out _ _ hS (fun hS => ?_)
      clear hK K
      try simp only [Act.put, List.setIfInBounds_toArray, List.set_cons_zero, List.set_cons_succ]
      refine wpAnyH_ready (rs := [10]) (by kernel_rfl) (by simp) ?_
      refine AllReadyH.cons rfl (fun K hK => ?_) AllReadyH.nil
      go_simp
      refine hK.out _ _ hS (fun hS => ?_)
      clear hK K
      try simp only [Act.put, List.setIfInBounds_toArray, List.set_cons_zero, List.set_cons_succ]
      refine wpAnyH_take (i := 11) (v := (.agg #[.slice p1 sl1 p2, .slice p3 sl2 p4, .int .i64 l.left, .int .i64 l.epoch, .int .i64 l.seq, .int .i64 l.used, .slice p5 sl3 p6])) rfl (by kernel_rfl) (by kernel_rfl) (by kernel_rfl) (fun _ _ _ h => h) (Or.inl ⟨by rfl, fun w hSw => ?_⟩) (by assumption) ?_
      · obtain ⟨_, s0, s1, s2, s3, s4, s5, s6, s7, s8, s9, s10, s11, s12, s13, s14, s15, s16, s17, s18, s19, s20, s21, s22, s23, s24, s25, s26, s27⟩ := hSw
        go_simp
      try simp only [Act.put, List.setIfInBounds_toArray, List.set_cons_zero, List.set_cons_succ]
      refine wpAnyH_take (i := 12) (v := (.agg #[.slice g1 sl1 j1, .slice g2 sl2 j2, .int .i64 l.left, .int .i64 l.epoch, .int .i64 l.seq, .int .i64 l.used, .slice g3 sl3 j3])) rfl (by kernel_rfl) (by kernel_rfl) (by kernel_rfl) (fun _ _ _ h => h) (Or.inl ⟨by rfl, fun w hSw => ?_⟩) (by assumption) ?_
      · obtain ⟨_, s0, s1, s2, s3, s4, s5, s6, s7, s8, s9, s10, s11, s12, s13, s14, s15, s16, s17, s18, s19, s20, s21, s22, s23, s24, s25, s26, s27⟩ := hSw
        go_simp
      try simp only [Act.put, List.setIfInBounds_toArray, List.set_cons_zero, List.set_cons_succ]
      refine wpAnyH_ready (rs := [13]) (by kernel_rfl) (by simp) ?_
      refine AllReadyH.cons rfl (fun K hK => ?_) AllReadyH.nil
      go_simp
      refine (HLK.out _ _ hS).mono ?_
      rintro e v1 ⟨rfl, hb⟩
      have hc := keepC hS hb
      refine hK.out _ _ (keepQ4 HPB6.out HD6.out HQB6.out HRB6.out hc) (fun hS => ?_)
      clear hK K
      try simp only [Act.put, List.setIfInBounds_toArray, List.set_cons_zero, List.set_cons_succ]
      refine wpAnyH_ready (rs := [14]) (by kernel_rfl) (by simp) ?_
      refine AllReadyH.cons rfl (fun K hK => ?_) AllReadyH.nil
      go_simp
      refine hK.out _ _ hS (fun hS => ?_)
      clear hK K
      try simp only [Act.put, List.setIfInBounds_toArray, List.set_cons_zero, List.set_cons_succ]
      refine wpAnyH_ready (rs := [15]) (by kernel_rfl) (by simp) ?_
      refine AllReadyH.cons rfl (fun K hK => ?_) AllReadyH.nil
      go_simp
      refine hK.out _ _ hS (fun hS => ?_)
      clear hK K
      try simp only [Act.put, List.setIfInBounds_toArray, List.set_cons_zero, List.set_cons_succ]
      refine wpAnyH_take (i := 16) (v := (.pointer (some ⟨R, 3, none⟩))) rfl (by kernel_rfl) (by kernel_rfl) (by kernel_rfl) (fun _ _ _ h => h) (Or.inl ⟨by rfl, fun w hSw => ?_⟩) (by assumption) ?_
      · clear hSw; go_simp
      try simp only [Act.put, List.setIfInBounds_toArray, List.set_cons_zero, List.set_cons_succ]
      refine wpAnyH_take (i := 17) (v := (.int .i64 ee)) rfl (by kernel_rfl) (by kernel_rfl) (by kernel_rfl) (fun _ _ _ h => h) (Or.inl ⟨by rfl, fun w hSw => ?_⟩) (by assumption) ?_
      · obtain ⟨_, s0, s1, s2, s3, s4, s5, s6, s7, s8, s9, s10, s11, s12, s13, s14, s15, s16, s17, s18, s19, s20, s21, s22, s23, s24, s25, s26, s27⟩ := hSw
        go_simp
      try simp only [Act.put, List.setIfInBounds_toArray, List.set_cons_zero, List.set_cons_succ]
      refine wpAnyH_take (i := 18) (v := (.pointer (some ⟨Q, 3, none⟩))) rfl (by kernel_rfl) (by kernel_rfl) (by kernel_rfl) (fun _ _ _ h => h) (Or.inl ⟨by rfl, fun w hSw => ?_⟩) (by assumption) ?_
      · clear hSw; go_simp
      try simp only [Act.put, List.setIfInBounds_toArray, List.set_cons_zero, List.set_cons_succ]
      refine wpAnyH_take (i := 19) (v := (.int .i64 ea)) rfl (by kernel_rfl) (by kernel_rfl) (by kernel_rfl) (fun _ _ _ h => h) (Or.inl ⟨by rfl, fun w hSw => ?_⟩) (by assumption) ?_
      · obtain ⟨_, s0, s1, s2, s3, s4, s5, s6, s7, s8, s9, s10, s11, s12, s13, s14, s15, s16, s17, s18, s19, s20, s21, s22, s23, s24, s25, s26, s27⟩ := hSw
        go_simp
      try simp only [Act.put, List.setIfInBounds_toArray, List.set_cons_zero, List.set_cons_succ]
      refine wpAnyH_ready (rs := [20]) (by kernel_rfl) (by simp) ?_
      refine AllReadyH.cons rfl (fun K hK => ?_) AllReadyH.nil
      go_simp
      refine hK.out _ _ hS (fun hS => ?_)
      clear hK K
      try simp only [Act.put, List.setIfInBounds_toArray, List.set_cons_zero, List.set_cons_succ]
      refine wpAnyH_ready (rs := [21]) (by kernel_rfl) (by simp) ?_
      refine AllReadyH.cons rfl (fun K hK => ?_) AllReadyH.nil
      go_simp
      refine hK.out _ _ hS (fun hS => ?_)
      clear hK K
      try simp only [Act.put, List.setIfInBounds_toArray, List.set_cons_zero, List.set_cons_succ]
      refine wpAnyH_ready (rs := [22]) (by kernel_rfl) (by simp) ?_
      refine AllReadyH.cons rfl (fun K hK => ?_) AllReadyH.nil
      go_simp
      refine hK.out _ _ hS (fun hS => ?_)
      clear hK K
      try simp only [Act.put, List.setIfInBounds_toArray, List.set_cons_zero, List.set_cons_succ]
      refine wpAnyH_ready (rs := [23]) (by kernel_rfl) (by simp) ?_
      refine AllReadyH.cons rfl (fun K hK => ?_) AllReadyH.nil
      go_simp
      refine hK.out _ _ hS (fun hS => ?_)
      clear hK K
      try simp only [Act.put, List.setIfInBounds_toArray, List.set_cons_zero, List.set_cons_succ]
      refine wpAnyH_take (i := 24) (v := (.agg #[.slice q1 sa1 q2, .slice q3 sa2 q4, .int .i64 A.left, .int .i64 ea, .int .i64 A.seq, .int .i64 A.used, .slice q5 sa3 q6])) rfl (by kernel_rfl) (by kernel_rfl) (by kernel_rfl) (fun _ _ _ h => h) (Or.inl ⟨by rfl, fun w hSw => ?_⟩) (by assumption) ?_
      · obtain ⟨_, s0, s1, s2, s3, s4, s5, s6, s7, s8, s9, s10, s11, s12, s13, s14, s15, s16, s17, s18, s19, s20, s21, s22, s23, s24, s25, s26, s27⟩ := hSw
        go_simp
      try simp only [Act.put, List.setIfInBounds_toArray, List.set_cons_zero, List.set_cons_succ]
      refine wpAnyH_take (i := 26) (v := (.agg #[.slice g1 sl1 j1, .slice g2 sl2 j2, .int .i64 l.left, .int .i64 l.epoch, .int .i64 l.seq, .int .i64 l.used, .slice g3 sl3 j3])) rfl (by kernel_rfl) (by kernel_rfl) (by kernel_rfl) (fun _ _ _ h => h) (Or.inl ⟨by rfl, fun w hSw => ?_⟩) (by assumption) ?_
      · obtain ⟨_, s0, s1, s2, s3, s4, s5, s6, s7, s8, s9, s10, s11, s12, s13, s14, s15, s16, s17, s18, s19, s20, s21, s22, s23, s24, s25, s26, s27⟩ := hSw
        go_simp
      try simp only [Act.put, List.setIfInBounds_toArray, List.set_cons_zero, List.set_cons_succ]
      refine wpAnyH_ready (rs := [25]) (by kernel_rfl) (by simp) ?_
      refine AllReadyH.cons rfl (fun K hK => ?_) AllReadyH.nil
      go_simp
      refine (HHA.out _ _ hS).mono ?_
      rintro e va1 ⟨va, rfl, hown, hb⟩
      obtain ⟨za1, cza1, rfl, _⟩ := own_form1 hown
      have hc := keepC hS hb
      have hsa := own_strs hown HSZ.out
      refine hK.out _ _ (keepQ4 HPB6.out HD6.out HQB6.out HRB6.out hc) (fun hS => ?_)
      clear hK K
      try simp only [Act.put, List.setIfInBounds_toArray, List.set_cons_zero, List.set_cons_succ]
      refine wpAnyH_ready (rs := [27]) (by kernel_rfl) (by simp) ?_
      refine AllReadyH.cons rfl (fun K hK => ?_) AllReadyH.nil
      go_simp
      refine (HHL.out _ _ hS).mono ?_
      rintro e vb1 ⟨va, rfl, hown, hb⟩
      obtain ⟨zl1, czl1, rfl, _⟩ := own_form1 hown
      have hc := keepC hS hb
      have hsa := hsa.below hb
      have hsl := own_strs hown HSZ.out
      refine hK.out _ _ (keepQ4 HPB6.out HD6.out HQB6.out HRB6.out hc) (fun hS => ?_)
      clear hK K
      try simp only [Act.put, List.setIfInBounds_toArray, List.set_cons_zero, List.set_cons_succ]
      refine wpAnyH_ready (rs := [28]) (by kernel_rfl) (by simp) ?_
      refine AllReadyH.cons rfl (fun K hK => ?_) AllReadyH.nil
      go_simp
      refine (HSM.out _ _ _ hsa hsl).mono ?_
      rintro e vc1 ⟨rfl, hb⟩
      have hc := keepC hS hb
      refine hK.out _ _ (keepQ4 HPB6.out HD6.out HQB6.out HRB6.out hc) (fun hS => ?_)
      clear hK K
      try simp only [Act.put, List.setIfInBounds_toArray, List.set_cons_zero, List.set_cons_succ]
      refine wpAnyH_ready (rs := [29]) (by kernel_rfl) (by simp) ?_
      refine AllReadyH.cons rfl (fun K hK => ?_) AllReadyH.nil
      go_simp
      refine hK.out _ _ hS (fun hS => ?_)
      clear hK K
      try simp only [Act.put, List.setIfInBounds_toArray, List.set_cons_zero, List.set_cons_succ]
      refine wpAnyH_ready (rs := [30]) (by kernel_rfl) (by simp) ?_
      refine AllReadyH.cons rfl (fun K hK => ?_) AllReadyH.nil
      go_simp
      refine hK.out _ _ hS (fun hS => ?_)
      clear hK K
      try simp only [Act.put, List.setIfInBounds_toArray, List.set_cons_zero, List.set_cons_succ]
      refine wpAnyH_take (i := 31) (v := (.agg #[.slice r1 se1 r2, .slice r3 se2 r4, .int .i64 E.left, .int .i64 ee, .int .i64 E.seq, .int .i64 E.used, .slice r5 se3 r6])) rfl (by kernel_rfl) (by kernel_rfl) (by kernel_rfl) (fun _ _ _ h => h) (Or.inl ⟨by rfl, fun w hSw => ?_⟩) (by assumption) ?_
      · obtain ⟨_, s0, s1, s2, s3, s4, s5, s6, s7, s8, s9, s10, s11, s12, s13, s14, s15, s16, s17, s18, s19, s20, s21, s22, s23, s24, s25, s26, s27⟩ := hSw
        go_simp
      try simp only [Act.put, List.setIfInBounds_toArray, List.set_cons_zero, List.set_cons_succ]
      refine wpAnyH_take (i := 33) (v := (.agg #[.slice g1 sl1 j1, .slice g2 sl2 j2, .int .i64 l.left, .int .i64 l.epoch, .int .i64 l.seq, .int .i64 l.used, .slice g3 sl3 j3])) rfl (by kernel_rfl) (by kernel_rfl) (by kernel_rfl) (fun _ _ _ h => h) (Or.inl ⟨by rfl, fun w hSw => ?_⟩) (by assumption) ?_
      · obtain ⟨_, s0, s1, s2, s3, s4, s5, s6, s7, s8, s9, s10, s11, s12, s13, s14, s15, s16, s17, s18, s19, s20, s21, s22, s23, s24, s25, s26, s27⟩ := hSw
        go_simp
      try simp only [Act.put, List.setIfInBounds_toArray, List.set_cons_zero, List.set_cons_succ]
      refine wpAnyH_ready (rs := [32]) (by kernel_rfl) (by simp) ?_
      refine AllReadyH.cons rfl (fun K hK => ?_) AllReadyH.nil
      go_simp
      refine (HHB.out _ _ hS).mono ?_
      rintro e va2 ⟨va, rfl, hown, hb⟩
      obtain ⟨za2, cza2, rfl, _⟩ := own_form1 hown
      have hc := keepC hS hb
      have hsa := own_strs hown HSZ.out
      refine hK.out _ _ (keepQ4 HPB6.out HD6.out HQB6.out HRB6.out hc) (fun hS => ?_)
      clear hK K
      try simp only [Act.put, List.setIfInBounds_toArray, List.set_cons_zero, List.set_cons_succ]
      refine wpAnyH_ready (rs := [34]) (by kernel_rfl) (by simp) ?_
      refine AllReadyH.cons rfl (fun K hK => ?_) AllReadyH.nil
      go_simp
      refine (HHL.out _ _ hS).mono ?_
      rintro e vb2 ⟨va, rfl, hown, hb⟩
      obtain ⟨zl2, czl2, rfl, _⟩ := own_form1 hown
      have hc := keepC hS hb
      have hsa := hsa.below hb
      have hsl := own_strs hown HSZ.out
      refine hK.out _ _ (keepQ4 HPB6.out HD6.out HQB6.out HRB6.out hc) (fun hS => ?_)
      clear hK K
      try simp only [Act.put, List.setIfInBounds_toArray, List.set_cons_zero, List.set_cons_succ]
      refine wpAnyH_ready (rs := [35]) (by kernel_rfl) (by simp) ?_
      refine AllReadyH.cons rfl (fun K hK => ?_) AllReadyH.nil
      go_simp
      refine (HSM.out _ _ _ hsa hsl).mono ?_
      rintro e vc2 ⟨rfl, hb⟩
      have hc := keepC hS hb
      refine hK.out _ _ (keepQ4 HPB6.out HD6.out HQB6.out HRB6.out hc) (fun hS => ?_)
      clear hK K
      try simp only [Act.put, List.setIfInBounds_toArray, List.set_cons_zero, List.set_cons_succ]
      refine wpAnyH_ready (rs := [36]) (by kernel_rfl) (by simp) ?_
      refine AllReadyH.cons rfl (fun K hK => ?_) AllReadyH.nil
      go_simp
      refine hK.out _ _ hS (fun hS => ?_)
      clear hK K
      try simp only [Act.put, List.setIfInBounds_toArray, List.set_cons_zero, List.set_cons_succ]
      refine wpAnyH_ready (rs := [37]) (by kernel_rfl) (by simp) ?_
      refine AllReadyH.cons rfl (fun K hK => ?_) AllReadyH.nil
      go_simp
      refine hK.out _ _ hS (fun hS => ?_)
      clear hK K
      try simp only [Act.put, List.setIfInBounds_toArray, List.set_cons_zero, List.set_cons_succ]
      refine wpAnyH_done (by kernel_rfl) ?_ _
      go_wp2_with fail
      go_ret
      exact ⟨rfl, keepE HW6.out hS⟩
end Go.Proofs.YthnmnnlbglpjaaaGreatDoor.lawWalAgain
