/- The walk of WalWhole. -/
import Derived.Test.YthnmnnlbglpjaaaGreatDoorWq3
import Derived.Deep.RegionHeld
namespace Go.Proofs.YthnmnnlbglpjaaaGreatDoor.lawWalWhole
open Go.RowKit
set_option linter.unusedVariables false
set_option linter.unusedSimpArgs false

set_option maxRecDepth 100000 in
set_option maxHeartbeats 20000000 in
theorem walk (n0 : Int) (v0 : Value) (l0 : List Actn) (w : World) (wn : (Lit.int .i64 n0).wf = true) (w0 : IsActs w v0 l0) :
    Calls Tryz.prog 6 #[.int .i64 n0, v0] w fun e w' => e = .returned (.bool true) ∧ Below w.heap.size w w' := by
  have hwn := wf_i64 wn
  obtain ⟨a, n, c, rfl, hl, hc1, hc2, _⟩ := id w0
  obtain ⟨q, hq⟩ : ∃ q, (if n0 < 64 then (64 : Int) else n0) = q := ⟨_, rfl⟩
  have hq2 : max n0 64 = q := by rw [← hq]; split <;> omega
  obtain ⟨k, hk⟩ : ∃ k : Nat, (if 100 < q then (100 : Int) else q) = k := ⟨(if 100 < q then (100 : Int) else q).toNat, by
    have : 64 ≤ q := by rw [← hq]; split <;> omega
    rw [Int.toNat_of_nonneg (by split <;> omega)]⟩
  have hk2 : min q 100 = k := by rw [← hk]; split <;> omega
  have hkk : 64 ≤ k ∧ k ≤ 100 := by
    have : 64 ≤ q := by rw [← hq]; split <;> omega
    split at hk <;> omega
  have HN := Lib.hid (wlNew k · ⟨by omega, by omega⟩)
  have hne : newE k = 0 := if_pos (by omega)
  rw [hne] at HN
  have HP0 := Lib.hid (new_play (k := k) ⟨hkk.1, by omega⟩)
  have HKK := Lib.hid hkk
  have HR0 := Lib.hid (fun x (hx : Below w.heap.size w x) => w0.below hx)
  have hnI : (n : Int) ≤ c := by omega
  have hcI : (c : Int) ≤ 9223372036854775807 := by omega
  generalize newLg k = X at *
  clear hne hwn wn w0 hl hkk
  go_enter Tryz.func6, Tryz.ntmps6
  go_upto_region 2 with (first | (go_at_call 18; refine (HN.out _).mono ?_; rintro e u1 ⟨vx, rfl, hlx, hb1⟩; obtain ⟨y1, y2, y3, y4, y5, y6, rfl, _⟩ := id hlx.form))
  obtain ⟨u2, D, hU, hD, hn, hb2, hal, hwD, hz2⟩ := step_alloc hb1 (.cells #[.slice y1 X.secs.length y2, .slice y3 X.pend.length y4, .int .i64 X.left, .int .i64 X.epoch, .int .i64 X.seq, .int .i64 X.used, .slice y5 X.dirty.length y6] 29)
  rw [hU]
  (try rw [hD])
  have HLB := Lib.hid ((hlx.below hal).box hn); have HB2 := Lib.hid hb2; have HWD := Lib.hid hwD
  clear hU hD hn hb2 hal hwD hz2 hb1 hlx HN
  go_upto_region 5 with (first | (go_at_call 14; refine (wlAlive _).mono ?_; rintro e u3 ⟨rfl, hb3⟩))
  have HLB3 := Lib.hid (HLB.out.below hb3); have HB3 := Lib.hid (HB2.out.trans (hb3.mono HB2.out.size))
  clear HLB HB2 hb3
  go_loopw [33] (fun z wr => ∃ (i : Nat) (l : Lg) (T : Nat → ByteArray), i ≤ n ∧ z = .int .i64 i ∧ Hid (LogBox wr D l) ∧ Hid (InPlay l k T (1 + 4 * min i 12)) ∧ Hid (Below w.heap.size w wr)) (fun z _ => n - (intOf z).toNat)
  case atStart => exact ⟨0, X, _, by omega, rfl, HLB3, HP0, HB3⟩
  case round =>
    obtain ⟨i, l, T, hi, rfl, HL, HI, HW⟩ := hrel
    by_cases hlt : i < n
    rotate_left
    · obtain rfl : i = n := by omega
      have hnl : ¬ (i : Int) < i := by omega
      go_wp2_with fail
      go_ret
      exact ⟨rfl, HW.out⟩
    have hltI : (i : Int) < n := by omega
    obtain ⟨b, off, a', m, c', k', rfl, hbl, ⟨hxl, hxa⟩, p0, p1, p2, p3, p4, hws, hbk, hm, hmc, hcc⟩ := (HR0.out wr HW.out).get i hlt
    obtain ⟨ka, kc, rfl, hk1', hk2'⟩ := hbk.form'
    obtain ⟨x, hx⟩ : ∃ x, l0.getD i actZ = x := ⟨_, rfl⟩
    rw [hx] at hxl hxa p1 p2 p3 hws hbk hm p4 hk1'
    have HWS := Lib.hid hws; have HBK := Lib.hid hbk; have HXL := Lib.hid hxl; have HXA := Lib.hid hxa
    obtain ⟨ck, hck⟩ : ∃ ck, x.check = ck := ⟨_, rfl⟩
    obtain ⟨xl, hxl2⟩ : ∃ xl, x.left = xl := ⟨_, rfl⟩
    obtain ⟨xa, hxa2⟩ : ∃ xa, x.again = xa := ⟨_, rfl⟩
    obtain ⟨kn, hkn⟩ : ∃ kn, x.keep.length = kn := ⟨_, rfl⟩
    rw [hck] at p1
    rw [hxl2] at p2
    rw [hxa2] at p3
    rw [hkn] at p4 HBK hk1'
    have HCK := Lib.hid hck; have HXL2 := Lib.hid hxl2; have HXA2 := Lib.hid hxa2
    clear hx hxl hxa hws hbk hm hck hxl2 hxa2 hkn
    have hmI : (m : Int) ≤ c' := by omega
    have hcI' : (c' : Int) ≤ 9223372036854775807 := by omega
    have hkI : (kn : Int) ≤ 9223372036854775807 := by omega
    go_upto_region 7 with fail
    obtain ⟨u6, G, hU, hG, hn, hbw, hal, hwG, hz6⟩ := step_alloc HW.out (.cells #[.slice a' m c', .bool ck, .int .i64 xl, .int .i64 xa, .slice ka kn kc] 54)
    rw [hU]
    (try rw [hG])
    have HG6 := Lib.hid hn; have HW6 := Lib.hid hbw; have HL6 := Lib.hid (HL.out.below hal); have HWS6 := Lib.hid (HWS.out.below hal); have HBK6 := Lib.hid (IsBools.below HBK.out hal)
    have HDG := Lib.hid (show D < G by rw [← hG]; exact HL.out.lt)
    have HWG := Lib.hid hwG
    clear hU hG hn hbw hal hwG hz6 HL HWS HBK HW p0 p1 p2 p3 p4 hbl
    by_cases h12 : i < 12
    rotate_left
    · have h12I : ¬ (i : Int) < 12 := by omega
      have h12J : (12 : Int) ≤ i := by omega
      go_wp2_with fail
      go_ret
      exact ⟨rfl, HW6.out⟩
    have h12I : (i : Int) < 12 := by omega
    have h12J : ¬ (12 : Int) ≤ i := by omega
    have HIE : Hid (InPlay l k T (1 + 4 * (i : Int))) := Lib.hid (HI.out.mono (by omega))
    have HI12 := Lib.hid h12
    clear HI h12
    obtain ⟨g1, e1, g2, e2, g3, e3, hgD, hgL⟩ := id HL6.out
    have HGD := Lib.hid hgD; have HGL := Lib.hid hgL
    have HH := Lib.hid (refHomes _ l T k u6 hgL HIE.out.sound HIE.out.has)
    clear hgD hgL
    have q0 := below_cell (Below.refl _ u6) HGD.out 0 rfl
    have q1 := below_cell (Below.refl _ u6) HGD.out 1 rfl
    have q2 := below_cell (Below.refl _ u6) HGD.out 2 rfl
    have q3 := below_cell (Below.refl _ u6) HGD.out 3 rfl
    have q4 := below_cell (Below.refl _ u6) HGD.out 4 rfl
    have q5 := below_cell (Below.refl _ u6) HGD.out 5 rfl
    have q6 := below_cell (Below.refl _ u6) HGD.out 6 rfl
    go_upto_region 9 with (first | (go_at_call 19; refine HH.out.mono ?_; rintro e u8 ⟨vh, rfl, hown, hb8⟩; obtain ⟨zb, cb, rfl, hz1, hz2⟩ := own_form1 hown))
    have HBE := Lib.hid (own_strs hown HIE.out.sizes)
    have HG8 := Lib.hid (Below.at' hb8 HG6.out); have HD8 := Lib.hid (Below.at' hb8 HGD.out); have HGL8 := Lib.hid (HGL.out.below hb8); have HW8 := Lib.hid (HW6.out.trans (hb8.mono HW6.out.size))
    have HWS8 := Lib.hid (HWS6.out.below hb8); have HBK8 := Lib.hid (IsBools.below HBK6.out hb8)
    clear q0 q1 q2 q3 q4 q5 q6 hown hb8 hz1 hz2 HG6 HGD HGL HW6 HWS6 HBK6 HH HL6
    have HSH := Lib.hid (fun u => short5 a' m c' u hmc hcc)
    obtain ⟨m5, hm5⟩ : ∃ m5, min m 45 = m5 := ⟨_, rfl⟩
    rw [hm5] at HSH
    obtain ⟨xs, hxs⟩ : ∃ xs, x.writes.take m5 = xs := ⟨_, rfl⟩
    have HXS : Hid (IsWrts u8 (.slice a' m5 c') xs) := Lib.hid (by
      obtain ⟨a9, n9, c9, hv9, hl9, _, _, ht9⟩ := HWS8.out.take
      injection hv9 with t1 t2 t3
      subst t1 t2 t3
      rw [← hxs]
      exact ht9 _ (by omega))
    have HCM := Lib.hid (fun u (hu : Below u8.heap.size u8 u) => wlCommit _ _ l xs u (HGL8.out.below hu) (HXS.out.below hu) HIE.out.pend)
    have HCK9 := Lib.hid (fun u (hu : Below u8.heap.size u8 u) => wlCheckpoint _ l u (HGL8.out.below hu) HIE.out.pend)
    obtain ⟨d1, hd1⟩ : ∃ d1, l.secs.length = d1 := ⟨_, rfl⟩
    obtain ⟨d2, hd2⟩ : ∃ d2, l.pend.length = d2 := ⟨_, rfl⟩
    obtain ⟨d3, hd3⟩ : ∃ d3, l.dirty.length = d3 := ⟨_, rfl⟩
    have hD8 := HD8.out
    rw [hd1, hd2, hd3] at hD8
    rw [hd1, hd2, hd3] at HCM HCK9
    (try rw [hd1, hd2, hd3])
    have HD8' := Lib.hid hD8
    have HDD := Lib.hid (And.intro hd1 (And.intro hd2 hd3))
    clear hD8 hd1 hd2 hd3 hm5 hxs
    obtain ⟨M1, hM1⟩ : ∃ M, comL l xs = M := ⟨_, rfl⟩
    obtain ⟨F1, hF1⟩ : ∃ F, comE l xs = F := ⟨_, rfl⟩
    rw [hM1, hF1] at HCM
    have HMF1 := Lib.hid (And.intro hM1 hF1)
    clear hM1 hF1
    go_cut [10, 11] (fun pv fv wx => ∃ g, pv = .pointer (some ⟨g, 0, none⟩) ∧ fv = .int .i64 F1 ∧ LogBox wx g M1 ∧ u8.heap.size ≤ g ∧ Below u8.heap.size u8 wx)
    case first =>
      refine wp_region_held_drew (S := fun u => Below u8.heap.size u8 u ∧ u.cell? ⟨D, 0, none⟩ = some (.slice g1 d1 e1) ∧ u.cell? ⟨D, 1, none⟩ = some (.slice g2 d2 e2) ∧ u.cell? ⟨D, 2, none⟩ = some (.int .i64 l.left) ∧ u.cell? ⟨D, 3, none⟩ = some (.int .i64 l.epoch) ∧ u.cell? ⟨D, 4, none⟩ = some (.int .i64 l.seq) ∧ u.cell? ⟨D, 5, none⟩ = some (.int .i64 l.used) ∧ u.cell? ⟨D, 6, none⟩ = some (.slice g3 d3 e3) ∧ u.cell? ⟨G, 0, none⟩ = some (.slice a' m c')) (by kernel_rfl) (keepLA HD8'.out HG8.out (Below.refl _ _).drew) (fun hS => ?_)
      obtain ⟨Wd, hWd⟩ : ∃ Wd, u8.drew = Wd := ⟨_, rfl⟩
      rw [hWd] at hS ⊢
      clear hWd
      have hs0 := hS.1.size
      refine wpAnyH_take (i := 0) (v := (.agg #[.slice g1 d1 e1, .slice g2 d2 e2, .int .i64 l.left, .int .i64 l.epoch, .int .i64 l.seq, .int .i64 l.used, .slice g3 d3 e3])) rfl (by kernel_rfl) (by kernel_rfl) (by kernel_rfl) (fun _ _ _ h => h) (Or.inl ⟨by rfl, fun w hSw => ?_⟩) (by assumption) ?_
      · obtain ⟨_, s0, s1, s2, s3, s4, s5, s6, s7⟩ := hSw
        go_simp
      try simp only [Act.put, List.setIfInBounds_toArray, List.set_cons_zero, List.set_cons_succ]
      refine wpAnyH_take (i := 1) (v := (.pointer (some ⟨G, 0, none⟩))) rfl (by kernel_rfl) (by kernel_rfl) (by kernel_rfl) (fun _ _ _ h => h) (Or.inl ⟨by rfl, fun w hSw => ?_⟩) (by assumption) ?_
      · clear hSw; go_simp
      try simp only [Act.put, List.setIfInBounds_toArray, List.set_cons_zero, List.set_cons_succ]
      refine wpAnyH_take (i := 2) (v := (.slice a' m c')) rfl (by kernel_rfl) (by kernel_rfl) (by kernel_rfl) (fun _ _ _ h => h) (Or.inl ⟨by rfl, fun w hSw => ?_⟩) (by assumption) ?_
      · obtain ⟨_, s0, s1, s2, s3, s4, s5, s6, s7⟩ := hSw
        go_simp
      try simp only [Act.put, List.setIfInBounds_toArray, List.set_cons_zero, List.set_cons_succ]
      refine wpAnyH_ready (rs := [3, 8]) (by kernel_rfl) (by simp) ?_
      refine AllReadyH.cons rfl (fun K hK => ?_) (AllReadyH.cons rfl (fun K hK => ?_) AllReadyH.nil)
      · go_simp
        refine (HSH.out _).mono ?_
        rintro e va ⟨rfl, hb⟩
        have hc := keepC hS hb
        refine hK.out _ _ (keepLA HD8'.out HG8.out hc) (fun hS => ?_)
        clear hK K
        try simp only [Act.put, List.setIfInBounds_toArray, List.set_cons_zero, List.set_cons_succ]
        have hs1 := hS.1.size
        refine wpAnyH_ready (rs := [4, 8]) (by kernel_rfl) (by simp) ?_
        refine AllReadyH.cons rfl (fun K hK => ?_) (AllReadyH.cons rfl (fun K hK => ?_) AllReadyH.nil)
        · go_simp
          refine (HCM.out _ hS.1).mono ?_
          rintro e vb ⟨vm, rfl, hlm, hb⟩
          obtain ⟨t1, t2, t3, t4, t5, t6, rfl, _⟩ := id hlm.form
          have hc := keepC hS hb
          refine hK.out _ _ (keepLA HD8'.out HG8.out hc) (fun hS => ?_)
          clear hK K
          try simp only [Act.put, List.setIfInBounds_toArray, List.set_cons_zero, List.set_cons_succ]
          refine wpAnyH_take (i := 5) (v := (.tuple #[.agg #[.slice t1 M1.secs.length t2, .slice t3 M1.pend.length t4, .int .i64 M1.left, .int .i64 M1.epoch, .int .i64 M1.seq, .int .i64 M1.used, .slice t5 M1.dirty.length t6], .int .i64 F1])) rfl (by kernel_rfl) (by kernel_rfl) (by kernel_rfl) (fun _ _ _ h => h) (Or.inl ⟨by rfl, fun w hSw => ?_⟩) (by assumption) ?_
          · clear hSw; go_simp
          try simp only [Act.put, List.setIfInBounds_toArray, List.set_cons_zero, List.set_cons_succ]
          refine wpAnyH_take (i := 6) (v := (.agg #[.slice t1 M1.secs.length t2, .slice t3 M1.pend.length t4, .int .i64 M1.left, .int .i64 M1.epoch, .int .i64 M1.seq, .int .i64 M1.used, .slice t5 M1.dirty.length t6])) rfl (by kernel_rfl) (by kernel_rfl) (by kernel_rfl) (fun _ _ _ h => h) (Or.inl ⟨by rfl, fun w hSw => ?_⟩) (by assumption) ?_
          · clear hSw; go_simp
          try simp only [Act.put, List.setIfInBounds_toArray, List.set_cons_zero, List.set_cons_succ]
          refine wpAnyH_take (i := 7) (v := (.int .i64 F1)) rfl (by kernel_rfl) (by kernel_rfl) (by kernel_rfl) (fun _ _ _ h => h) (Or.inl ⟨by rfl, fun w hSw => ?_⟩) (by assumption) ?_
          · clear hSw; go_simp
          try simp only [Act.put, List.setIfInBounds_toArray, List.set_cons_zero, List.set_cons_succ]
          have hs2 := hS.1.size
          have hS2 := hS
          refine wpAnyH_ready (rs := [8]) (by kernel_rfl) (by simp) ?_
          refine AllReadyH.cons rfl (fun K hK => ?_) AllReadyH.nil
          go_simp
          refine hK.out _ _ (keepLA HD8'.out HG8.out (keepA hS (.cells #[.slice none 0 0, .slice none 0 0, .int .i64 0, .int .i64 0, .int .i64 0, .int .i64 0, .slice none 0 0] 29))) (fun hS => ?_)
          clear hK K
          try simp only [Act.put, List.setIfInBounds_toArray, List.set_cons_zero, List.set_cons_succ]
          refine wpAnyH_ready (rs := [9]) (by kernel_rfl) (by simp) ?_
          refine AllReadyH.cons rfl (fun K hK => ?_) AllReadyH.nil
          go_simp
          refine hK.out _ _ (keepLA HD8'.out HG8.out (keepA hS2 _)) (fun hS => ?_)
          clear hK K
          try simp only [Act.put, List.setIfInBounds_toArray, List.set_cons_zero, List.set_cons_succ]
          refine wpAnyH_ready (rs := [10]) (by kernel_rfl) (by simp) ?_
          refine AllReadyH.cons rfl (fun K hK => ?_) AllReadyH.nil
          go_simp
          refine hK.out _ _ (hS) (fun hS => ?_)
          clear hK K
          try simp only [Act.put, List.setIfInBounds_toArray, List.set_cons_zero, List.set_cons_succ]
          refine wpAnyH_done (by kernel_rfl) ?_ _
          go_wp2_with fail
          go_meet
          exact ⟨_, rfl, rfl, box_alloc hlm, hs2, hS.1⟩
        · go_simp
          refine hK.out _ _ (keepLA HD8'.out HG8.out (keepA hS (.cells #[.slice none 0 0, .slice none 0 0, .int .i64 0, .int .i64 0, .int .i64 0, .int .i64 0, .slice none 0 0] 29))) (fun hS => ?_)
          clear hK K
          try simp only [Act.put, List.setIfInBounds_toArray, List.set_cons_zero, List.set_cons_succ]
          refine wpAnyH_ready (rs := [4]) (by kernel_rfl) (by simp) ?_
          refine AllReadyH.cons rfl (fun K hK => ?_) AllReadyH.nil
          go_simp
          refine (HCM.out _ hS.1).mono ?_
          rintro e vb ⟨vm, rfl, hlm, hb⟩
          obtain ⟨t1, t2, t3, t4, t5, t6, rfl, _⟩ := id hlm.form
          have hc := keepC hS hb
          have hZ : vb.heap[va.heap.size]? = some (.cells #[.slice none 0 0, .slice none 0 0, .int .i64 0, .int .i64 0, .int .i64 0, .int .i64 0, .slice none 0 0] 29 (0, 0)) := Below.at' hb (heap_alloc_new va (.cells #[.slice none 0 0, .slice none 0 0, .int .i64 0, .int .i64 0, .int .i64 0, .int .i64 0, .slice none 0 0] 29))
          refine hK.out _ _ (keepLA HD8'.out HG8.out hc) (fun hS => ?_)
          clear hK K
          try simp only [Act.put, List.setIfInBounds_toArray, List.set_cons_zero, List.set_cons_succ]
          refine wpAnyH_take (i := 5) (v := (.tuple #[.agg #[.slice t1 M1.secs.length t2, .slice t3 M1.pend.length t4, .int .i64 M1.left, .int .i64 M1.epoch, .int .i64 M1.seq, .int .i64 M1.used, .slice t5 M1.dirty.length t6], .int .i64 F1])) rfl (by kernel_rfl) (by kernel_rfl) (by kernel_rfl) (fun _ _ _ h => h) (Or.inl ⟨by rfl, fun w hSw => ?_⟩) (by assumption) ?_
          · clear hSw; go_simp
          try simp only [Act.put, List.setIfInBounds_toArray, List.set_cons_zero, List.set_cons_succ]
          refine wpAnyH_take (i := 6) (v := (.agg #[.slice t1 M1.secs.length t2, .slice t3 M1.pend.length t4, .int .i64 M1.left, .int .i64 M1.epoch, .int .i64 M1.seq, .int .i64 M1.used, .slice t5 M1.dirty.length t6])) rfl (by kernel_rfl) (by kernel_rfl) (by kernel_rfl) (fun _ _ _ h => h) (Or.inl ⟨by rfl, fun w hSw => ?_⟩) (by assumption) ?_
          · clear hSw; go_simp
          try simp only [Act.put, List.setIfInBounds_toArray, List.set_cons_zero, List.set_cons_succ]
          refine wpAnyH_take (i := 7) (v := (.int .i64 F1)) rfl (by kernel_rfl) (by kernel_rfl) (by kernel_rfl) (fun _ _ _ h => h) (Or.inl ⟨by rfl, fun w hSw => ?_⟩) (by assumption) ?_
          · clear hSw; go_simp
          try simp only [Act.put, List.setIfInBounds_toArray, List.set_cons_zero, List.set_cons_succ]
          have z0 := below_cell (Below.refl _ vb) hZ 0 rfl; have z1 := below_cell (Below.refl _ vb) hZ 1 rfl; have z2 := below_cell (Below.refl _ vb) hZ 2 rfl; have z3 := below_cell (Below.refl _ vb) hZ 3 rfl; have z4 := below_cell (Below.refl _ vb) hZ 4 rfl; have z5 := below_cell (Below.refl _ vb) hZ 5 rfl; have z6 := below_cell (Below.refl _ vb) hZ 6 rfl
          have zf0 := block_frozen hZ 0; have zf1 := block_frozen hZ 1; have zf2 := block_frozen hZ 2; have zf3 := block_frozen hZ 3; have zf4 := block_frozen hZ 4; have zf5 := block_frozen hZ 5; have zf6 := block_frozen hZ 6
          refine wpAnyH_ready (rs := [9]) (by kernel_rfl) (by simp) ?_
          refine AllReadyH.cons rfl (fun K hK => ?_) AllReadyH.nil
          go_simp
          refine hK.out _ _ (keepLA HD8'.out HG8.out (keep7 hS (hs1) _ _ _ _ _ _ _)) (fun hS => ?_)
          clear hK K
          try simp only [Act.put, List.setIfInBounds_toArray, List.set_cons_zero, List.set_cons_succ]
          refine wpAnyH_ready (rs := [10]) (by kernel_rfl) (by simp) ?_
          refine AllReadyH.cons rfl (fun K hK => ?_) AllReadyH.nil
          go_simp
          refine hK.out _ _ (hS) (fun hS => ?_)
          clear hK K
          try simp only [Act.put, List.setIfInBounds_toArray, List.set_cons_zero, List.set_cons_succ]
          refine wpAnyH_done (by kernel_rfl) ?_ _
          go_wp2_with fail
          go_meet
          exact ⟨_, rfl, rfl, box_set7 hZ hlm, hs1, hS.1⟩
      · go_simp
        refine hK.out _ _ (keepLA HD8'.out HG8.out (keepA hS (.cells #[.slice none 0 0, .slice none 0 0, .int .i64 0, .int .i64 0, .int .i64 0, .int .i64 0, .slice none 0 0] 29))) (fun hS => ?_)
        clear hK K
        try simp only [Act.put, List.setIfInBounds_toArray, List.set_cons_zero, List.set_cons_succ]
        refine wpAnyH_ready (rs := [3]) (by kernel_rfl) (by simp) ?_
        refine AllReadyH.cons rfl (fun K hK => ?_) AllReadyH.nil
        go_simp
        refine (HSH.out _).mono ?_
        rintro e va ⟨rfl, hb⟩
        have hc := keepC hS hb
        have hY : va.heap[Wd.heap.size]? = some (.cells #[.slice none 0 0, .slice none 0 0, .int .i64 0, .int .i64 0, .int .i64 0, .int .i64 0, .slice none 0 0] 29 (0, 0)) := Below.at' hb (heap_alloc_new Wd (.cells #[.slice none 0 0, .slice none 0 0, .int .i64 0, .int .i64 0, .int .i64 0, .int .i64 0, .slice none 0 0] 29))
        refine hK.out _ _ (keepLA HD8'.out HG8.out hc) (fun hS => ?_)
        clear hK K
        try simp only [Act.put, List.setIfInBounds_toArray, List.set_cons_zero, List.set_cons_succ]
        refine wpAnyH_ready (rs := [4]) (by kernel_rfl) (by simp) ?_
        refine AllReadyH.cons rfl (fun K hK => ?_) AllReadyH.nil
        go_simp
        refine (HCM.out _ hS.1).mono ?_
        rintro e vb ⟨vm, rfl, hlm, hb⟩
        obtain ⟨t1, t2, t3, t4, t5, t6, rfl, _⟩ := id hlm.form
        have hc := keepC hS hb
        have hZ := Below.at' hb hY
        refine hK.out _ _ (keepLA HD8'.out HG8.out hc) (fun hS => ?_)
        clear hK K
        try simp only [Act.put, List.setIfInBounds_toArray, List.set_cons_zero, List.set_cons_succ]
        refine wpAnyH_take (i := 5) (v := (.tuple #[.agg #[.slice t1 M1.secs.length t2, .slice t3 M1.pend.length t4, .int .i64 M1.left, .int .i64 M1.epoch, .int .i64 M1.seq, .int .i64 M1.used, .slice t5 M1.dirty.length t6], .int .i64 F1])) rfl (by kernel_rfl) (by kernel_rfl) (by kernel_rfl) (fun _ _ _ h => h) (Or.inl ⟨by rfl, fun w hSw => ?_⟩) (by assumption) ?_
        · clear hSw; go_simp
        try simp only [Act.put, List.setIfInBounds_toArray, List.set_cons_zero, List.set_cons_succ]
        refine wpAnyH_take (i := 6) (v := (.agg #[.slice t1 M1.secs.length t2, .slice t3 M1.pend.length t4, .int .i64 M1.left, .int .i64 M1.epoch, .int .i64 M1.seq, .int .i64 M1.used, .slice t5 M1.dirty.length t6])) rfl (by kernel_rfl) (by kernel_rfl) (by kernel_rfl) (fun _ _ _ h => h) (Or.inl ⟨by rfl, fun w hSw => ?_⟩) (by assumption) ?_
        · clear hSw; go_simp
        try simp only [Act.put, List.setIfInBounds_toArray, List.set_cons_zero, List.set_cons_succ]
        refine wpAnyH_take (i := 7) (v := (.int .i64 F1)) rfl (by kernel_rfl) (by kernel_rfl) (by kernel_rfl) (fun _ _ _ h => h) (Or.inl ⟨by rfl, fun w hSw => ?_⟩) (by assumption) ?_
        · clear hSw; go_simp
        try simp only [Act.put, List.setIfInBounds_toArray, List.set_cons_zero, List.set_cons_succ]
        have z0 := below_cell (Below.refl _ vb) hZ 0 rfl; have z1 := below_cell (Below.refl _ vb) hZ 1 rfl; have z2 := below_cell (Below.refl _ vb) hZ 2 rfl; have z3 := below_cell (Below.refl _ vb) hZ 3 rfl; have z4 := below_cell (Below.refl _ vb) hZ 4 rfl; have z5 := below_cell (Below.refl _ vb) hZ 5 rfl; have z6 := below_cell (Below.refl _ vb) hZ 6 rfl
        have zf0 := block_frozen hZ 0; have zf1 := block_frozen hZ 1; have zf2 := block_frozen hZ 2; have zf3 := block_frozen hZ 3; have zf4 := block_frozen hZ 4; have zf5 := block_frozen hZ 5; have zf6 := block_frozen hZ 6
        refine wpAnyH_ready (rs := [9]) (by kernel_rfl) (by simp) ?_
        refine AllReadyH.cons rfl (fun K hK => ?_) AllReadyH.nil
        go_simp
        refine hK.out _ _ (keepLA HD8'.out HG8.out (keep7 hS (hs0) _ _ _ _ _ _ _)) (fun hS => ?_)
        clear hK K
        try simp only [Act.put, List.setIfInBounds_toArray, List.set_cons_zero, List.set_cons_succ]
        refine wpAnyH_ready (rs := [10]) (by kernel_rfl) (by simp) ?_
        refine AllReadyH.cons rfl (fun K hK => ?_) AllReadyH.nil
        go_simp
        refine hK.out _ _ (hS) (fun hS => ?_)
        clear hK K
        try simp only [Act.put, List.setIfInBounds_toArray, List.set_cons_zero, List.set_cons_succ]
        refine wpAnyH_done (by kernel_rfl) ?_ _
        go_wp2_with fail
        go_meet
        exact ⟨_, rfl, rfl, box_set7 hZ hlm, hs0, hS.1⟩
    case rest =>
    obtain ⟨P, rfl, rfl, hMB, hPs, hW9⟩ := hcut
    generalize wc = u9 at *
    have HM9 := Lib.hid hMB; have HPS := Lib.hid hPs; have HW9 := Lib.hid hW9
    clear hMB hPs hW9
    have HMF2 : Hid (comL l xs = M1 ∧ comE l xs = F1) := HMF1
    have hg1 := below_cell HW9.out HG8.out 1 rfl
    go_upto_if 51 with fail
    clear hg1
    obtain ⟨M2, hM2⟩ : ∃ M, resL ck l xs = M := ⟨_, rfl⟩
    obtain ⟨F2, hF2⟩ : ∃ F, resE ck l xs = F := ⟨_, rfl⟩
    have HR2 := Lib.hid (And.intro hM2 hF2)
    clear hM2 hF2
    go_cut [11] (fun fv wx => fv = .int .i64 F2 ∧ LogBox wx P M2 ∧ Below u8.heap.size u8 wx)
    case first =>
      cases ck with
      | true =>
        have eM : ckL l = M2 := HR2.out.1
        have eF : ckE l = F2 := HR2.out.2
        have hck := HCK9.out u9 HW9.out
        rw [eM, eF] at hck
        have HC := Lib.hid hck
        have hD9 := Below.at' HW9.out HD8'.out
        obtain ⟨r1, r2, r3, r4, r5, r6, hst0, _⟩ := id HM9.out
        have q0 := below_cell (Below.refl _ u9) hD9 0 rfl
        have q1 := below_cell (Below.refl _ u9) hD9 1 rfl
        have q2 := below_cell (Below.refl _ u9) hD9 2 rfl
        have q3 := below_cell (Below.refl _ u9) hD9 3 rfl
        have q4 := below_cell (Below.refl _ u9) hD9 4 rfl
        have q5 := below_cell (Below.refl _ u9) hD9 5 rfl
        have q6 := below_cell (Below.refl _ u9) hD9 6 rfl
        clear hck eM eF hD9
        go_wp2_with (first
          | (go_at_call 12; refine HC.out.mono ?_; rintro e u10 ⟨vm, rfl, hlm, hb10⟩; obtain ⟨t1, t2, t3, t4, t5, t6, rfl, _⟩ := id hlm.form; have hst := Below.at' hb10 hst0)
          | (refine wpList_store_row rfl 29 _ _ rfl P #[.slice t1 M2.secs.length t2, .slice t3 M2.pend.length t4, .int .i64 M2.left, .int .i64 M2.epoch, .int .i64 M2.seq, .int .i64 M2.used, .slice t5 M2.dirty.length t6] rfl rfl 29 _ hst (by kernel_rfl) rfl (by simp [Value.oneCell']) ?_))
        go_meet
        exact ⟨rfl, (HM9.out.below hb10).set hlm, below_setRow (HW9.out.trans (hb10.mono HW9.out.size)) HPS.out _⟩
      | false =>
        have eM : comL l xs = M2 := HR2.out.1
        have eF : comE l xs = F2 := HR2.out.2
        have e1 := HMF2.out
        rw [eM, eF] at e1
        obtain ⟨rfl, rfl⟩ := e1
        clear eM eF
        go_wp2_with fail
        go_meet
        exact ⟨rfl, HM9.out, HW9.out⟩
    case rest =>
    obtain ⟨rfl, hM10, hW10⟩ := hcut
    generalize wc = u10 at *
    have HM10 := Lib.hid hM10; have HW10 := Lib.hid hW10
    clear hM10 hW10 HM9 HW9 HMF1 HMF2
    by_cases hF : F2 = 0
    rotate_left
    · have hFb : (F2 != 0) = true := by simpa using hF
      have HLx : Hid (LogBox u10 D l) := Lib.hid (by
        obtain ⟨h1, h2, h3⟩ := HDD.out
        have := HD8.out
        exact ⟨_, _, _, _, _, _, Below.at' HW10.out this, HGL8.out.below HW10.out⟩)
      have HWx := Lib.hid (HW8.out.trans (HW10.out.mono HW8.out.size))
      go_wp2_with fail
      go_roundw
      case rel => exact ⟨i + 1, l, T, by omega, by go_num, HLx, Lib.hid (HIE.out.mono (by have := HI12.out; omega)), HWx⟩
      case measure => simp [intOf]; omega
    obtain ⟨T', hGo⟩ := act_go HIE.out (by have := HI12.out; omega) ck xs (actL xl) (by rw [HR2.out.2]; exact hF)
    obtain ⟨ga, gc, gk, gd, gk'⟩ := hGo
    obtain ⟨M3, hM3⟩ : ∃ M, resL ck (l.pow (actL xl)) xs = M := ⟨_, rfl⟩
    obtain ⟨F3, hF3⟩ : ∃ F, resE ck (l.pow (actL xl)) xs = F := ⟨_, rfl⟩
    rw [HR2.out.1] at ga
    rw [hF3] at gc
    rw [hM3] at gk
    rw [hM3, hF3] at gd gk'
    have HGA := Lib.hid ga; have HGC := Lib.hid gc; have HGK := Lib.hid gk; have HGD' := Lib.hid gd; have HGK' := Lib.hid gk'; have HR3 := Lib.hid (And.intro hM3 hF3)
    subst hF
    clear ga gc gk gd gk' hM3 hF3 HR2 HCM HCK9
    obtain ⟨r1, r2, r3, r4, r5, r6, hP7, hPL⟩ := id HM10.out
    have HHW := Lib.hid (refHomes _ M2 T' k u10 hPL HGA.out.sound HGA.out.has)
    have v0 := below_cell (Below.refl _ u10) hP7 0 rfl
    have v1 := below_cell (Below.refl _ u10) hP7 1 rfl
    have v2 := below_cell (Below.refl _ u10) hP7 2 rfl
    have v3 := below_cell (Below.refl _ u10) hP7 3 rfl
    have v4 := below_cell (Below.refl _ u10) hP7 4 rfl
    have v5 := below_cell (Below.refl _ u10) hP7 5 rfl
    have v6 := below_cell (Below.refl _ u10) hP7 6 rfl
    clear hP7 hPL
    go_upto_region 14 with (first | (go_at_call 19; refine HHW.out.mono ?_; rintro e u13 ⟨vh, rfl, hown, hb13⟩; obtain ⟨zw, cw, rfl, hz1, hz2⟩ := own_form1 hown))
    have HWA := Lib.hid (own_strs hown HGA.out.sizes)
    have HB13 := Lib.hid (HW10.out.trans (hb13.mono HW10.out.size))
    have HD13 : Hid (LogBox u13 D l) := Lib.hid ⟨_, _, _, _, _, _, Below.at' HB13.out HD8.out, HGL8.out.below HB13.out⟩
    have HG13 := Lib.hid (Below.at' HB13.out HG8.out); have HBE13 := Lib.hid (HBE.out.below HB13.out); have HXS13 := Lib.hid (HXS.out.below HB13.out); have HBK13 := Lib.hid (IsBools.below HBK8.out HB13.out); have HWS13 := Lib.hid (HWS8.out.below HB13.out); have HW13 := Lib.hid (HW8.out.trans (HB13.out.mono HW8.out.size))
    have HDLT := Lib.hid (show D < u8.heap.size from (Array.getElem?_eq_some_iff.1 HD8.out).1)
    clear v0 v1 v2 v3 v4 v5 v6 hown hb13 hz1 hz2 HHW HM10 HW10 HBE HG8 HD8 HD8' HGL8 HXS HBK8 HWS8 HW8 HPS HDD HB13
    go_upto_region 14 with fail
    obtain ⟨y1', o1, y2', o2, y3', o3, hD7, hDL⟩ := id HD13.out
    have hd2 := below_cell (Below.refl _ u13) hD7 2 rfl
    have hf2 := block_frozen hD7 2
    have hg2 := below_cell (Below.refl _ u13) HG13.out 2 rfl
    have HDp := Lib.hid (HD13.out.pow (-1) ⟨by decide, by decide⟩)
    have HHp := Lib.hid (block_set hD7 2 (.int .i64 (-1)))
    have HGp := Lib.hid ((Below.heap_setCell u13 ⟨D, 2, none⟩ (.int .i64 (-1)) G (show G ≠ D by have := HDG.out; omega)).trans HG13.out)
    clear hD7 hDL
    go_upto_region 15 with fail
    have HST14 := Lib.hid (show (u13.setCell ⟨D, 2, none⟩ (.int .i64 (-1))).heap.size = u13.heap.size ∧ (∀ b, b ≠ D → (u13.setCell ⟨D, 2, none⟩ (.int .i64 (-1))).heap[b]? = u13.heap[b]?) from ⟨by simp, fun b hb => Below.heap_setCell u13 ⟨D, 2, none⟩ (.int .i64 (-1)) b hb⟩)
    have HW14 := Lib.hid (HW13.out.setCell (p := ⟨D, 2, none⟩) HWD.out (.int .i64 (-1)))
    obtain ⟨u14, hU⟩ : ∃ u14, u13.setCell ⟨D, 2, none⟩ (.int .i64 (-1)) = u14 := ⟨_, rfl⟩
    rw [hU] at HDp HHp HGp HST14 HW14 ⊢
    clear hU hd2 hf2 hg2
    have hg2 := below_cell (Below.refl _ u14) HGp.out 2 rfl
    go_upto_if 65 with fail
    go_cut [] (fun wx => LogBox wx D (l.pow (actL xl)) ∧ wx.heap.size = u13.heap.size ∧ (∀ b, b ≠ D → wx.heap[b]? = u13.heap[b]?) ∧ Below w.heap.size w wx)
    case first =>
      by_cases hpos : 0 < xl
      · have hd2 := below_cell (Below.refl _ u14) HHp.out 2 rfl
        have hf2 := block_frozen HHp.out 2
        have hL := HDp.out.pow xl (by rw [← HXL2.out]; exact HXL.out)
        have eL : actL xl = xl := if_pos hpos
        go_wp2_with fail
        go_meet
        exact ⟨by rw [eL]; exact hL, (by simp; exact HST14.out.1), fun b hb => (Below.heap_setCell u14 ⟨D, 2, none⟩ (.int .i64 xl) b hb).trans (HST14.out.2 b hb), HW14.out.setCell (p := ⟨D, 2, none⟩) HWD.out (.int .i64 xl)⟩
      · have eL : actL xl = -1 := if_neg hpos
        go_wp2_with fail
        go_meet
        exact ⟨by rw [eL]; exact HDp.out, HST14.out.1, HST14.out.2, HW14.out⟩
    case rest =>
    obtain ⟨hDn, hs16, ho16, hW16⟩ := hcut
    generalize wc = u16 at *
    have HSs := Lib.hid (Nat.le_of_eq hs16.symm); have HOo := Lib.hid ho16
    have HG16 := Lib.hid ((ho16 G (show G ≠ D by have := HDG.out; omega)).trans HG13.out)
    have HXS16 := Lib.hid (HD13.out.wrts_stay (Nat.le_of_eq hs16.symm) ho16 HXS13.out)
    have HWS16 := Lib.hid (HD13.out.wrts_stay (Nat.le_of_eq hs16.symm) ho16 HWS13.out)
    have HBE16 := Lib.hid (HD13.out.strs_stay (Nat.le_of_eq hs16.symm) ho16 HBE13.out)
    have HWA16 := Lib.hid (HD13.out.strs_stay (Nat.le_of_eq hs16.symm) ho16 HWA.out)
    have HBK16 := Lib.hid (HD13.out.bools_stay (Nat.le_of_eq hs16.symm) ho16 HBK13.out)
    have HW16 := Lib.hid hW16
    obtain ⟨h1, i1, h2, i2, h3, i3, hD7, hDL⟩ := id hDn
    have HD16 := Lib.hid hD7; have HDL16 := Lib.hid hDL; have HDB16 := Lib.hid hDn
    have HDL16s := Lib.hid (show D < u16.heap.size from hDn.lt)
    have HCM17 := Lib.hid (fun u (hu : Below u16.heap.size u16 u) => wlCommit _ _ (l.pow (actL xl)) xs u (HDL16.out.below hu) (HXS16.out.below hu) HIE.out.pend)
    have HCK17 := Lib.hid (fun u (hu : Below u16.heap.size u16 u) => wlCheckpoint _ (l.pow (actL xl)) u (HDL16.out.below hu) HIE.out.pend)
    clear hDn hs16 ho16 hW16 hD7 hDL hg2 HDp HHp HGp HST14 HW14 HD13 HG13 HXS13 HBE13 HWA HBK13 HW13 HSs HOo u14
    have HPO := Lib.hid (show (l.pow (actL xl)).epoch = l.epoch from rfl)
    have hsound := HIE.out.sound
    have hepl := HIE.out.ep
    obtain ⟨lp, hlp⟩ : ∃ lp, l.pow (actL xl) = lp := ⟨_, rfl⟩
    rw [hlp] at HD16 HDL16 HDB16 HCM17 HCK17 HR3 HPO
    (try rw [hlp])
    clear hlp hsound hepl
    obtain ⟨d1, hd1⟩ : ∃ d1, lp.secs.length = d1 := ⟨_, rfl⟩
    obtain ⟨d2, hd2⟩ : ∃ d2, lp.pend.length = d2 := ⟨_, rfl⟩
    obtain ⟨d3, hd3⟩ : ∃ d3, lp.dirty.length = d3 := ⟨_, rfl⟩
    rw [hd1, hd2, hd3] at HD16 HCM17 HCK17
    (try rw [hd1, hd2, hd3])
    clear hd1 hd2 hd3
    obtain ⟨M5, hM5⟩ : ∃ M, comL lp xs = M := ⟨_, rfl⟩
    obtain ⟨F5, hF5⟩ : ∃ F, comE lp xs = F := ⟨_, rfl⟩
    rw [hM5, hF5] at HCM17
    have HMF5 := Lib.hid (And.intro hM5 hF5)
    clear hM5 hF5
    go_upto_region 17 with fail
    go_cut [13, 14] (fun pv fv wx => ∃ g, pv = .pointer (some ⟨g, 0, none⟩) ∧ fv = .int .i64 F5 ∧ LogBox wx g M5 ∧ u16.heap.size ≤ g ∧ Below u16.heap.size u16 wx)
    case first =>
      refine wp_region_held_drew (S := fun u => Below u16.heap.size u16 u ∧ u.cell? ⟨D, 0, none⟩ = some (.slice h1 d1 i1) ∧ u.cell? ⟨D, 1, none⟩ = some (.slice h2 d2 i2) ∧ u.cell? ⟨D, 2, none⟩ = some (.int .i64 lp.left) ∧ u.cell? ⟨D, 3, none⟩ = some (.int .i64 lp.epoch) ∧ u.cell? ⟨D, 4, none⟩ = some (.int .i64 lp.seq) ∧ u.cell? ⟨D, 5, none⟩ = some (.int .i64 lp.used) ∧ u.cell? ⟨D, 6, none⟩ = some (.slice h3 d3 i3) ∧ u.cell? ⟨G, 0, none⟩ = some (.slice a' m c')) (by kernel_rfl) (keepLA HD16.out HG16.out (Below.refl _ _).drew) (fun hS => ?_)
      obtain ⟨Wd, hWd⟩ : ∃ Wd, u16.drew = Wd := ⟨_, rfl⟩
      rw [hWd] at hS ⊢
      clear hWd
      have hs0 := hS.1.size
      refine wpAnyH_take (i := 0) (v := (.agg #[.slice h1 d1 i1, .slice h2 d2 i2, .int .i64 lp.left, .int .i64 lp.epoch, .int .i64 lp.seq, .int .i64 lp.used, .slice h3 d3 i3])) rfl (by kernel_rfl) (by kernel_rfl) (by kernel_rfl) (fun _ _ _ h => h) (Or.inl ⟨by rfl, fun w hSw => ?_⟩) (by assumption) ?_
      · obtain ⟨_, s0, s1, s2, s3, s4, s5, s6, s7⟩ := hSw
        go_simp
      try simp only [Act.put, List.setIfInBounds_toArray, List.set_cons_zero, List.set_cons_succ]
      refine wpAnyH_take (i := 1) (v := (.pointer (some ⟨G, 0, none⟩))) rfl (by kernel_rfl) (by kernel_rfl) (by kernel_rfl) (fun _ _ _ h => h) (Or.inl ⟨by rfl, fun w hSw => ?_⟩) (by assumption) ?_
      · clear hSw; go_simp
      try simp only [Act.put, List.setIfInBounds_toArray, List.set_cons_zero, List.set_cons_succ]
      refine wpAnyH_take (i := 2) (v := (.slice a' m c')) rfl (by kernel_rfl) (by kernel_rfl) (by kernel_rfl) (fun _ _ _ h => h) (Or.inl ⟨by rfl, fun w hSw => ?_⟩) (by assumption) ?_
      · obtain ⟨_, s0, s1, s2, s3, s4, s5, s6, s7⟩ := hSw
        go_simp
      try simp only [Act.put, List.setIfInBounds_toArray, List.set_cons_zero, List.set_cons_succ]
      refine wpAnyH_ready (rs := [3, 8]) (by kernel_rfl) (by simp) ?_
      refine AllReadyH.cons rfl (fun K hK => ?_) (AllReadyH.cons rfl (fun K hK => ?_) AllReadyH.nil)
      · go_simp
        refine (HSH.out _).mono ?_
        rintro e va ⟨rfl, hb⟩
        have hc := keepC hS hb
        refine hK.out _ _ (keepLA HD16.out HG16.out hc) (fun hS => ?_)
        clear hK K
        try simp only [Act.put, List.setIfInBounds_toArray, List.set_cons_zero, List.set_cons_succ]
        have hs1 := hS.1.size
        refine wpAnyH_ready (rs := [4, 8]) (by kernel_rfl) (by simp) ?_
        refine AllReadyH.cons rfl (fun K hK => ?_) (AllReadyH.cons rfl (fun K hK => ?_) AllReadyH.nil)
        · go_simp
          refine (HCM17.out _ hS.1).mono ?_
          rintro e vb ⟨vm, rfl, hlm, hb⟩
          obtain ⟨t1, t2, t3, t4, t5, t6, rfl, _⟩ := id hlm.form
          have hc := keepC hS hb
          refine hK.out _ _ (keepLA HD16.out HG16.out hc) (fun hS => ?_)
          clear hK K
          try simp only [Act.put, List.setIfInBounds_toArray, List.set_cons_zero, List.set_cons_succ]
          refine wpAnyH_take (i := 5) (v := (.tuple #[.agg #[.slice t1 M5.secs.length t2, .slice t3 M5.pend.length t4, .int .i64 M5.left, .int .i64 M5.epoch, .int .i64 M5.seq, .int .i64 M5.used, .slice t5 M5.dirty.length t6], .int .i64 F5])) rfl (by kernel_rfl) (by kernel_rfl) (by kernel_rfl) (fun _ _ _ h => h) (Or.inl ⟨by rfl, fun w hSw => ?_⟩) (by assumption) ?_
          · clear hSw; go_simp
          try simp only [Act.put, List.setIfInBounds_toArray, List.set_cons_zero, List.set_cons_succ]
          refine wpAnyH_take (i := 6) (v := (.agg #[.slice t1 M5.secs.length t2, .slice t3 M5.pend.length t4, .int .i64 M5.left, .int .i64 M5.epoch, .int .i64 M5.seq, .int .i64 M5.used, .slice t5 M5.dirty.length t6])) rfl (by kernel_rfl) (by kernel_rfl) (by kernel_rfl) (fun _ _ _ h => h) (Or.inl ⟨by rfl, fun w hSw => ?_⟩) (by assumption) ?_
          · clear hSw; go_simp
          try simp only [Act.put, List.setIfInBounds_toArray, List.set_cons_zero, List.set_cons_succ]
          refine wpAnyH_take (i := 7) (v := (.int .i64 F5)) rfl (by kernel_rfl) (by kernel_rfl) (by kernel_rfl) (fun _ _ _ h => h) (Or.inl ⟨by rfl, fun w hSw => ?_⟩) (by assumption) ?_
          · clear hSw; go_simp
          try simp only [Act.put, List.setIfInBounds_toArray, List.set_cons_zero, List.set_cons_succ]
          have hs2 := hS.1.size
          have hS2 := hS
          refine wpAnyH_ready (rs := [8]) (by kernel_rfl) (by simp) ?_
          refine AllReadyH.cons rfl (fun K hK => ?_) AllReadyH.nil
          go_simp
          refine hK.out _ _ (keepLA HD16.out HG16.out (keepA hS (.cells #[.slice none 0 0, .slice none 0 0, .int .i64 0, .int .i64 0, .int .i64 0, .int .i64 0, .slice none 0 0] 29))) (fun hS => ?_)
          clear hK K
          try simp only [Act.put, List.setIfInBounds_toArray, List.set_cons_zero, List.set_cons_succ]
          refine wpAnyH_ready (rs := [9]) (by kernel_rfl) (by simp) ?_
          refine AllReadyH.cons rfl (fun K hK => ?_) AllReadyH.nil
          go_simp
          refine hK.out _ _ (keepLA HD16.out HG16.out (keepA hS2 _)) (fun hS => ?_)
          clear hK K
          try simp only [Act.put, List.setIfInBounds_toArray, List.set_cons_zero, List.set_cons_succ]
          refine wpAnyH_ready (rs := [10]) (by kernel_rfl) (by simp) ?_
          refine AllReadyH.cons rfl (fun K hK => ?_) AllReadyH.nil
          go_simp
          refine hK.out _ _ (hS) (fun hS => ?_)
          clear hK K
          try simp only [Act.put, List.setIfInBounds_toArray, List.set_cons_zero, List.set_cons_succ]
          refine wpAnyH_done (by kernel_rfl) ?_ _
          go_wp2_with fail
          go_meet
          exact ⟨_, rfl, rfl, box_alloc hlm, hs2, hS.1⟩
        · go_simp
          refine hK.out _ _ (keepLA HD16.out HG16.out (keepA hS (.cells #[.slice none 0 0, .slice none 0 0, .int .i64 0, .int .i64 0, .int .i64 0, .int .i64 0, .slice none 0 0] 29))) (fun hS => ?_)
          clear hK K
          try simp only [Act.put, List.setIfInBounds_toArray, List.set_cons_zero, List.set_cons_succ]
          refine wpAnyH_ready (rs := [4]) (by kernel_rfl) (by simp) ?_
          refine AllReadyH.cons rfl (fun K hK => ?_) AllReadyH.nil
          go_simp
          refine (HCM17.out _ hS.1).mono ?_
          rintro e vb ⟨vm, rfl, hlm, hb⟩
          obtain ⟨t1, t2, t3, t4, t5, t6, rfl, _⟩ := id hlm.form
          have hc := keepC hS hb
          have hZ : vb.heap[va.heap.size]? = some (.cells #[.slice none 0 0, .slice none 0 0, .int .i64 0, .int .i64 0, .int .i64 0, .int .i64 0, .slice none 0 0] 29 (0, 0)) := Below.at' hb (heap_alloc_new va (.cells #[.slice none 0 0, .slice none 0 0, .int .i64 0, .int .i64 0, .int .i64 0, .int .i64 0, .slice none 0 0] 29))
          refine hK.out _ _ (keepLA HD16.out HG16.out hc) (fun hS => ?_)
          clear hK K
          try simp only [Act.put, List.setIfInBounds_toArray, List.set_cons_zero, List.set_cons_succ]
          refine wpAnyH_take (i := 5) (v := (.tuple #[.agg #[.slice t1 M5.secs.length t2, .slice t3 M5.pend.length t4, .int .i64 M5.left, .int .i64 M5.epoch, .int .i64 M5.seq, .int .i64 M5.used, .slice t5 M5.dirty.length t6], .int .i64 F5])) rfl (by kernel_rfl) (by kernel_rfl) (by kernel_rfl) (fun _ _ _ h => h) (Or.inl ⟨by rfl, fun w hSw => ?_⟩) (by assumption) ?_
          · clear hSw; go_simp
          try simp only [Act.put, List.setIfInBounds_toArray, List.set_cons_zero, List.set_cons_succ]
          refine wpAnyH_take (i := 6) (v := (.agg #[.slice t1 M5.secs.length t2, .slice t3 M5.pend.length t4, .int .i64 M5.left, .int .i64 M5.epoch, .int .i64 M5.seq, .int .i64 M5.used, .slice t5 M5.dirty.length t6])) rfl (by kernel_rfl) (by kernel_rfl) (by kernel_rfl) (fun _ _ _ h => h) (Or.inl ⟨by rfl, fun w hSw => ?_⟩) (by assumption) ?_
          · clear hSw; go_simp
          try simp only [Act.put, List.setIfInBounds_toArray, List.set_cons_zero, List.set_cons_succ]
          refine wpAnyH_take (i := 7) (v := (.int .i64 F5)) rfl (by kernel_rfl) (by kernel_rfl) (by kernel_rfl) (fun _ _ _ h => h) (Or.inl ⟨by rfl, fun w hSw => ?_⟩) (by assumption) ?_
          · clear hSw; go_simp
          try simp only [Act.put, List.setIfInBounds_toArray, List.set_cons_zero, List.set_cons_succ]
          have z0 := below_cell (Below.refl _ vb) hZ 0 rfl; have z1 := below_cell (Below.refl _ vb) hZ 1 rfl; have z2 := below_cell (Below.refl _ vb) hZ 2 rfl; have z3 := below_cell (Below.refl _ vb) hZ 3 rfl; have z4 := below_cell (Below.refl _ vb) hZ 4 rfl; have z5 := below_cell (Below.refl _ vb) hZ 5 rfl; have z6 := below_cell (Below.refl _ vb) hZ 6 rfl
          have zf0 := block_frozen hZ 0; have zf1 := block_frozen hZ 1; have zf2 := block_frozen hZ 2; have zf3 := block_frozen hZ 3; have zf4 := block_frozen hZ 4; have zf5 := block_frozen hZ 5; have zf6 := block_frozen hZ 6
          refine wpAnyH_ready (rs := [9]) (by kernel_rfl) (by simp) ?_
          refine AllReadyH.cons rfl (fun K hK => ?_) AllReadyH.nil
          go_simp
          refine hK.out _ _ (keepLA HD16.out HG16.out (keep7 hS (hs1) _ _ _ _ _ _ _)) (fun hS => ?_)
          clear hK K
          try simp only [Act.put, List.setIfInBounds_toArray, List.set_cons_zero, List.set_cons_succ]
          refine wpAnyH_ready (rs := [10]) (by kernel_rfl) (by simp) ?_
          refine AllReadyH.cons rfl (fun K hK => ?_) AllReadyH.nil
          go_simp
          refine hK.out _ _ (hS) (fun hS => ?_)
          clear hK K
          try simp only [Act.put, List.setIfInBounds_toArray, List.set_cons_zero, List.set_cons_succ]
          refine wpAnyH_done (by kernel_rfl) ?_ _
          go_wp2_with fail
          go_meet
          exact ⟨_, rfl, rfl, box_set7 hZ hlm, hs1, hS.1⟩
      · go_simp
        refine hK.out _ _ (keepLA HD16.out HG16.out (keepA hS (.cells #[.slice none 0 0, .slice none 0 0, .int .i64 0, .int .i64 0, .int .i64 0, .int .i64 0, .slice none 0 0] 29))) (fun hS => ?_)
        clear hK K
        try simp only [Act.put, List.setIfInBounds_toArray, List.set_cons_zero, List.set_cons_succ]
        refine wpAnyH_ready (rs := [3]) (by kernel_rfl) (by simp) ?_
        refine AllReadyH.cons rfl (fun K hK => ?_) AllReadyH.nil
        go_simp
        refine (HSH.out _).mono ?_
        rintro e va ⟨rfl, hb⟩
        have hc := keepC hS hb
        have hY : va.heap[Wd.heap.size]? = some (.cells #[.slice none 0 0, .slice none 0 0, .int .i64 0, .int .i64 0, .int .i64 0, .int .i64 0, .slice none 0 0] 29 (0, 0)) := Below.at' hb (heap_alloc_new Wd (.cells #[.slice none 0 0, .slice none 0 0, .int .i64 0, .int .i64 0, .int .i64 0, .int .i64 0, .slice none 0 0] 29))
        refine hK.out _ _ (keepLA HD16.out HG16.out hc) (fun hS => ?_)
        clear hK K
        try simp only [Act.put, List.setIfInBounds_toArray, List.set_cons_zero, List.set_cons_succ]
        refine wpAnyH_ready (rs := [4]) (by kernel_rfl) (by simp) ?_
        refine AllReadyH.cons rfl (fun K hK => ?_) AllReadyH.nil
        go_simp
        refine (HCM17.out _ hS.1).mono ?_
        rintro e vb ⟨vm, rfl, hlm, hb⟩
        obtain ⟨t1, t2, t3, t4, t5, t6, rfl, _⟩ := id hlm.form
        have hc := keepC hS hb
        have hZ := Below.at' hb hY
        refine hK.out _ _ (keepLA HD16.out HG16.out hc) (fun hS => ?_)
        clear hK K
        try simp only [Act.put, List.setIfInBounds_toArray, List.set_cons_zero, List.set_cons_succ]
        refine wpAnyH_take (i := 5) (v := (.tuple #[.agg #[.slice t1 M5.secs.length t2, .slice t3 M5.pend.length t4, .int .i64 M5.left, .int .i64 M5.epoch, .int .i64 M5.seq, .int .i64 M5.used, .slice t5 M5.dirty.length t6], .int .i64 F5])) rfl (by kernel_rfl) (by kernel_rfl) (by kernel_rfl) (fun _ _ _ h => h) (Or.inl ⟨by rfl, fun w hSw => ?_⟩) (by assumption) ?_
        · clear hSw; go_simp
        try simp only [Act.put, List.setIfInBounds_toArray, List.set_cons_zero, List.set_cons_succ]
        refine wpAnyH_take (i := 6) (v := (.agg #[.slice t1 M5.secs.length t2, .slice t3 M5.pend.length t4, .int .i64 M5.left, .int .i64 M5.epoch, .int .i64 M5.seq, .int .i64 M5.used, .slice t5 M5.dirty.length t6])) rfl (by kernel_rfl) (by kernel_rfl) (by kernel_rfl) (fun _ _ _ h => h) (Or.inl ⟨by rfl, fun w hSw => ?_⟩) (by assumption) ?_
        · clear hSw; go_simp
        try simp only [Act.put, List.setIfInBounds_toArray, List.set_cons_zero, List.set_cons_succ]
        refine wpAnyH_take (i := 7) (v := (.int .i64 F5)) rfl (by kernel_rfl) (by kernel_rfl) (by kernel_rfl) (fun _ _ _ h => h) (Or.inl ⟨by rfl, fun w hSw => ?_⟩) (by assumption) ?_
        · clear hSw; go_simp
        try simp only [Act.put, List.setIfInBounds_toArray, List.set_cons_zero, List.set_cons_succ]
        have z0 := below_cell (Below.refl _ vb) hZ 0 rfl; have z1 := below_cell (Below.refl _ vb) hZ 1 rfl; have z2 := below_cell (Below.refl _ vb) hZ 2 rfl; have z3 := below_cell (Below.refl _ vb) hZ 3 rfl; have z4 := below_cell (Below.refl _ vb) hZ 4 rfl; have z5 := below_cell (Below.refl _ vb) hZ 5 rfl; have z6 := below_cell (Below.refl _ vb) hZ 6 rfl
        have zf0 := block_frozen hZ 0; have zf1 := block_frozen hZ 1; have zf2 := block_frozen hZ 2; have zf3 := block_frozen hZ 3; have zf4 := block_frozen hZ 4; have zf5 := block_frozen hZ 5; have zf6 := block_frozen hZ 6
        refine wpAnyH_ready (rs := [9]) (by kernel_rfl) (by simp) ?_
        refine AllReadyH.cons rfl (fun K hK => ?_) AllReadyH.nil
        go_simp
        refine hK.out _ _ (keepLA HD16.out HG16.out (keep7 hS (hs0) _ _ _ _ _ _ _)) (fun hS => ?_)
        clear hK K
        try simp only [Act.put, List.setIfInBounds_toArray, List.set_cons_zero, List.set_cons_succ]
        refine wpAnyH_ready (rs := [10]) (by kernel_rfl) (by simp) ?_
        refine AllReadyH.cons rfl (fun K hK => ?_) AllReadyH.nil
        go_simp
        refine hK.out _ _ (hS) (fun hS => ?_)
        clear hK K
        try simp only [Act.put, List.setIfInBounds_toArray, List.set_cons_zero, List.set_cons_succ]
        refine wpAnyH_done (by kernel_rfl) ?_ _
        go_wp2_with fail
        go_meet
        exact ⟨_, rfl, rfl, box_set7 hZ hlm, hs0, hS.1⟩
    case rest =>
    obtain ⟨Q, rfl, rfl, hMB, hQs, hW17⟩ := hcut
    generalize wc = u17 at *
    have HM17 := Lib.hid hMB; have HQS := Lib.hid hQs; have HW17 := Lib.hid hW17
    clear hMB hQs hW17 HCM17
    have hg1 := below_cell HW17.out HG16.out 1 rfl
    go_upto_if 79 with fail
    clear hg1
    go_cut [14] (fun fv wx => fv = .int .i64 F3 ∧ LogBox wx Q M3 ∧ Below u16.heap.size u16 wx)
    case first =>
      cases ck with
      | true =>
        have eM : ckL lp = M3 := HR3.out.1
        have eF : ckE lp = F3 := HR3.out.2
        have hck := HCK17.out u17 HW17.out
        rw [eM, eF] at hck
        have HC := Lib.hid hck
        have hD9 := Below.at' HW17.out HD16.out
        obtain ⟨r1, r2, r3, r4, r5, r6, hst0, _⟩ := id HM17.out
        have q0 := below_cell (Below.refl _ u17) hD9 0 rfl
        have q1 := below_cell (Below.refl _ u17) hD9 1 rfl
        have q2 := below_cell (Below.refl _ u17) hD9 2 rfl
        have q3 := below_cell (Below.refl _ u17) hD9 3 rfl
        have q4 := below_cell (Below.refl _ u17) hD9 4 rfl
        have q5 := below_cell (Below.refl _ u17) hD9 5 rfl
        have q6 := below_cell (Below.refl _ u17) hD9 6 rfl
        clear hck eM eF hD9
        go_wp2_with (first
          | (go_at_call 12; refine HC.out.mono ?_; rintro e u10 ⟨vm, rfl, hlm, hb10⟩; obtain ⟨t1, t2, t3, t4, t5, t6, rfl, _⟩ := id hlm.form; have hst := Below.at' hb10 hst0)
          | (refine wpList_store_row rfl 29 _ _ rfl Q #[.slice t1 M3.secs.length t2, .slice t3 M3.pend.length t4, .int .i64 M3.left, .int .i64 M3.epoch, .int .i64 M3.seq, .int .i64 M3.used, .slice t5 M3.dirty.length t6] rfl rfl 29 _ hst (by kernel_rfl) rfl (by simp [Value.oneCell']) ?_))
        go_meet
        exact ⟨rfl, (HM17.out.below hb10).set hlm, below_setRow (HW17.out.trans (hb10.mono HW17.out.size)) HQS.out _⟩
      | false =>
        have eM : comL lp xs = M3 := HR3.out.1
        have eF : comE lp xs = F3 := HR3.out.2
        have e1 := HMF5.out
        rw [eM, eF] at e1
        obtain ⟨rfl, rfl⟩ := e1
        clear eM eF
        go_wp2_with fail
        go_meet
        exact ⟨rfl, HM17.out, HW17.out⟩
    case rest =>
    obtain ⟨rfl, hM19, hW19⟩ := hcut
    generalize wc = u19 at *
    have HM19 := Lib.hid hM19; have HW19 := Lib.hid hW19
    clear hM19 hW19 HM17 HW17 HMF5 HCK17 HR3 HDL16
    have HG19 := Lib.hid (Below.at' HW19.out HG16.out); have HBE19 := Lib.hid (HBE16.out.below HW19.out); have HWA19 := Lib.hid (HWA16.out.below HW19.out); have HBK19 := Lib.hid (IsBools.below HBK16.out HW19.out); have HWS19 := Lib.hid (HWS16.out.below HW19.out); have HDB19 := Lib.hid (HDB16.out.below HW19.out); have HWW19 := Lib.hid (HW16.out.trans (HW19.out.mono HW16.out.size))
    have HQD := Lib.hid (show D < Q by have := HQS.out; have := HDL16s.out; omega)
    clear HG16 HBE16 HWA16 HBK16 HWS16 HDB16 HW16 HD16 HXS16 HQS HDL16s HW19
    rcases HGC.out with rfl | rfl
    · have HK0 := Lib.hid (HGK'.out rfl); have HD0 := Lib.hid (HGD'.out rfl)
      clear HGK HGK' HGD' HGC
      go_upto_region 22 with fail
      obtain ⟨s1, s2, s3, s4, s5, s6, hQ7, hQL⟩ := id HM19.out
      have HOP : Hid (∀ av, IsAct u19 av x → Calls Tryz.prog 23 #[.agg #[.slice s1 M3.secs.length s2, .slice s3 M3.pend.length s4], av] u19 fun e w' => ∃ yv y, e = .returned (.tuple #[yv, .bool true]) ∧ IsLog w' yv y ∧ Below u19.heap.size u19 w' ∧ Opened k T' T' (1 + 4 * (i : Int) + 1 + 2) y) := Lib.hid (fun av ha => lawOpen _ av M3.dsk x k T' T' l.epoch (1 + 4 * (i : Int) + 1) u19 hQL.disk ha HK0.out (by have := HI12.out; omega))
      have HAV : Hid (IsAct u19 (.agg #[.slice a' m c', .bool ck, .int .i64 xl, .int .i64 xa, .slice ka kn kc]) x) := Lib.hid ⟨⟨HXL.out, HXA.out⟩, _, _, (by rw [HCK.out, HXL2.out, HXA2.out]), HWS19.out, HBK19.out⟩
      have HO := Lib.hid (HOP.out _ HAV.out)
      have q0 := below_cell (Below.refl _ u19) hQ7 0 rfl
      have q1 := below_cell (Below.refl _ u19) hQ7 1 rfl
      have a0 := below_cell (Below.refl _ u19) HG19.out 0 rfl
      have a1 := below_cell (Below.refl _ u19) HG19.out 1 rfl
      have a2 := below_cell (Below.refl _ u19) HG19.out 2 rfl
      have a3 := below_cell (Below.refl _ u19) HG19.out 3 rfl
      have a4 := below_cell (Below.refl _ u19) HG19.out 4 rfl
      have HQ7 := Lib.hid hQ7; have HQL := Lib.hid hQL
      clear hQ7 hQL HOP HAV
      go_upto_region 23 with (first | (go_at_call 23; refine HO.out.mono ?_; rintro e u20 ⟨vy, Y, rfl, hy, hb20, hop⟩; obtain ⟨w1, w2, w3, w4, w5, w6, rfl, _⟩ := id hy.form))
      obtain ⟨u21, R, hU, hR, hn, hbw, hal, hwR, hz21⟩ := step_alloc (HWW19.out.trans (hb20.mono HWW19.out.size)) (.cells #[.slice w1 Y.secs.length w2, .slice w3 Y.pend.length w4, .int .i64 Y.left, .int .i64 Y.epoch, .int .i64 Y.seq, .int .i64 Y.used, .slice w5 Y.dirty.length w6] 29)
      rw [hU]
      (try rw [hR])
      have HR21 := Lib.hid hn; have HYL := Lib.hid (hy.below hal); have HW21 := Lib.hid hbw
      have HG21 := Lib.hid (Below.at' hal (Below.at' hb20 HG19.out)); have HBE21 := Lib.hid ((HBE19.out.below hb20).below hal); have HWA21 := Lib.hid ((HWA19.out.below hb20).below hal); have HDB21 := Lib.hid ((HDB19.out.below hb20).below hal)
      have HQ21 := Lib.hid (Below.at' hal (Below.at' hb20 HQ7.out)); have HQL21 := Lib.hid ((HQL.out.below hb20).below hal)
      have HRD := Lib.hid (show D < R by rw [← hR]; exact (HDB19.out.below hb20).lt)
      obtain ⟨o1_, o2_, o3_, o4_⟩ := hop
      obtain ⟨TY, hTY, hTT⟩ : ∃ TY, HasV Y k TY ∧ (TY = T' ∨ TY = T') := by
        rcases o2_ with h | h
        · exact ⟨_, h, .inl rfl⟩
        · exact ⟨_, h, .inr rfl⟩
      have HYP : Hid (InPlay Y k TY (1 + 4 * (i : Int) + 1 + 2)) := Lib.hid ⟨o1_, hTY, o3_, o4_⟩
      have HTT := Lib.hid hTT
      have HRT := Lib.hid (refRight5_any _ Y u21 HYL.out)
      have hyr := o1_.right
      rw [hyr] at HRT
      clear hU hR hn hbw hal hwR hz21 hb20 hy o1_ o2_ o3_ o4_ hTY hTT hyr q0 q1 a0 a1 a2 a3 a4 HQ7 HQL HO HWW19 HG19 HBE19 HWA19 HDB19 HWS19 HBK19 HM19
      have y0 := below_cell (Below.refl _ u21) HR21.out 0 rfl
      have y1 := below_cell (Below.refl _ u21) HR21.out 1 rfl
      have y2 := below_cell (Below.refl _ u21) HR21.out 2 rfl
      have y3 := below_cell (Below.refl _ u21) HR21.out 3 rfl
      have y4 := below_cell (Below.refl _ u21) HR21.out 4 rfl
      have y5 := below_cell (Below.refl _ u21) HR21.out 5 rfl
      have y6 := below_cell (Below.refl _ u21) HR21.out 6 rfl
      go_upto_region 25 with (first | (go_at_call 21; refine HRT.out.mono ?_; rintro e u22 ⟨rfl, hb22⟩))
      have HR22 := Lib.hid (Below.at' hb22 HR21.out); have HYL22 := Lib.hid (HYL.out.below hb22); have HW22 := Lib.hid (HW21.out.trans (hb22.mono HW21.out.size))
      have HG22 := Lib.hid (Below.at' hb22 HG21.out); have HBE22 := Lib.hid (HBE21.out.below hb22); have HWA22 := Lib.hid (HWA21.out.below hb22); have HDB22 := Lib.hid (HDB21.out.below hb22)
      have HQ22 := Lib.hid (Below.at' hb22 HQ21.out); have HQL22 := Lib.hid (HQL21.out.below hb22)
      clear hb22 y0 y1 y2 y3 y4 y5 y6 HR21 HYL HW21 HG21 HBE21 HWA21 HDB21 HQ21 HQL21 HRT
      have HHY := Lib.hid (refHomes _ Y TY k u22 HYL22.out HYP.out.sound HYP.out.has)
      have y0 := below_cell (Below.refl _ u22) HR22.out 0 rfl
      have y1 := below_cell (Below.refl _ u22) HR22.out 1 rfl
      have y2 := below_cell (Below.refl _ u22) HR22.out 2 rfl
      have y3 := below_cell (Below.refl _ u22) HR22.out 3 rfl
      have y4 := below_cell (Below.refl _ u22) HR22.out 4 rfl
      have y5 := below_cell (Below.refl _ u22) HR22.out 5 rfl
      have y6 := below_cell (Below.refl _ u22) HR22.out 6 rfl
      go_upto_region 26 with (first | (go_at_call 19; refine HHY.out.mono ?_; rintro e u23 ⟨vh, rfl, hown, hb23⟩; obtain ⟨zy, cy, rfl, hz1, hz2⟩ := own_form1 hown))
      have HGO := Lib.hid (own_strs hown HYP.out.sizes)
      have HR23 := Lib.hid (Below.at' hb23 HR22.out); have HYL23 := Lib.hid (HYL22.out.below hb23); have HW23 := Lib.hid (HW22.out.trans (hb23.mono HW22.out.size))
      have HG23 := Lib.hid (Below.at' hb23 HG22.out); have HBE23 := Lib.hid (HBE22.out.below hb23); have HWA23 := Lib.hid (HWA22.out.below hb23); have HDB23 := Lib.hid (HDB22.out.below hb23)
      have HQ23 := Lib.hid (Below.at' hb23 HQ22.out); have HQL23 := Lib.hid (HQL22.out.below hb23)
      clear hown hb23 hz1 hz2 y0 y1 y2 y3 y4 y5 y6 HR22 HYL22 HW22 HG22 HBE22 HWA22 HDB22 HQ22 HQL22 HHY
      have hsame : homesN TY (k - 53) = homesN T' (k - 53) := by rcases HTT.out with h | h <;> rw [h]
      have HS1 : Hid (Calls Tryz.prog 22 #[.slice zy (k - 53) cy, .slice zw (k - 53) cw] u23 fun e w' => e = .returned (.bool true) ∧ Below u23.heap.size u23 w') := Lib.hid (by
        have := refSame _ _ _ _ u23 HGO.out HWA23.out
        rw [decide_eq_true hsame] at this
        exact this)
      go_upto_region 28 with (first | (go_at_call 22; refine HS1.out.mono ?_; rintro e u24 ⟨rfl, hb24⟩))
      have HW24 := Lib.hid (HW23.out.trans (hb24.mono HW23.out.size)); have HYL24 := Lib.hid (HYL23.out.below hb24); have HDB24 := Lib.hid (HDB23.out.below hb24)
      have HR24 := Lib.hid (Below.at' hb24 HR23.out); have HG24 := Lib.hid (Below.at' hb24 HG23.out); have HQ24 := Lib.hid (Below.at' hb24 HQ23.out); have HQL24 := Lib.hid (HQL23.out.below hb24)
      obtain ⟨j1, j2, j3, j4, j5, j6, hDst, _⟩ := id HDB24.out
      have y0 := below_cell (Below.refl _ u24) HR24.out 0 rfl
      have y1 := below_cell (Below.refl _ u24) HR24.out 1 rfl
      have y2 := below_cell (Below.refl _ u24) HR24.out 2 rfl
      have y3 := below_cell (Below.refl _ u24) HR24.out 3 rfl
      have y4 := below_cell (Below.refl _ u24) HR24.out 4 rfl
      have y5 := below_cell (Below.refl _ u24) HR24.out 5 rfl
      have y6 := below_cell (Below.refl _ u24) HR24.out 6 rfl
      have HDst := Lib.hid hDst
      clear hb24 HW23 HYL23 HDB23 HR23 HG23 HQ23 HQL23 HBE23 HWA23 HGO HS1
      go_upto_region 29 with (first | (refine wpList_store_row rfl 29 _ _ rfl D #[.slice w1 Y.secs.length w2, .slice w3 Y.pend.length w4, .int .i64 Y.left, .int .i64 Y.epoch, .int .i64 Y.seq, .int .i64 Y.used, .slice w5 Y.dirty.length w6] rfl rfl 29 _ hDst (by kernel_rfl) rfl (by simp [Value.oneCell']) ?_))
      have HDN := Lib.hid (HDB24.out.set HYL24.out)
      have HWN := Lib.hid (below_setRow HW24.out HWD.out #[.slice w1 Y.secs.length w2, .slice w3 Y.pend.length w4, .int .i64 Y.left, .int .i64 Y.epoch, .int .i64 Y.seq, .int .i64 Y.used, .slice w5 Y.dirty.length w6])
      have HGN := Lib.hid ((setRow_other u24 D G #[.slice w1 Y.secs.length w2, .slice w3 Y.pend.length w4, .int .i64 Y.left, .int .i64 Y.epoch, .int .i64 Y.seq, .int .i64 Y.used, .slice w5 Y.dirty.length w6] (show G ≠ D by have := HDG.out; omega)).trans HG24.out)
      have HQN := Lib.hid ((setRow_other u24 D Q #[.slice w1 Y.secs.length w2, .slice w3 Y.pend.length w4, .int .i64 Y.left, .int .i64 Y.epoch, .int .i64 Y.seq, .int .i64 Y.used, .slice w5 Y.dirty.length w6] (show Q ≠ D by have := HQD.out; omega)).trans HQ24.out)
      have HQLN := Lib.hid (HDB24.out.log_stays (u' := u24.setRow D #[.slice w1 Y.secs.length w2, .slice w3 Y.pend.length w4, .int .i64 Y.left, .int .i64 Y.epoch, .int .i64 Y.seq, .int .i64 Y.used, .slice w5 Y.dirty.length w6]) (by simp [World.setRow]) (fun b hb => setRow_other u24 D b _ hb) HQL24.out)
      obtain ⟨u25, hU⟩ : ∃ u25, u24.setRow D #[.slice w1 Y.secs.length w2, .slice w3 Y.pend.length w4, .int .i64 Y.left, .int .i64 Y.epoch, .int .i64 Y.seq, .int .i64 Y.used, .slice w5 Y.dirty.length w6] = u25 := ⟨_, rfl⟩
      rw [hU] at HDN HWN HGN HQN HQLN ⊢
      clear hU hDst y0 y1 y2 y3 y4 y5 y6 HW24 HYL24 HDB24 HR24 HG24 HQ24 HQL24 HDst
      have hx := below_cell (Below.refl _ u25) HGN.out 4 rfl
      go_upto_if 131 with fail
      obtain ⟨cb, hcb⟩ : ∃ cb, ((kn : Int) % 2 == 0) = cb := ⟨_, rfl⟩
      rw [hcb]
      clear hcb
      cases cb
      · go_wp2_with fail
        go_roundw
        case rel => exact ⟨i + 1, Y, TY, by omega, by go_num, HDN, Lib.hid (HYP.out.mono (by have := HI12.out; omega)), HWN⟩
        case measure => simp [intOf]; omega
      have hDst := HDN.out
      obtain ⟨j1, j2, j3, j4, j5, j6, hDst, _⟩ := id hDst
      have y0 := below_cell (Below.refl _ u25) HQN.out 0 rfl
      have y1 := below_cell (Below.refl _ u25) HQN.out 1 rfl
      have y2 := below_cell (Below.refl _ u25) HQN.out 2 rfl
      have y3 := below_cell (Below.refl _ u25) HQN.out 3 rfl
      have y4 := below_cell (Below.refl _ u25) HQN.out 4 rfl
      have y5 := below_cell (Below.refl _ u25) HQN.out 5 rfl
      have y6 := below_cell (Below.refl _ u25) HQN.out 6 rfl
      go_upto_region 31 with (first | (refine wpList_store_row rfl 29 _ _ rfl D #[.slice s1 M3.secs.length s2, .slice s3 M3.pend.length s4, .int .i64 M3.left, .int .i64 M3.epoch, .int .i64 M3.seq, .int .i64 M3.used, .slice s5 M3.dirty.length s6] rfl rfl 29 _ hDst (by kernel_rfl) rfl (by simp [Value.oneCell']) ?_))
      have HDM := Lib.hid (HDN.out.set HQLN.out)
      have HWM := Lib.hid (below_setRow HWN.out HWD.out #[.slice s1 M3.secs.length s2, .slice s3 M3.pend.length s4, .int .i64 M3.left, .int .i64 M3.epoch, .int .i64 M3.seq, .int .i64 M3.used, .slice s5 M3.dirty.length s6])
      obtain ⟨u26, hU⟩ : ∃ u26, u25.setRow D #[.slice s1 M3.secs.length s2, .slice s3 M3.pend.length s4, .int .i64 M3.left, .int .i64 M3.epoch, .int .i64 M3.seq, .int .i64 M3.used, .slice s5 M3.dirty.length s6] = u26 := ⟨_, rfl⟩
      rw [hU] at HDM HWM ⊢
      clear hU y0 y1 y2 y3 y4 y5 y6 hDst hx HDN HWN HGN HQN HQLN
      obtain ⟨j1, j2, j3, j4, j5, j6, hD2, _⟩ := id HDM.out
      have hd2 := below_cell (Below.refl _ u26) hD2 2 rfl
      have hf2 := block_frozen hD2 2
      have HDF := Lib.hid (HDM.out.pow (-1) ⟨by decide, by decide⟩)
      have HWF := Lib.hid (HWM.out.setCell (p := ⟨D, 2, none⟩) HWD.out (.int .i64 (-1)))
      have HPX : Hid (InPlay (M3.pow (-1)) k T' (1 + 4 * (i : Int) + 1)) := Lib.hid ⟨HD0.out.1.pow _, HD0.out.2.1.pow _, show (-1 : Int) < 0 by decide, HD0.out.2.2⟩
      clear hD2
      go_wp2_with fail
      go_roundw
      case rel => exact ⟨i + 1, M3.pow (-1), T', by omega, by go_num, HDF, Lib.hid (HPX.out.mono (by have := HI12.out; omega)), HWF⟩
      case measure => simp [intOf]; omega
    · have HK0 := Lib.hid HGK.out
      clear HGK HGK' HGD' HGC
      go_upto_region 22 with fail
      obtain ⟨s1, s2, s3, s4, s5, s6, hQ7, hQL⟩ := id HM19.out
      have HOP : Hid (∀ av, IsAct u19 av x → Calls Tryz.prog 23 #[.agg #[.slice s1 M3.secs.length s2, .slice s3 M3.pend.length s4], av] u19 fun e w' => ∃ yv y, e = .returned (.tuple #[yv, .bool true]) ∧ IsLog w' yv y ∧ Below u19.heap.size u19 w' ∧ Opened k T T' (1 + 4 * (i : Int) + 1 + 2) y) := Lib.hid (fun av ha => lawOpen _ av M3.dsk x k T T' l.epoch (1 + 4 * (i : Int) + 1) u19 hQL.disk ha HK0.out (by have := HI12.out; omega))
      have HAV : Hid (IsAct u19 (.agg #[.slice a' m c', .bool ck, .int .i64 xl, .int .i64 xa, .slice ka kn kc]) x) := Lib.hid ⟨⟨HXL.out, HXA.out⟩, _, _, (by rw [HCK.out, HXL2.out, HXA2.out]), HWS19.out, HBK19.out⟩
      have HO := Lib.hid (HOP.out _ HAV.out)
      have q0 := below_cell (Below.refl _ u19) hQ7 0 rfl
      have q1 := below_cell (Below.refl _ u19) hQ7 1 rfl
      have a0 := below_cell (Below.refl _ u19) HG19.out 0 rfl
      have a1 := below_cell (Below.refl _ u19) HG19.out 1 rfl
      have a2 := below_cell (Below.refl _ u19) HG19.out 2 rfl
      have a3 := below_cell (Below.refl _ u19) HG19.out 3 rfl
      have a4 := below_cell (Below.refl _ u19) HG19.out 4 rfl
      have HQ7 := Lib.hid hQ7; have HQL := Lib.hid hQL
      clear hQ7 hQL HOP HAV
      go_upto_region 23 with (first | (go_at_call 23; refine HO.out.mono ?_; rintro e u20 ⟨vy, Y, rfl, hy, hb20, hop⟩; obtain ⟨w1, w2, w3, w4, w5, w6, rfl, _⟩ := id hy.form))
      obtain ⟨u21, R, hU, hR, hn, hbw, hal, hwR, hz21⟩ := step_alloc (HWW19.out.trans (hb20.mono HWW19.out.size)) (.cells #[.slice w1 Y.secs.length w2, .slice w3 Y.pend.length w4, .int .i64 Y.left, .int .i64 Y.epoch, .int .i64 Y.seq, .int .i64 Y.used, .slice w5 Y.dirty.length w6] 29)
      rw [hU]
      (try rw [hR])
      have HR21 := Lib.hid hn; have HYL := Lib.hid (hy.below hal); have HW21 := Lib.hid hbw
      have HG21 := Lib.hid (Below.at' hal (Below.at' hb20 HG19.out)); have HBE21 := Lib.hid ((HBE19.out.below hb20).below hal); have HWA21 := Lib.hid ((HWA19.out.below hb20).below hal); have HDB21 := Lib.hid ((HDB19.out.below hb20).below hal)
      have HQ21 := Lib.hid (Below.at' hal (Below.at' hb20 HQ7.out)); have HQL21 := Lib.hid ((HQL.out.below hb20).below hal)
      have HRD := Lib.hid (show D < R by rw [← hR]; exact (HDB19.out.below hb20).lt)
      obtain ⟨o1_, o2_, o3_, o4_⟩ := hop
      obtain ⟨TY, hTY, hTT⟩ : ∃ TY, HasV Y k TY ∧ (TY = T ∨ TY = T') := by
        rcases o2_ with h | h
        · exact ⟨_, h, .inl rfl⟩
        · exact ⟨_, h, .inr rfl⟩
      have HYP : Hid (InPlay Y k TY (1 + 4 * (i : Int) + 1 + 2)) := Lib.hid ⟨o1_, hTY, o3_, o4_⟩
      have HTT := Lib.hid hTT
      have HRT := Lib.hid (refRight5_any _ Y u21 HYL.out)
      have hyr := o1_.right
      rw [hyr] at HRT
      clear hU hR hn hbw hal hwR hz21 hb20 hy o1_ o2_ o3_ o4_ hTY hTT hyr q0 q1 a0 a1 a2 a3 a4 HQ7 HQL HO HWW19 HG19 HBE19 HWA19 HDB19 HWS19 HBK19 HM19
      have y0 := below_cell (Below.refl _ u21) HR21.out 0 rfl
      have y1 := below_cell (Below.refl _ u21) HR21.out 1 rfl
      have y2 := below_cell (Below.refl _ u21) HR21.out 2 rfl
      have y3 := below_cell (Below.refl _ u21) HR21.out 3 rfl
      have y4 := below_cell (Below.refl _ u21) HR21.out 4 rfl
      have y5 := below_cell (Below.refl _ u21) HR21.out 5 rfl
      have y6 := below_cell (Below.refl _ u21) HR21.out 6 rfl
      go_upto_region 25 with (first | (go_at_call 21; refine HRT.out.mono ?_; rintro e u22 ⟨rfl, hb22⟩))
      have HR22 := Lib.hid (Below.at' hb22 HR21.out); have HYL22 := Lib.hid (HYL.out.below hb22); have HW22 := Lib.hid (HW21.out.trans (hb22.mono HW21.out.size))
      have HG22 := Lib.hid (Below.at' hb22 HG21.out); have HBE22 := Lib.hid (HBE21.out.below hb22); have HWA22 := Lib.hid (HWA21.out.below hb22); have HDB22 := Lib.hid (HDB21.out.below hb22)
      have HQ22 := Lib.hid (Below.at' hb22 HQ21.out); have HQL22 := Lib.hid (HQL21.out.below hb22)
      clear hb22 y0 y1 y2 y3 y4 y5 y6 HR21 HYL HW21 HG21 HBE21 HWA21 HDB21 HQ21 HQL21 HRT
      have HHY := Lib.hid (refHomes _ Y TY k u22 HYL22.out HYP.out.sound HYP.out.has)
      have y0 := below_cell (Below.refl _ u22) HR22.out 0 rfl
      have y1 := below_cell (Below.refl _ u22) HR22.out 1 rfl
      have y2 := below_cell (Below.refl _ u22) HR22.out 2 rfl
      have y3 := below_cell (Below.refl _ u22) HR22.out 3 rfl
      have y4 := below_cell (Below.refl _ u22) HR22.out 4 rfl
      have y5 := below_cell (Below.refl _ u22) HR22.out 5 rfl
      have y6 := below_cell (Below.refl _ u22) HR22.out 6 rfl
      go_upto_region 26 with (first | (go_at_call 19; refine HHY.out.mono ?_; rintro e u23 ⟨vh, rfl, hown, hb23⟩; obtain ⟨zy, cy, rfl, hz1, hz2⟩ := own_form1 hown))
      have HGO := Lib.hid (own_strs hown HYP.out.sizes)
      have HR23 := Lib.hid (Below.at' hb23 HR22.out); have HYL23 := Lib.hid (HYL22.out.below hb23); have HW23 := Lib.hid (HW22.out.trans (hb23.mono HW22.out.size))
      have HG23 := Lib.hid (Below.at' hb23 HG22.out); have HBE23 := Lib.hid (HBE22.out.below hb23); have HWA23 := Lib.hid (HWA22.out.below hb23); have HDB23 := Lib.hid (HDB22.out.below hb23)
      have HQ23 := Lib.hid (Below.at' hb23 HQ22.out); have HQL23 := Lib.hid (HQL22.out.below hb23)
      clear hown hb23 hz1 hz2 y0 y1 y2 y3 y4 y5 y6 HR22 HYL22 HW22 HG22 HBE22 HWA22 HDB22 HQ22 HQL22 HHY
      by_cases hsame : homesN TY (k - 53) = homesN T' (k - 53)
      · have HS1 : Hid (Calls Tryz.prog 22 #[.slice zy (k - 53) cy, .slice zw (k - 53) cw] u23 fun e w' => e = .returned (.bool true) ∧ Below u23.heap.size u23 w') := Lib.hid (by
          have := refSame _ _ _ _ u23 HGO.out HWA23.out
          rw [decide_eq_true hsame] at this
          exact this)
        go_upto_region 28 with (first | (go_at_call 22; refine HS1.out.mono ?_; rintro e u24 ⟨rfl, hb24⟩))
        have HW24 := Lib.hid (HW23.out.trans (hb24.mono HW23.out.size)); have HYL24 := Lib.hid (HYL23.out.below hb24); have HDB24 := Lib.hid (HDB23.out.below hb24)
        have HR24 := Lib.hid (Below.at' hb24 HR23.out); have HG24 := Lib.hid (Below.at' hb24 HG23.out); have HQ24 := Lib.hid (Below.at' hb24 HQ23.out); have HQL24 := Lib.hid (HQL23.out.below hb24)
        obtain ⟨j1, j2, j3, j4, j5, j6, hDst, _⟩ := id HDB24.out
        have y0 := below_cell (Below.refl _ u24) HR24.out 0 rfl
        have y1 := below_cell (Below.refl _ u24) HR24.out 1 rfl
        have y2 := below_cell (Below.refl _ u24) HR24.out 2 rfl
        have y3 := below_cell (Below.refl _ u24) HR24.out 3 rfl
        have y4 := below_cell (Below.refl _ u24) HR24.out 4 rfl
        have y5 := below_cell (Below.refl _ u24) HR24.out 5 rfl
        have y6 := below_cell (Below.refl _ u24) HR24.out 6 rfl
        have HDst := Lib.hid hDst
        clear hb24 HW23 HYL23 HDB23 HR23 HG23 HQ23 HQL23 HBE23 HWA23 HGO HS1
        go_upto_region 29 with (first | (refine wpList_store_row rfl 29 _ _ rfl D #[.slice w1 Y.secs.length w2, .slice w3 Y.pend.length w4, .int .i64 Y.left, .int .i64 Y.epoch, .int .i64 Y.seq, .int .i64 Y.used, .slice w5 Y.dirty.length w6] rfl rfl 29 _ hDst (by kernel_rfl) rfl (by simp [Value.oneCell']) ?_))
        have HDN := Lib.hid (HDB24.out.set HYL24.out)
        have HWN := Lib.hid (below_setRow HW24.out HWD.out #[.slice w1 Y.secs.length w2, .slice w3 Y.pend.length w4, .int .i64 Y.left, .int .i64 Y.epoch, .int .i64 Y.seq, .int .i64 Y.used, .slice w5 Y.dirty.length w6])
        have HGN := Lib.hid ((setRow_other u24 D G #[.slice w1 Y.secs.length w2, .slice w3 Y.pend.length w4, .int .i64 Y.left, .int .i64 Y.epoch, .int .i64 Y.seq, .int .i64 Y.used, .slice w5 Y.dirty.length w6] (show G ≠ D by have := HDG.out; omega)).trans HG24.out)
        have HQN := Lib.hid ((setRow_other u24 D Q #[.slice w1 Y.secs.length w2, .slice w3 Y.pend.length w4, .int .i64 Y.left, .int .i64 Y.epoch, .int .i64 Y.seq, .int .i64 Y.used, .slice w5 Y.dirty.length w6] (show Q ≠ D by have := HQD.out; omega)).trans HQ24.out)
        have HQLN := Lib.hid (HDB24.out.log_stays (u' := u24.setRow D #[.slice w1 Y.secs.length w2, .slice w3 Y.pend.length w4, .int .i64 Y.left, .int .i64 Y.epoch, .int .i64 Y.seq, .int .i64 Y.used, .slice w5 Y.dirty.length w6]) (by simp [World.setRow]) (fun b hb => setRow_other u24 D b _ hb) HQL24.out)
        obtain ⟨u25, hU⟩ : ∃ u25, u24.setRow D #[.slice w1 Y.secs.length w2, .slice w3 Y.pend.length w4, .int .i64 Y.left, .int .i64 Y.epoch, .int .i64 Y.seq, .int .i64 Y.used, .slice w5 Y.dirty.length w6] = u25 := ⟨_, rfl⟩
        rw [hU] at HDN HWN HGN HQN HQLN ⊢
        clear hU hDst y0 y1 y2 y3 y4 y5 y6 HW24 HYL24 HDB24 HR24 HG24 HQ24 HQL24 HDst
        go_wp2_with fail
        go_roundw
        case rel => exact ⟨i + 1, Y, TY, by omega, by go_num, HDN, Lib.hid (HYP.out.mono (by have := HI12.out; omega)), HWN⟩
        case measure => simp [intOf]; omega
      · have HTYT := Lib.hid (show TY = T from HTT.out.resolve_right (fun h => hsame (by rw [h])))
        have HS1 : Hid (Calls Tryz.prog 22 #[.slice zy (k - 53) cy, .slice zw (k - 53) cw] u23 fun e w' => e = .returned (.bool false) ∧ Below u23.heap.size u23 w') := Lib.hid (by
          have := refSame _ _ _ _ u23 HGO.out HWA23.out
          rw [decide_eq_false hsame] at this
          exact this)
        have HS2 : Hid (∀ u, Below u23.heap.size u23 u → Calls Tryz.prog 22 #[.slice zy (k - 53) cy, .slice zb (k - 53) cb] u fun e w' => e = .returned (.bool true) ∧ Below u.heap.size u w') := Lib.hid (fun u hu => by
          have := refSame _ _ _ _ u (HGO.out.below hu) (HBE23.out.below hu)
          rw [decide_eq_true (by rw [HTYT.out])] at this
          exact this)
        clear hsame
        go_upto_region 28 with (first
          | (go_at_call 22; with_reducible refine HS1.out.mono ?_; rintro e u23a ⟨rfl, hb24a⟩)
          | (go_at_call 22; with_reducible refine (HS2.out _ hb24a).mono ?_; rintro e u24 ⟨rfl, hb24b⟩; have hb24 := hb24a.trans (hb24b.mono hb24a.size)))
        clear hb24a hb24b HS2 HTYT
        have HW24 := Lib.hid (HW23.out.trans (hb24.mono HW23.out.size)); have HYL24 := Lib.hid (HYL23.out.below hb24); have HDB24 := Lib.hid (HDB23.out.below hb24)
        have HR24 := Lib.hid (Below.at' hb24 HR23.out); have HG24 := Lib.hid (Below.at' hb24 HG23.out); have HQ24 := Lib.hid (Below.at' hb24 HQ23.out); have HQL24 := Lib.hid (HQL23.out.below hb24)
        obtain ⟨j1, j2, j3, j4, j5, j6, hDst, _⟩ := id HDB24.out
        have y0 := below_cell (Below.refl _ u24) HR24.out 0 rfl
        have y1 := below_cell (Below.refl _ u24) HR24.out 1 rfl
        have y2 := below_cell (Below.refl _ u24) HR24.out 2 rfl
        have y3 := below_cell (Below.refl _ u24) HR24.out 3 rfl
        have y4 := below_cell (Below.refl _ u24) HR24.out 4 rfl
        have y5 := below_cell (Below.refl _ u24) HR24.out 5 rfl
        have y6 := below_cell (Below.refl _ u24) HR24.out 6 rfl
        have HDst := Lib.hid hDst
        clear hb24 HW23 HYL23 HDB23 HR23 HG23 HQ23 HQL23 HBE23 HWA23 HGO HS1
        go_upto_region 29 with (first | (refine wpList_store_row rfl 29 _ _ rfl D #[.slice w1 Y.secs.length w2, .slice w3 Y.pend.length w4, .int .i64 Y.left, .int .i64 Y.epoch, .int .i64 Y.seq, .int .i64 Y.used, .slice w5 Y.dirty.length w6] rfl rfl 29 _ hDst (by kernel_rfl) rfl (by simp [Value.oneCell']) ?_))
        have HDN := Lib.hid (HDB24.out.set HYL24.out)
        have HWN := Lib.hid (below_setRow HW24.out HWD.out #[.slice w1 Y.secs.length w2, .slice w3 Y.pend.length w4, .int .i64 Y.left, .int .i64 Y.epoch, .int .i64 Y.seq, .int .i64 Y.used, .slice w5 Y.dirty.length w6])
        have HGN := Lib.hid ((setRow_other u24 D G #[.slice w1 Y.secs.length w2, .slice w3 Y.pend.length w4, .int .i64 Y.left, .int .i64 Y.epoch, .int .i64 Y.seq, .int .i64 Y.used, .slice w5 Y.dirty.length w6] (show G ≠ D by have := HDG.out; omega)).trans HG24.out)
        have HQN := Lib.hid ((setRow_other u24 D Q #[.slice w1 Y.secs.length w2, .slice w3 Y.pend.length w4, .int .i64 Y.left, .int .i64 Y.epoch, .int .i64 Y.seq, .int .i64 Y.used, .slice w5 Y.dirty.length w6] (show Q ≠ D by have := HQD.out; omega)).trans HQ24.out)
        have HQLN := Lib.hid (HDB24.out.log_stays (u' := u24.setRow D #[.slice w1 Y.secs.length w2, .slice w3 Y.pend.length w4, .int .i64 Y.left, .int .i64 Y.epoch, .int .i64 Y.seq, .int .i64 Y.used, .slice w5 Y.dirty.length w6]) (by simp [World.setRow]) (fun b hb => setRow_other u24 D b _ hb) HQL24.out)
        obtain ⟨u25, hU⟩ : ∃ u25, u24.setRow D #[.slice w1 Y.secs.length w2, .slice w3 Y.pend.length w4, .int .i64 Y.left, .int .i64 Y.epoch, .int .i64 Y.seq, .int .i64 Y.used, .slice w5 Y.dirty.length w6] = u25 := ⟨_, rfl⟩
        rw [hU] at HDN HWN HGN HQN HQLN ⊢
        clear hU hDst y0 y1 y2 y3 y4 y5 y6 HW24 HYL24 HDB24 HR24 HG24 HQ24 HQL24 HDst
        go_wp2_with fail
        go_roundw
        case rel => exact ⟨i + 1, Y, TY, by omega, by go_num, HDN, Lib.hid (HYP.out.mono (by have := HI12.out; omega)), HWN⟩
        case measure => simp [intOf]; omega
end Go.Proofs.YthnmnnlbglpjaaaGreatDoor.lawWalWhole
