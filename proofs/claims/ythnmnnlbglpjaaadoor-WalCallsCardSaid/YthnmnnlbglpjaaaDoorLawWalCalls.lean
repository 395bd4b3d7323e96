/- The walk of WalCalls. -/
import Derived.Test.YthnmnnlbglpjaaaDoorPk4
import Derived.Test.YthnmnnlbglpjaaaDoorWlN
import Derived.Outline
namespace Go.Proofs.YthnmnnlbglpjaaaDoor
open Go.ChangeShapes Go.WideShapes Go.ChangeAt Go.RowKit Go.Joins Go.Deep
set_option maxRecDepth 100000 in
theorem openWrites {H : Type} {enc : TypeId × Value → H} {W : World} {v : Value} {d : DataW H} {p : List MemPlace} {base : Nat}
    (hok : Value.okWide Tryd.prog W .any base 23 v) (h : DataW.Trod enc Tryd.prog W 0 (fun _ => true) true 23 v d p) : ∃ l, IsWrts W v l := openWrts (okWide_slice Tryd.underlying23 hok) h
end Go.Proofs.YthnmnnlbglpjaaaDoor
namespace Go.Proofs.YthnmnnlbglpjaaaDoor.lawWalCalls
open Go.RowKit
set_option linter.unusedVariables false
set_option linter.unusedSimpArgs false

def setL (l : Lg) (n : Int) : Lg := ⟨l.secs, l.pend, n, l.epoch, l.seq, l.used, l.dirty⟩
theorem log_left {w : World} {sv pv dv : Value} {l : Lg} {x y z t : Int} (h : IsLog w (.agg #[sv, pv, .int .i64 x, .int .i64 y, .int .i64 z, .int .i64 t, dv]) l) (n : Int) (hn : i64ok n) : IsLog w (.agg #[sv, pv, .int .i64 n, .int .i64 y, .int .i64 z, .int .i64 t, dv]) (setL l n) := by
  obtain ⟨⟨_, h1, h2, h3⟩, sv', pv', dv', hv, k1, k2, k3⟩ := h
  injection hv with hv
  injection hv with hv
  injection hv with e1 hv
  injection hv with e2 hv
  injection hv with e3 hv
  injection hv with e4 hv
  injection hv with e5 hv
  injection hv with e6 hv
  injection hv with e7 hv
  subst e1 e2 e7
  injection e4 with _ e4
  injection e5 with _ e5
  injection e6 with _ e6
  subst e4 e5 e6
  exact ⟨⟨hn, h1, h2, h3⟩, _, _, _, rfl, k1, k2, k3⟩
/-- what the statement asks of the plain side -/
structure Says (l : Lg) (xs : List Wrt) : Prop where
  some : comE l xs = 0 → xs.length ≠ 0 → ckE (comL l xs) = 0 ∧ (comL l xs).left = 200 - xs.length - 4 ∧ (ckL (comL l xs)).left = (comL l xs).left - xs.length - 3 ∧
    (comL l xs).seq = 1 ∧ (comL l xs).used = xs.length ∧ (comL l xs).dirty.length = xs.length ∧ (comL l xs).pend.length ≤ 600
  none : comE l xs = 0 ∨ comE l xs = 1 ∨ comE l xs = 30
theorem says (k : Nat) (hk : 64 ≤ k ∧ k ≤ 100) (xs : List Wrt) (hx : xs.length ≤ 45) : Says (setL (newLg k) 200) xs := by
  have hr0 := newLg_right k (by omega)
  have hin : (64 : Int) ≤ k ∧ (k : Int) ≤ 256 := by omega
  have hnl : newLg k = ⟨(List.replicate k ⟨#[]⟩).set 0 newS, [], -1, 1, 0, 0, []⟩ := by unfold newLg; rw [if_pos hin, Int.toNat_natCast]
  have hr : rightL (setL (newLg k) 200) = true := hr0
  have hN : (setL (newLg k) 200).secs.length = k := by rw [hnl]; show ((List.replicate k (⟨#[]⟩ : ByteArray)).set 0 newS).length = k; simp
  have hsq : (setL (newLg k) 200).seq = 0 := by rw [hnl]; rfl
  have hus : (setL (newLg k) 200).used = 0 := by rw [hnl]; rfl
  have hdt : (setL (newLg k) 200).dirty = [] := by rw [hnl]; rfl
  have hpd : (setL (newLg k) 200).pend = [] := by rw [hnl]; rfl
  have hep : (setL (newLg k) 200).epoch = 1 := by rw [hnl]; rfl
  have hlf : (setL (newLg k) 200).left = 200 := rfl
  generalize setL (newLg k) 200 = l at *
  by_cases ha : allowL k xs = true
  · by_cases h40 : 40 < xs.length
    · have e : comE l xs = 30 := by
        unfold comE
        rw [if_pos (by rw [hr, hN, ha]; rfl), if_pos h40]
      exact ⟨fun h => by rw [e] at h; exact absurd h (by decide), .inr (.inr e)⟩
    by_cases h0 : xs.length = 0
    · refine ⟨fun _ h => absurd h0 h, .inl ?_⟩
      unfold comE
      rw [if_pos (by rw [hr, hN, ha]; rfl), if_neg h40, if_pos h0]
    have hf : fullB l xs.length = false := by
      unfold fullB
      rw [decide_eq_false_iff_not]
      omega
    obtain ⟨c1, c2, c3⟩ := com_able (n := 43) (N := k) (L := 200) l xs hr hlf hN ha h0 (by omega) hf (.inr (by omega))
    refine ⟨fun _ _ => ?_, .inl c1⟩
    have hR := taken_right c3 hr hN ha (by omega) hf
    have hlog := log_secs ⟨l.dsk, l.left, 0⟩ l xs
    have hpl : (logO ⟨l.dsk, l.left, 0⟩ l xs).dsk.pend.length ≤ 600 := by
      unfold logO
      have h1 := fold_pend (imgL l.used xs) ⟨l.dsk, l.left, 0⟩
      rw [imgL_len, show (Outc.dsk ⟨l.dsk, l.left, 0⟩).pend = [] from hpd] at h1
      have h2 := wr_pend ((imgL l.used xs).foldl wrS ⟨l.dsk, l.left, 0⟩) ⟨1 + l.seq, layS (headL l.epoch l.seq (xs.map Wrt.sector))⟩
      have h3 := fl_pend (wrS ((imgL l.used xs).foldl wrS ⟨l.dsk, l.left, 0⟩) ⟨1 + l.seq, layS (headL l.epoch l.seq (xs.map Wrt.sector))⟩)
      have h4 := wr_pend (flS (wrS ((imgL l.used xs).foldl wrS ⟨l.dsk, l.left, 0⟩) ⟨1 + l.seq, layS (headL l.epoch l.seq (xs.map Wrt.sector))⟩)) ⟨7 + l.seq, layS (commitL l.epoch l.seq)⟩
      have h5 := fl_pend (wrS (flS (wrS ((imgL l.used xs).foldl wrS ⟨l.dsk, l.left, 0⟩) ⟨1 + l.seq, layS (headL l.epoch l.seq (xs.map Wrt.sector))⟩)) ⟨7 + l.seq, layS (commitL l.epoch l.seq)⟩)
      simp only [List.length_nil] at h1
      omega
    rw [c2]
    generalize logO ⟨l.dsk, l.left, 0⟩ l xs = q at *
    have hdl : (tkL q l xs).dirty.length = xs.length := by
      show (xs.foldl withT l.dirty).length = _
      rw [hdt, fold_new xs [] (allow_facts ha).2 (fun _ _ y hy => absurd hy (by simp))]
      simp
    have hql : q.left = 200 - xs.length - 4 := by rw [c3.left]; unfold lessI; rw [if_neg (by decide)]; omega
    have hleft : (tkL q l xs).left = 200 - xs.length - 4 := hql
    have hepm : (tkL q l xs).epoch = 1 := hep
    have hsec : (tkL q l xs).secs.length = k := c3.secs
    have hA := ck_able (n := 0) (N := k) (L := 200 - xs.length - 4) (tkL q l xs) ⟨rfl, c3.right, hleft, .inr (by omega), c3.secs⟩ hk.1 (by rw [← hsec]; exact (right_dirty hR).1)
    have hE : ckE (tkL q l xs) = 0 := by
      unfold ckE
      rw [if_pos hR, if_neg (by rw [hepm]; decide)]
      exact hA.code
    have hLL : (ckL (tkL q l xs)).left = (200 - xs.length - 4 : Int) - xs.length - 3 := by
      obtain ⟨e1, _⟩ := ck_done hR hE
      rw [e1]
      show (ckO (tkL q l xs)).left = _
      rw [hA.left, hdl]
      unfold lessI
      rw [if_neg (by omega)]
      omega
    refine ⟨hE, hleft, by rw [hLL, hleft], ?_, ?_, hdl, hpl⟩
    · show l.seq + 1 = 1
      omega
    · show l.used + (xs.length : Int) = _
      omega
  · have e : comE l xs = 1 := by
      unfold comE
      rw [if_neg (by rw [hr, hN]; simpa using ha)]
    exact ⟨fun h => by rw [e] at h; exact absurd h (by decide), .inr (.inl e)⟩
set_option maxRecDepth 100000 in
theorem short5 (a : Option Addr) (n c : Nat) (w : World) (h1 : n ≤ c) (h2 : c ≤ 9223372036854775807) : Calls Tryd.prog 14 #[.slice a n c] w fun e w' => e = .returned (.slice a (min n 45) c) ∧ Below w.heap.size w w' := by
  obtain ⟨m, hm, hm1, hm2, hm3⟩ := min_if n 45 (by omega)
  have hmm : min (n : Int) 45 = m := by omega
  rw [show min n 45 = m from by omega]
  have hmI : (m : Int) ≤ c := by omega
  have hcI : (c : Int) ≤ 9223372036854775807 := by omega
  clear hm3
  go_enter Tryd.func14, Tryd.ntmps14
  go_wp2_with fail
  go_ret
  exact ⟨rfl, Below.refl _ _⟩
set_option maxRecDepth 100000 in
set_option maxHeartbeats 900000 in
theorem walk (n0 : Int) (v0 : Value) (l0 : List Wrt) (w : World) (wn : (Lit.int .i64 n0).wf = true) (w0 : IsWrts w v0 l0) :
    Calls Tryd.prog 4 #[.int .i64 n0, v0] w fun e w' => e = .returned (.bool true) ∧ Below w.heap.size w w' := by
  have hwn := wf_i64 wn
  obtain ⟨a, n, c, rfl, hl, hc1, hc2, ht⟩ := w0.take
  have hS := fun u => short5 a n c u hc1 hc2
  have hX := ht _ (Nat.min_le_left n 45)
  have hm45 : min n 45 ≤ 45 := Nat.min_le_right _ _
  have hml : (l0.take (min n 45)).length = min n 45 := by rw [List.length_take]; omega
  generalize min n 45 = m at *
  generalize l0.take m = xs at *
  obtain ⟨q, hq⟩ : ∃ q, (if n0 < 64 then (64 : Int) else n0) = q := ⟨_, rfl⟩
  have hq2 : max n0 64 = q := by rw [← hq]; split <;> omega
  obtain ⟨k, hk⟩ : ∃ k : Nat, (if 100 < q then (100 : Int) else q) = k := ⟨(if 100 < q then (100 : Int) else q).toNat, by
    have : 64 ≤ q := by rw [← hq]; split <;> omega
    rw [Int.toNat_of_nonneg (by split <;> omega)]⟩
  have hk2 : min q 100 = k := by rw [← hk]; split <;> omega
  have hkk : 64 ≤ k ∧ k ≤ 100 := by
    have : 64 ≤ q := by rw [← hq]; split <;> omega
    split at hk <;> omega
  have HSY := says k hkk xs (by omega)
  have hS1 := HSY.some
  have hS2 := HSY.none
  have HK := Lib.hid hkk; have HX := Lib.hid hX; have HS := Lib.hid hS; have HM := Lib.hid hml; have HM45 := Lib.hid hm45
  have HN := Lib.hid (wlNew k · ⟨by omega, by omega⟩)
  have hne : newE k = 0 := if_pos (by omega)
  rw [hne] at HN
  have HCM := Lib.hid (fun v wv u (h : IsLog u v (setL (newLg k) 200)) (hx : IsWrts u wv xs) => wlCommit v wv (setL (newLg k) 200) xs u h hx (by
    have hin : (64 : Int) ≤ k ∧ (k : Int) ≤ 256 := by omega
    have hnl : newLg k = ⟨(List.replicate k ⟨#[]⟩).set 0 newS, [], -1, 1, 0, 0, []⟩ := by unfold newLg; rw [if_pos hin, Int.toNat_natCast]
    rw [hnl]; exact Nat.zero_le _))
  have HPX : Hid (newLg k = newLg k) := Lib.hid rfl
  rw [hml] at hS1
  have HS1 := Lib.hid hS1; have HS2 := Lib.hid hS2
  have HCK := Lib.hid (fun v u (h : IsLog u v (comL (setL (newLg k) 200) xs)) hp => wlCheckpoint v _ u h hp)
  have HLL := Lib.hid (fun u sv pv dv x y z t (h : IsLog u (.agg #[sv, pv, .int .i64 x, .int .i64 y, .int .i64 z, .int .i64 t, dv]) (newLg k)) => log_left h 200 ⟨by decide, by decide⟩)
  clear hS hX hml hne hS1 hS2 HSY HPX hwn wn w0 ht hl hc1 hc2
  generalize setL (newLg k) 200 = X2 at *
  generalize newLg k = X at *
  generalize comL X2 xs = M at *
  generalize comE X2 xs = ME at *
  generalize ckL M = R at *
  generalize ckE M = RE at *
  have hmI : (m : Int) ≤ 45 := by omega
  have hmc : (m : Int) ≤ c ∨ True := .inr trivial
  go_enter Tryd.func4, Tryd.ntmps4
  go_upto_region 2 with (first | (go_at_call 6; refine (HN.out _).mono ?_; rintro e u1 ⟨vx, rfl, hlx, hb1⟩; obtain ⟨y1, y2, y3, y4, y5, y6, rfl, _⟩ := id hlx.form))
  have hn := heap_alloc_new u1 (.cells #[.slice y1 X.secs.length y2, .slice y3 X.pend.length y4, .int .i64 X.left, .int .i64 X.epoch, .int .i64 X.seq, .int .i64 X.used, .slice y5 X.dirty.length y6] 29)
  have hal := (Below.refl u1.heap.size u1).alloc (Nat.le_refl _) (.cells #[.slice y1 X.secs.length y2, .slice y3 X.pend.length y4, .int .i64 X.left, .int .i64 X.epoch, .int .i64 X.seq, .int .i64 X.used, .slice y5 X.dirty.length y6] 29)
  have hl2 := HLL.out _ _ _ _ _ _ _ _ (hlx.below hal)
  have hb2 := hb1.trans (hal.mono hb1.size)
  obtain ⟨C, hC⟩ : ∃ C, u1.heap.size = C := ⟨_, rfl⟩
  have hwC : w.heap.size ≤ C := by rw [← hC]; exact hb1.size
  obtain ⟨u2, hU⟩ : ∃ u2, u1.alloc (.cells #[.slice y1 X.secs.length y2, .slice y3 X.pend.length y4, .int .i64 X.left, .int .i64 X.epoch, .int .i64 X.seq, .int .i64 X.used, .slice y5 X.dirty.length y6] 29) = u2 := ⟨_, rfl⟩
  rw [hU] at hn hl2 hb2 ⊢
  rw [hC] at hn
  (try rw [hC])
  have HC := Lib.hid hn; have HL2 := Lib.hid hl2; have HB2 := Lib.hid hb2
  clear hU hC hal hn hl2 hb2 hlx hb1 HN HLL
  go_upto_region 3 with (first | (go_at_call 14; refine (HS.out _).mono ?_; rintro e u3 ⟨rfl, hb3⟩))
  have HC3 := Lib.hid ((hb3.block _ (lt_of_block HC.out)).trans HC.out)
  have HL3 := Lib.hid (HL2.out.below hb3)
  have HB3 := Lib.hid (HB2.out.trans (hb3.mono HB2.out.size))
  have z2 := below_cell (Below.refl _ u3) HC3.out 2 rfl
  have f2 := block_frozen HC3.out 2
  clear HC HL2 HB2 hb3
  go_upto_region 4 with fail
  have HC4 := Lib.hid (block_set HC3.out 2 (.int .i64 200))
  have HL4 := Lib.hid (HL3.out.apart (w' := u3.setCell ⟨C, 2, none⟩ (.int .i64 200)) HC3.out (box_no _ _ _ _ _ _ _ _ _ _ _ _ _) (by simp) (fun b hb => Below.heap_setCell u3 ⟨C, 2, none⟩ (.int .i64 200) b hb))
  have HB4 := Lib.hid (HB3.out.setCell (p := ⟨C, 2, none⟩) hwC (.int .i64 200))
  obtain ⟨u4, hU⟩ : ∃ u4, u3.setCell ⟨C, 2, none⟩ (.int .i64 200) = u4 := ⟨_, rfl⟩
  rw [hU] at HC4 HL4 HB4 ⊢
  have HXW := Lib.hid (HX.out.below HB4.out)
  have HCM4 := Lib.hid (HCM.out _ _ u4 HL4.out HXW.out)
  clear hU HC3 HL3 HB3 z2 f2 HCM
  have d0 := below_cell (Below.refl _ u4) HC4.out 0 rfl
  have d1 := below_cell (Below.refl _ u4) HC4.out 1 rfl
  have d2 := below_cell (Below.refl _ u4) HC4.out 2 rfl
  have d3 := below_cell (Below.refl _ u4) HC4.out 3 rfl
  have d4 := below_cell (Below.refl _ u4) HC4.out 4 rfl
  have d5 := below_cell (Below.refl _ u4) HC4.out 5 rfl
  have d6 := below_cell (Below.refl _ u4) HC4.out 6 rfl
  go_upto_region 5 with (first | (go_at_call 15; refine HCM4.out.mono ?_; rintro e u5 ⟨vm, rfl, hlm, hb5⟩; obtain ⟨z1, z2, z3, z4, z5, z6, rfl, _⟩ := id hlm.form))
  have hn := heap_alloc_new u5 (.cells #[.slice z1 M.secs.length z2, .slice z3 M.pend.length z4, .int .i64 M.left, .int .i64 M.epoch, .int .i64 M.seq, .int .i64 M.used, .slice z5 M.dirty.length z6] 29)
  have hal := (Below.refl u5.heap.size u5).alloc (Nat.le_refl _) (.cells #[.slice z1 M.secs.length z2, .slice z3 M.pend.length z4, .int .i64 M.left, .int .i64 M.epoch, .int .i64 M.seq, .int .i64 M.used, .slice z5 M.dirty.length z6] 29)
  have hlm2 := hlm.below hal
  have hb6 := (HB4.out.trans (hb5.mono HB4.out.size)).trans (hal.mono (HB4.out.trans (hb5.mono HB4.out.size)).size)
  obtain ⟨D, hD⟩ : ∃ D, u5.heap.size = D := ⟨_, rfl⟩
  obtain ⟨u6, hU⟩ : ∃ u6, u5.alloc (.cells #[.slice z1 M.secs.length z2, .slice z3 M.pend.length z4, .int .i64 M.left, .int .i64 M.epoch, .int .i64 M.seq, .int .i64 M.used, .slice z5 M.dirty.length z6] 29) = u6 := ⟨_, rfl⟩
  rw [hU] at hn hlm2 hb6 ⊢
  rw [hD] at hn
  (try rw [hD])
  have HD := Lib.hid hn; have HM6 := Lib.hid hlm2; have HB6 := Lib.hid hb6
  clear hU hD hal hn hlm hlm2 hb5 hb6 HCM4 HC4 HL4 HXW HB4 d0 d1 d2 d3 d4 d5 d6
  go_upto_region 7 with (first | (go_at_call 11; refine (wlAlive _).mono ?_; rintro e u7 ⟨rfl, hb7⟩))
  have HD7 := Lib.hid ((hb7.block _ (lt_of_block HD.out)).trans HD.out)
  have HM7 := Lib.hid (HM6.out.below hb7)
  have HB7 := Lib.hid (HB6.out.trans (hb7.mono HB6.out.size))
  clear HD HM6 HB6 hb7
  rcases HS2.out with rfl | rfl | rfl
  case' inr.inl =>
    go_wp2_with fail
    go_ret
    exact ⟨rfl, HB7.out⟩
  case' inr.inr =>
    go_wp2_with fail
    go_ret
    exact ⟨rfl, HB7.out⟩
  by_cases hm0 : m = 0
  · subst hm0
    go_wp2_with fail
    go_ret
    exact ⟨rfl, HB7.out⟩
  · obtain ⟨r1, r2, r3, r4, r5, r6, r7⟩ := HS1.out rfl hm0
    have hm0I : ¬ (m : Int) = 0 := by omega
    have HCK7 := HCK.out _ u7 HM7.out r7
    rw [r1] at HCK7
    have HCK7 := Lib.hid HCK7
    have HRS := Lib.hid (And.intro r2 (And.intro r3 (And.intro r4 (And.intro r5 r6))))
    clear r1 r2 r3 r4 r5 r6 r7 HCK HS1 HS2
    have d0 := below_cell (Below.refl _ u7) HD7.out 0 rfl
    have d1 := below_cell (Below.refl _ u7) HD7.out 1 rfl
    have d2 := below_cell (Below.refl _ u7) HD7.out 2 rfl
    have d3 := below_cell (Below.refl _ u7) HD7.out 3 rfl
    have d4 := below_cell (Below.refl _ u7) HD7.out 4 rfl
    have d5 := below_cell (Below.refl _ u7) HD7.out 5 rfl
    have d6 := below_cell (Below.refl _ u7) HD7.out 6 rfl
    go_upto_region 10 with (first | (go_at_call 16; refine HCK7.out.mono ?_; rintro e u8 ⟨vr, rfl, hlr, hb8⟩; obtain ⟨t1, t2, t3, t4, t5, t6, rfl, _⟩ := id hlr.form))
    have hn := heap_alloc_new u8 (.cells #[.slice t1 R.secs.length t2, .slice t3 R.pend.length t4, .int .i64 R.left, .int .i64 R.epoch, .int .i64 R.seq, .int .i64 R.used, .slice t5 R.dirty.length t6] 29)
    have hal := (Below.refl u8.heap.size u8).alloc (Nat.le_refl _) (.cells #[.slice t1 R.secs.length t2, .slice t3 R.pend.length t4, .int .i64 R.left, .int .i64 R.epoch, .int .i64 R.seq, .int .i64 R.used, .slice t5 R.dirty.length t6] 29)
    have hD9 := (hal.block _ (lt_of_block ((hb8.block _ (lt_of_block HD7.out)).trans HD7.out))).trans ((hb8.block _ (lt_of_block HD7.out)).trans HD7.out)
    have hb9 := (HB7.out.trans (hb8.mono HB7.out.size)).trans (hal.mono (HB7.out.trans (hb8.mono HB7.out.size)).size)
    obtain ⟨E, hE⟩ : ∃ E, u8.heap.size = E := ⟨_, rfl⟩
    obtain ⟨u9, hU⟩ : ∃ u9, u8.alloc (.cells #[.slice t1 R.secs.length t2, .slice t3 R.pend.length t4, .int .i64 R.left, .int .i64 R.epoch, .int .i64 R.seq, .int .i64 R.used, .slice t5 R.dirty.length t6] 29) = u9 := ⟨_, rfl⟩
    rw [hU] at hn hD9 hb9 ⊢
    rw [hE] at hn
    (try rw [hE])
    obtain ⟨r2, r3, r4, r5, r6⟩ := HRS.out
    clear hU hE hal hb8 hlr HCK7 HM7 HD7 HB7 HRS d0 d1 d2 d3 d4 d5 d6
    have d2 := below_cell (Below.refl _ u9) hD9 2 rfl
    have d4 := below_cell (Below.refl _ u9) hD9 4 rfl
    have d5 := below_cell (Below.refl _ u9) hD9 5 rfl
    have d6 := below_cell (Below.refl _ u9) hD9 6 rfl
    have e2 := below_cell (Below.refl _ u9) hn 2 rfl
    rw [r2] at d2 r3
    rw [r4] at d4
    rw [r5] at d5
    rw [r6] at d6
    rw [r3] at e2
    have HB9 := Lib.hid hb9
    clear r2 r3 r4 r5 r6 hn hD9 hb9
    have a1 : wrap64 (200 - (m : Int)) = 200 - m := IntWalk.wrap64_in _ ⟨by omega, by omega⟩
    have a2 : wrap64 (200 - (m : Int) - 4) = 200 - m - 4 := IntWalk.wrap64_in _ ⟨by omega, by omega⟩
    have a3 : wrap64 (200 - (m : Int) - 4 - m) = 200 - m - 4 - m := IntWalk.wrap64_in _ ⟨by omega, by omega⟩
    have a4 : wrap64 (200 - (m : Int) - 4 - m - 3) = 200 - m - 4 - m - 3 := IntWalk.wrap64_in _ ⟨by omega, by omega⟩
    go_wp2_with fail
    go_ret
    exact ⟨rfl, HB9.out⟩
end Go.Proofs.YthnmnnlbglpjaaaDoor.lawWalCalls
