/- The walk of TreeOthers. -/
import Derived.Test.YtcejhfpdajbdcaaPkB
import Derived.Test.YtcejhfpdajbdcaaPkT
import Derived.Test.YtcejhfpdajbdcaaWordWalk
import Derived.Test.YtcejhfpdajbdcaaPkV
import Derived.Outline
import Derived.RegionTactic
import Derived.Deep.RegionHeld3
import Derived.Deep.RegionWith
import Derived.Deep.RegionHeld

namespace Go.Proofs.Ytcejhfpdajbdcaa.lawTreeOthers
open Go.RowKit Go.ChangeShapes Go.Sort
set_option linter.unusedVariables false
set_option linter.unusedSimpArgs false

theorem steps_ok (t : Typ) (v : Value) (w : World) (h : IsTyp w v t) (hr : t.right = true) : Calls Try.prog 15 #[v] w fun e w' => (∃ v', e = .returned (.tuple #[v', .int .i64 0]) ∧ IsOps w' v' (stepsS t (nrsU (flatN t.rules)))) ∧ Below w.heap.size w w' := by
  refine (tmSteps v t w h).mono ?_
  rintro e w' ⟨h1, h2⟩
  rw [if_pos hr] at h1
  exact ⟨h1, h2⟩
theorem steps_walk (t : Typ) (x : Cal) (hx : x.ok) (hr : t.right = true) : walkR (stepsS t (nrsU (flatN t.rules))) (x.recB 6) = ⟨0, t.ans x, true, false⟩ :=
  steps_run t _ x hx (fit_all hr).2.1 (nrsU_strict _) fun n => by rw [nrsU_mem]; unfold flatN; rw [List.mem_flatMap]
theorem ops_len {w : World} {v : Value} {l : List Stp} (h : IsOps w v l) : l.length ≤ 9223372036854775807 := by
  obtain ⟨a, len, cap, rfl, h1, h2, h3, _⟩ := h
  omega
theorem deep_small (n : Nat) (h : n ≤ 960) : deepN n ≤ 100000 := by
  unfold deepN
  split
  · omega
  · have : bitsLen ((n : Int) - 1).toNat ≤ 20 := (bitsLen_le_iff _ 20).2 (by omega)
    omega
theorem keepSame' {P : Program} {f : FuncId} {args : Array Value} {w0 : World} {x : KeepT w0} {v : Value}
    (h : Calls P f args x.val fun e w' => e = .returned v ∧ w' = x.val) : Calls P f args x.val fun e w'' => e = .returned v ∧ ∃ y : KeepT w0, w'' = y.val :=
  h.mono fun _ w' ⟨he, hw⟩ => ⟨he, x, hw⟩
theorem other_ans (t : Typ) (nr ip : Nat) (args : List Nat) (h : nr ∉ nrsU (flatN t.rules)) : t.ans ⟨nr, t.arch, ip, args⟩ = t.dflt := by
  unfold Typ.ans
  rw [if_pos rfl]
  exact ans_none _ _ _ _ fun m hm hn => h ((nrsU_mem _ _).2 (List.mem_flatMap.2 ⟨m, hm, hn⟩))
set_option maxRecDepth 100000 in
set_option maxHeartbeats 4000000 in
theorem walk (v0 : Value) (t : Typ) (n0 : Int) (w : World) (w0 : IsTyp w v0 t) (wn : (Lit.int .u32 n0).wf = true) :
    Calls Try.prog 7 #[v0, .int .u32 n0] w fun e w' => e = .returned (.bool true) ∧ Below w.heap.size w w' := by
  obtain ⟨nr, rfl, hnr⟩ := nat32 wn
  obtain ⟨ht1, ht2, k, rfl, hk⟩ := id w0
  obtain ⟨A, n, c, rfl, hl, hc1, hc2, _⟩ := id hk
  have hnrI : (nr : Int) ≤ 4294967295 := by omega
  have HFW := Lib.hid (fun u (hu : Below w.heap.size w u) => refFew18 t _ u (w0.below hu)); have HRT := Lib.hid (fun u (hu : Below w.heap.size w u) => refRight20 t _ u (w0.below hu)); have HAL := Lib.hid (fun u => tnAlive u)
  have HTP := Lib.hid w0
  obtain ⟨G, hG⟩ : ∃ G, w.heap.size = G := ⟨_, rfl⟩
  have hb1 := (Below.refl w.heap.size w).alloc (Nat.le_refl _) (.cells #[.int .u32 (t.arch : Nat), .int .u32 (t.dflt : Nat), .slice A n c] 25)
  have hn1 := heap_alloc_new w (.cells #[.int .u32 (t.arch : Nat), .int .u32 (t.dflt : Nat), .slice A n c] 25)
  obtain ⟨W, hW⟩ : ∃ W, w.alloc (.cells #[.int .u32 (t.arch : Nat), .int .u32 (t.dflt : Nat), .slice A n c] 25) = W := ⟨_, rfl⟩
  rw [hW] at hb1 hn1
  rw [hG] at hn1
  have HB0 := Lib.hid hb1; have HT0 := Lib.hid hn1; have HWW := Lib.hid hW; have HGW := Lib.hid hG; have HT1 := Lib.hid ht1
  clear hb1 hn1 hW hG hl hk w0 hc1 hc2 wn hnr
  go_enter Try.func7, Try.ntmps7
  go_upto_region 1 with fail
  (try rw [HWW.out])
  (try rw [HGW.out])
  have d0 := below_cell (Below.refl _ W) HT0.out 0 rfl
  have d1 := below_cell (Below.refl _ W) HT0.out 1 rfl
  have d2 := below_cell (Below.refl _ W) HT0.out 2 rfl
  have HF1 := Lib.hid (HFW.out W HB0.out)
  clear HWW HFW
  obtain ⟨fw, hfw⟩ : ∃ fw, t.few = fw := ⟨_, rfl⟩
  obtain ⟨rt, hrt⟩ : ∃ rt, t.right = rt := ⟨_, rfl⟩
  rw [hfw] at HF1
  rw [hrt] at HRT
  cases fw with
  | false =>
    clear hfw hrt
    go_wp2_with (first | (go_at_call 13; refine HF1.out.mono ?_; rintro e w2 ⟨rfl, hb2⟩; have e0 := below_cell hb2 HT0.out 0 rfl; have e1 := below_cell hb2 HT0.out 1 rfl; have e2 := below_cell hb2 HT0.out 2 rfl; have HR2 := Lib.hid (HRT.out _ (HB0.out.trans (hb2.mono HB0.out.size)))) | (go_at_call 8; refine (HAL.out _).mono ?_; rintro e w5 ⟨rfl, hb5⟩))
    first
    | (go_ret; exact ⟨by first | rfl | simp, HB0.out.trans ((hb2.trans (hb5.mono hb2.size)).mono HB0.out.size)⟩)
    | (refine bodyPost_ret (results_tmp rfl _ _ _) rfl ?_; exact ⟨by first | rfl | simp, HB0.out.trans ((hb2.trans (hb5.mono hb2.size)).mono HB0.out.size)⟩)
  | true =>
  cases rt with
  | false =>
    clear hfw hrt
    go_wp2_with (first | (go_at_call 13; refine HF1.out.mono ?_; rintro e w2 ⟨rfl, hb2⟩; have e0 := below_cell hb2 HT0.out 0 rfl; have e1 := below_cell hb2 HT0.out 1 rfl; have e2 := below_cell hb2 HT0.out 2 rfl; have HR2 := Lib.hid (HRT.out _ (HB0.out.trans (hb2.mono HB0.out.size)))) | (go_at_call 14; refine HR2.out.mono ?_; rintro e w3 ⟨rfl, hb3⟩; have hb23 := hb2.trans (hb3.mono hb2.size); have r2 := below_cell hb23 HT0.out 2 rfl) | (go_at_call 8; refine (HAL.out _).mono ?_; rintro e w5 ⟨rfl, hb5⟩))
    first
    | (go_ret; exact ⟨by first | rfl | simp, HB0.out.trans ((hb23.trans (hb5.mono hb23.size)).mono HB0.out.size)⟩)
    | (refine bodyPost_ret (results_tmp rfl _ _ _) rfl ?_; exact ⟨by first | rfl | simp, HB0.out.trans ((hb23.trans (hb5.mono hb23.size)).mono HB0.out.size)⟩)
  | true =>
    have HRR := Lib.hid hrt
    clear hfw hrt
    go_upto_region 3 with (first | (go_at_call 13; refine HF1.out.mono ?_; rintro e w2 ⟨rfl, hb2⟩; have e0 := below_cell hb2 HT0.out 0 rfl; have e1 := below_cell hb2 HT0.out 1 rfl; have e2 := below_cell hb2 HT0.out 2 rfl; have HR2 := Lib.hid (HRT.out _ (HB0.out.trans (hb2.mono HB0.out.size)))) | (go_at_call 14; refine HR2.out.mono ?_; rintro e w3 ⟨rfl, hb3⟩; have hb23 := hb2.trans (hb3.mono hb2.size); have r2 := below_cell hb23 HT0.out 2 rfl))
    have HB3 := Lib.hid (HB0.out.trans (hb23.mono HB0.out.size))
    have HT3 := Lib.hid ((hb23.block _ (lt_of_block HT0.out)).trans HT0.out)
    clear hb23 hb2 hb3 r2 e0 e1 e2 d0 d1 d2 HR2 HF1 HRT HT0 HB0
    have d0 := below_cell (Below.refl _ w3) HT3.out 0 rfl
    have d1 := below_cell (Below.refl _ w3) HT3.out 1 rfl
    have d2 := below_cell (Below.refl _ w3) HT3.out 2 rfl
    have HRL := Lib.hid (fit_all HRR.out)
    have HNB := Lib.hid (refNumbers20 _ t w3 (HTP.out.below HB3.out) (by have := HRL.out.2.2; omega))
    have hsz : ((⟨nr, t.arch, 0, [0, 0, 0, 0, 0, 0]⟩ : Cal).recB 6).size = 64 := by rw [Cal.recB_size _ _ (Nat.le_refl 6)]
    have hok : (⟨nr, t.arch, 0, [0, 0, 0, 0, 0, 0]⟩ : Cal).ok := ⟨show nr ≤ 4294967295 by omega, HT1.out, Nat.zero_le _, rfl, by simp⟩
    have htt := steps_tests ((⟨nr, t.arch, 0, [0, 0, 0, 0, 0, 0]⟩ : Cal).recB 6) t (nrsU (flatN t.rules)) HRL.out.2.1
    have HW1 := Lib.hid (steps_walk t _ hok HRR.out)
    have HPK := Lib.hid (fun u => (show Calls Try.prog 16 #[.agg #[.int .u32 (nr : Nat), .int .u32 (t.arch : Nat), .int .u64 0, .int .u64 0, .int .u64 0, .int .u64 0, .int .u64 0, .int .u64 0, .int .u64 0]] u (fun e w' => e = .returned (.string ((⟨nr, t.arch, 0, [0, 0, 0, 0, 0, 0]⟩ : Cal).recB 6)) ∧ Below u.heap.size u w') from refPack_any _ u hok))
    have HS1 := Lib.hid (fun u (hu : Below w.heap.size w u) => steps_ok t _ u (HTP.out.below hu) HRR.out)
    have hoa := other_ans t nr 0 [0, 0, 0, 0, 0, 0]
    have hln : (nrsU (flatN t.rules)).length ≤ 960 := by have h1 := nrsU_len (flatN t.rules); have h2 := HRL.out.2.2; omega
    have hdp : deepN (nrsU (flatN t.rules)).length ≤ 100000 := deep_small _ hln
    have hdd := fun u => tmDeep ((nrsU (flatN t.rules)).length : Nat) u (by omega)
    generalize (⟨nr, t.arch, 0, [0, 0, 0, 0, 0, 0]⟩ : Cal).recB 6 = rec at *
    generalize hSS : stepsS t (nrsU (flatN t.rules)) = SS at *
    generalize hNN : nrsU (flatN t.rules) = LL at *
    generalize deepN (LL.length : Nat) = DD at *
    obtain ⟨TT, hTT⟩ : ∃ TT, tstS rec SS 0 false = TT := ⟨_, rfl⟩
    rw [hTT] at htt
    have httI : (TT : Int) ≤ (DD : Int) + 1 := by omega
    have hddI : (DD : Int) ≤ 100000 := by omega
    have HSS := Lib.hid hSS; have HSZ := Lib.hid hsz; have HDD := Lib.hid hdd; have HOA := Lib.hid hoa; have HTT := Lib.hid hTT; have HLN := Lib.hid hln
    clear hsz hdd hoa hTT hln hdp htt hSS hNN hok
    go_upto_region 4 with (first | (go_at_call 10; refine HNB.out.mono ?_; rintro e y1 ⟨⟨v5, rfl, h5⟩, hb1⟩))
    obtain ⟨A5, n5, c5, rfl, l5, _⟩ := id h5
    have HU1 := Lib.hid h5; have HB4 := Lib.hid (HB3.out.trans (hb1.mono HB3.out.size)); have HT4 := Lib.hid ((hb1.block _ (lt_of_block HT3.out)).trans HT3.out)
    obtain rfl : LL.length = n5 := l5
    obtain ⟨m5, hm5⟩ : ∃ m5, LL.length = m5 := ⟨_, rfl⟩
    have HM5 := Lib.hid hm5
    rw [hm5] at HU1 HDD HLN
    (try rw [hm5])
    have hm5I : (m5 : Int) ≤ 960 := by have := HLN.out; omega
    clear h5 hb1 hm5 d0 d1 d2 HB3 HT3 HNB
    go_upto_region 5 with fail
    go_loop [24] (fun z => ∃ j : Nat, z = .int .i64 (j : Nat) ∧ j ≤ m5 ∧ Hid (∀ i, i < j → LL.getD i 0 ≠ nr)) (fun z => m5 - (intOf z).toNat)
    case atStart => exact ⟨0, rfl, Nat.zero_le _, Lib.hid (fun i hi => absurd hi (Nat.not_lt_zero i))⟩
    case round =>
      obtain ⟨j, rfl, hj, HEV⟩ := hrel
      by_cases hlt : j < m5
      · obtain ⟨bb, oo, rfl, hcell, hx32, _⟩ := u32_at HU1.out (Below.refl _ _) j hlt
        have hjI : (j : Int) < m5 := by omega
        have hnext : LL.getD j 0 ≠ nr → ∀ i, i < j + 1 → LL.getD i 0 ≠ nr := fun h i hi => by
          by_cases e : i < j
          · exact HEV.out i e
          · obtain rfl : i = j := by omega
            exact h
        generalize LL.getD j 0 = x at *
        have hxI : (x : Int) ≤ 4294967295 := by omega
        have HNX := Lib.hid hnext; have HLT := Lib.hid hlt
        clear hnext hlt HEV
        by_cases hx : x = nr
        · subst hx
          go_wp2_with (first | (go_at_call 8; refine (HAL.out _).mono ?_; rintro e w5 ⟨rfl, hb5⟩))
          first
          | (go_ret; exact ⟨by first | rfl | simp, HB4.out.trans (hb5.mono HB4.out.size)⟩)
          | (refine bodyPost_ret (results_tmp rfl _ _ _) rfl ?_; exact ⟨by first | rfl | simp, HB4.out.trans (hb5.mono HB4.out.size)⟩)
        · have hxB : ((x : Int) == (nr : Int)) = false := by rw [beq_eq_false_iff_ne]; omega
          have HX := Lib.hid (HNX.out hx)
          clear hx
          go_wp2_with fail
          go_round
          case rel => exact ⟨j + 1, by go_num, by have := HLT.out; omega, HX⟩
          case measure => have := HLT.out; simp [intOf]; omega
      · obtain rfl : j = m5 := by omega
        have hno : nr ∉ LL := fun hm => by
          obtain ⟨i, hi, e⟩ := List.mem_iff_getElem.1 hm
          exact HEV.out i (by rw [← HM5.out]; exact hi) (by simp [List.getD, hi, e])
        have hw1 := HW1.out
        rw [HOA.out hno] at hw1
        have HW2 := Lib.hid hw1
        clear hw1 hno hlt HEV
        have d0 := below_cell (Below.refl _ y1) HT4.out 0 rfl
        have d1 := below_cell (Below.refl _ y1) HT4.out 1 rfl
        have d2 := below_cell (Below.refl _ y1) HT4.out 2 rfl
        go_upto_region 11 with (first | (go_at_call 15; refine (HS1.out _ HB4.out).mono ?_; rintro e y2 ⟨⟨s1, rfl, ho1⟩, hb2⟩))
        clear d0 d1 d2
        have HO2 := Lib.hid ho1; have HB5 := Lib.hid (HB4.out.trans (hb2.mono HB4.out.size)); have HT5 := Lib.hid ((hb2.block _ (lt_of_block HT4.out)).trans HT4.out)
        clear ho1 hb2 HB4 HT4 HS1
        have d0 := below_cell (Below.refl _ y2) HT5.out 0 rfl
        go_upto_region 12 with (first | (go_at_call 16; refine (HPK.out _).mono ?_; rintro e y3 ⟨rfl, hb3⟩))
        clear d0
        have HO6 := Lib.hid (HO2.out.below hb3); have HB6 := Lib.hid (HB5.out.trans (hb3.mono HB5.out.size)); have HT6 := Lib.hid ((hb3.block _ (lt_of_block HT5.out)).trans HT5.out)
        clear hb3 HB5 HT5 HO2 HPK
        have hk1 := fun (u : World) (hu : Below y3.heap.size y3 u) => wordWalk_any s1 SS rec u (HO6.out.below hu)
        have hk3 := fun (u : World) (hu : Below y3.heap.size y3 u) => refTests s1 SS rec u (HO6.out.below hu) HSZ.out
        rw [HW2.out] at hk1
        rw [HTT.out] at hk3
        unfold Fin4.value at hk1
        have HK1 := Lib.hid hk1; have HK3 := Lib.hid hk3
        clear hk1 hk3
        have bY := (Below.refl y3.heap.size y3)
        have q1 := keep_at HT6.out 1 rfl
        refine wp_region_keep (w0 := y3) (by kernel_rfl) (by kernel_rfl) (Below.refl _ _) ?_
        repeat (go_big_quiet_step (first
          | (go_at_call 8; exact keepCall (HAL.out _))
          | (go_at_call 18; exact keepCall (HK1.out _ (KeepT.below _)))
          | (go_at_call 20; exact keepCall (HK3.out _ (KeepT.below _)))
          | (go_at_call 11; exact keepSame' (HDD.out _))))
        refine wpQuiet_nil ?_
        intro _ hw'
        obtain ⟨x, rfl⟩ := hw'
        have bz4 := x.below
        go_wp2_with fail
        first
        | (go_ret; exact ⟨by first | rfl | simp, HB6.out.trans (bz4.mono HB6.out.size)⟩)
        | (refine bodyPost_ret (results_tmp rfl _ _ _) rfl ?_; exact ⟨by first | rfl | simp, HB6.out.trans (bz4.mono HB6.out.size)⟩)
end Go.Proofs.Ytcejhfpdajbdcaa.lawTreeOthers
