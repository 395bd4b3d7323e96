/- The walk of TreeMeans. -/
import Derived.Test.YtcejhfpdajbdcaaPkB
import Derived.Test.YtcejhfpdajbdcaaPkT
import Derived.Test.YtcejhfpdajbdcaaWordWalk
import Derived.Test.YtcejhfpdajbdcaaPkV
import Derived.Test.YtcejhfpdajbdcaaPkU
import Derived.Outline
import Derived.RegionTactic
import Derived.Deep.RegionHeld3
import Derived.Deep.RegionWith
import Derived.Deep.RegionHeld
namespace Go.Proofs.Ytcejhfpdajbdcaa.lawTreeMeans
open Go.RowKit Go.ChangeShapes Go.Sort
set_option linter.unusedVariables false
set_option linter.unusedSimpArgs false

theorem steps_ok (t : Typ) (v : Value) (w : World) (h : IsTyp w v t) (hr : t.right = true) : Calls Try.prog 15 #[v] w fun e w' => (∃ v', e = .returned (.tuple #[v', .int .i64 0]) ∧ IsOps w' v' (stepsS t (nrsU (flatN t.rules)))) ∧ Below w.heap.size w w' := by
  refine (tmSteps v t w h).mono ?_
  rintro e w' ⟨h1, h2⟩
  rw [if_pos hr] at h1
  exact ⟨h1, h2⟩
theorem steps_walk (t : Typ) (x : Cal) (hx : x.ok) (hr : t.right = true) : walkR (stepsS t (nrsU (flatN t.rules))) (x.recB 6) = ⟨0, t.ans x, true, false⟩ :=
  steps_run t _ x hx (fit_all hr).2.1 (nrsU_strict _) fun n => by rw [nrsU_mem]; unfold flatN; rw [List.mem_flatMap]
theorem ops_len {w : World} {v : Value} {l : List Stp} (h : IsOps w v l) : l.length ≤ 9223372036854775807 := by
  obtain ⟨a, len, cap, rfl, h1, h2, h3, _⟩ := h
  omega
theorem deep_small (n : Nat) (h : n ≤ 960) : deepN n ≤ 100000 := by
  unfold deepN
  split
  · omega
  · have : bitsLen ((n : Int) - 1).toNat ≤ 20 := (bitsLen_le_iff _ 20).2 (by omega)
    omega
theorem eval_ans (t : Typ) (x : Cal) : t.eval x = t.ans x := by
  have h : ∀ l : List Mtc, evalR l t.dflt x.nr x.args = ansR t.dflt x.nr x.args l := fun l => by
    induction l with
    | nil => rfl
    | cons m l ih => rw [evalR, ansR, ih]; rfl
  unfold Typ.eval Typ.ans
  rw [h]
set_option maxRecDepth 100000 in
set_option maxHeartbeats 4000000 in
theorem walk (v0 : Value) (t : Typ) (v1 : Value) (x : Cal) (w : World) (w0 : IsTyp w v0 t) (w1 : IsCal w v1 x) :
    Calls Try.prog 4 #[v0, v1] w fun e w' => e = .returned (.bool true) ∧ Below w.heap.size w w' := by
  obtain ⟨rfl, hx⟩ := w1
  obtain ⟨nr, arch, ip, a0, a1, a2, a3, a4, a5, rfl⟩ := Cal.list6 hx
  obtain ⟨ht1, ht2, k, rfl, hk⟩ := id w0
  obtain ⟨A, n, c, rfl, hl, hc1, hc2, _⟩ := id hk
  have hnI : (n : Int) ≤ 9223372036854775807 := by omega
  have HFW := Lib.hid (fun u (hu : Below w.heap.size w u) => refFew18 t _ u (w0.below hu)); have HRT := Lib.hid (fun u (hu : Below w.heap.size w u) => refRight20 t _ u (w0.below hu)); have HAL := Lib.hid (fun u => tnAlive u)
  have HTP := Lib.hid w0; have HK := Lib.hid hk; have HL := Lib.hid hl; have HX := Lib.hid hx
  obtain ⟨G, hG⟩ : ∃ G, w.heap.size = G := ⟨_, rfl⟩
  have hb1 := (Below.refl w.heap.size w).alloc (Nat.le_refl _) (.cells #[.int .u32 (t.arch : Nat), .int .u32 (t.dflt : Nat), .slice A n c] 25)
  have hn1 := heap_alloc_new w (.cells #[.int .u32 (t.arch : Nat), .int .u32 (t.dflt : Nat), .slice A n c] 25)
  obtain ⟨u, hU⟩ : ∃ u, w.alloc (.cells #[.int .u32 (t.arch : Nat), .int .u32 (t.dflt : Nat), .slice A n c] 25) = u := ⟨_, rfl⟩
  have hus : u.heap.size = G + 1 := by rw [← hU, ← hG]; simp
  rw [hU] at hb1 hn1
  have hb2 := (Below.refl u.heap.size u).alloc (Nat.le_refl _) (.cells #[.int .u32 (nr : Nat), .int .u32 (arch : Nat), .int .u64 (ip : Nat), .int .u64 (a0 : Nat), .int .u64 (a1 : Nat), .int .u64 (a2 : Nat), .int .u64 (a3 : Nat), .int .u64 (a4 : Nat), .int .u64 (a5 : Nat)] 39)
  have hn2 := heap_alloc_new u (.cells #[.int .u32 (nr : Nat), .int .u32 (arch : Nat), .int .u64 (ip : Nat), .int .u64 (a0 : Nat), .int .u64 (a1 : Nat), .int .u64 (a2 : Nat), .int .u64 (a3 : Nat), .int .u64 (a4 : Nat), .int .u64 (a5 : Nat)] 39)
  obtain ⟨W, hW⟩ : ∃ W, u.alloc (.cells #[.int .u32 (nr : Nat), .int .u32 (arch : Nat), .int .u64 (ip : Nat), .int .u64 (a0 : Nat), .int .u64 (a1 : Nat), .int .u64 (a2 : Nat), .int .u64 (a3 : Nat), .int .u64 (a4 : Nat), .int .u64 (a5 : Nat)] 39) = W := ⟨_, rfl⟩
  rw [hW] at hb2 hn2
  rw [hus] at hn2
  rw [hG] at hn1
  have HB0 := Lib.hid (hb1.trans (hb2.mono hb1.size)); have HGW := Lib.hid hG
  have HT0 := Lib.hid ((hb2.block _ (lt_of_block hn1)).trans hn1); have HC0 := Lib.hid hn2
  have HUU := Lib.hid hU; have HWW := Lib.hid hW; have HUS := Lib.hid hus
  clear hb1 hb2 hn1 hn2 hU hW hus hG hl hk hx w0 hc1 hc2
  show Calls _ _ #[_, .agg #[.int .u32 (nr : Nat), .int .u32 (arch : Nat), .int .u64 (ip : Nat), .int .u64 (a0 : Nat), .int .u64 (a1 : Nat), .int .u64 (a2 : Nat), .int .u64 (a3 : Nat), .int .u64 (a4 : Nat), .int .u64 (a5 : Nat)]] _ _
  go_enter Try.func4, Try.ntmps4
  go_upto_region 1 with fail
  (try rw [HUU.out])
  (try rw [HWW.out])
  (try rw [HUS.out])
  (try rw [HGW.out])
  have d0 := below_cell (Below.refl _ W) HT0.out 0 rfl
  have d1 := below_cell (Below.refl _ W) HT0.out 1 rfl
  have d2 := below_cell (Below.refl _ W) HT0.out 2 rfl
  have HF1 := Lib.hid (HFW.out W HB0.out)
  clear HUU HWW HUS HFW
  obtain ⟨fw, hfw⟩ : ∃ fw, t.few = fw := ⟨_, rfl⟩
  obtain ⟨rt, hrt⟩ : ∃ rt, t.right = rt := ⟨_, rfl⟩
  rw [hfw] at HF1
  rw [hrt] at HRT
  cases fw with
  | false =>
    clear hfw hrt
    go_wp2_with (first | (go_at_call 13; refine HF1.out.mono ?_; rintro e w2 ⟨rfl, hb2⟩; have e0 := below_cell hb2 HT0.out 0 rfl; have e1 := below_cell hb2 HT0.out 1 rfl; have e2 := below_cell hb2 HT0.out 2 rfl; have HR2 := Lib.hid (HRT.out _ (HB0.out.trans (hb2.mono HB0.out.size)))) | (go_at_call 8; refine (HAL.out _).mono ?_; rintro e w5 ⟨rfl, hb5⟩))
    first
    | (go_ret; exact ⟨rfl, HB0.out.trans ((hb2.trans (hb5.mono hb2.size)).mono HB0.out.size)⟩)
    | (refine bodyPost_ret (results_tmp rfl _ _ _) rfl ?_; exact ⟨rfl, HB0.out.trans ((hb2.trans (hb5.mono hb2.size)).mono HB0.out.size)⟩)
  | true =>
  cases rt with
  | false =>
    clear hfw hrt
    go_wp2_with (first | (go_at_call 13; refine HF1.out.mono ?_; rintro e w2 ⟨rfl, hb2⟩; have e0 := below_cell hb2 HT0.out 0 rfl; have e1 := below_cell hb2 HT0.out 1 rfl; have e2 := below_cell hb2 HT0.out 2 rfl; have HR2 := Lib.hid (HRT.out _ (HB0.out.trans (hb2.mono HB0.out.size)))) | (go_at_call 14; refine HR2.out.mono ?_; rintro e w3 ⟨rfl, hb3⟩; have hb23 := hb2.trans (hb3.mono hb2.size); have r2 := below_cell hb23 HT0.out 2 rfl) | (go_at_call 8; refine (HAL.out _).mono ?_; rintro e w5 ⟨rfl, hb5⟩))
    first
    | (go_ret; exact ⟨rfl, HB0.out.trans ((hb23.trans (hb5.mono hb23.size)).mono HB0.out.size)⟩)
    | (refine bodyPost_ret (results_tmp rfl _ _ _) rfl ?_; exact ⟨rfl, HB0.out.trans ((hb23.trans (hb5.mono hb23.size)).mono HB0.out.size)⟩)
  | true =>
    have HRR := Lib.hid hrt
    clear hfw hrt
    go_upto_region 3 with (first | (go_at_call 13; refine HF1.out.mono ?_; rintro e w2 ⟨rfl, hb2⟩; have e0 := below_cell hb2 HT0.out 0 rfl; have e1 := below_cell hb2 HT0.out 1 rfl; have e2 := below_cell hb2 HT0.out 2 rfl; have HR2 := Lib.hid (HRT.out _ (HB0.out.trans (hb2.mono HB0.out.size)))) | (go_at_call 14; refine HR2.out.mono ?_; rintro e w3 ⟨rfl, hb3⟩; have hb23 := hb2.trans (hb3.mono hb2.size)))
    have HB3 := Lib.hid (HB0.out.trans (hb23.mono HB0.out.size))
    have HT3 := Lib.hid ((hb23.block _ (lt_of_block HT0.out)).trans HT0.out); have HC3 := Lib.hid ((hb23.block _ (lt_of_block HC0.out)).trans HC0.out)
    clear hb23 hb2 hb3 e0 e1 e2 d0 d1 d2 HR2 HF1 HRT HT0 HC0 HB0
    have d0 := below_cell (Below.refl _ w3) HT3.out 0 rfl
    have d1 := below_cell (Below.refl _ w3) HT3.out 1 rfl
    have d2 := below_cell (Below.refl _ w3) HT3.out 2 rfl
    have HRL := Lib.hid (fit_all HRR.out)
    have HS1 := Lib.hid (fun u (hu : Below w.heap.size w u) => steps_ok t _ u (HTP.out.below hu) HRR.out)
    have HPK := Lib.hid (fun u => refPack_any _ u HX.out)
    have HEV := Lib.hid (fun u (hu : Below w.heap.size w u) => refEval18 t _ u _ HX.out (HTP.out.below hu))
    have HNB := Lib.hid (fun u (hu : Below w.heap.size w u) => refNumbers20 _ t u (HTP.out.below hu) (by have := HRL.out.2.2; omega))
    have HW1 := Lib.hid (steps_walk t _ HX.out HRR.out)
    have htt := steps_tests ((⟨nr, arch, ip, [a0, a1, a2, a3, a4, a5]⟩ : Cal).recB 6) t (nrsU (flatN t.rules)) HRL.out.2.1
    have hsz : ((⟨nr, arch, ip, [a0, a1, a2, a3, a4, a5]⟩ : Cal).recB 6).size = 64 := by rw [Cal.recB_size _ _ (by have := HX.out.2.2.2.1; omega)]
    have HTT := Lib.hid htt; have HSZ := Lib.hid hsz
    clear htt hsz
    go_upto_region 4 with (first | (go_at_call 15; refine (HS1.out _ HB3.out).mono ?_; rintro e y1 ⟨⟨s1, rfl, ho1⟩, hb1⟩))
    clear d0 d1 d2
    have HO1 := Lib.hid ho1; have HB4 := Lib.hid (HB3.out.trans (hb1.mono HB3.out.size)); have HT4 := Lib.hid ((hb1.block _ (lt_of_block HT3.out)).trans HT3.out); have HC4 := Lib.hid ((hb1.block _ (lt_of_block HC3.out)).trans HC3.out)
    clear ho1 hb1 HB3 HT3 HC3 HS1
    have k0 := below_cell (Below.refl _ y1) HC4.out 0 rfl
    have k1 := below_cell (Below.refl _ y1) HC4.out 1 rfl
    have k2 := below_cell (Below.refl _ y1) HC4.out 2 rfl
    have k3 := below_cell (Below.refl _ y1) HC4.out 3 rfl
    have k4 := below_cell (Below.refl _ y1) HC4.out 4 rfl
    have k5 := below_cell (Below.refl _ y1) HC4.out 5 rfl
    have k6 := below_cell (Below.refl _ y1) HC4.out 6 rfl
    have k7 := below_cell (Below.refl _ y1) HC4.out 7 rfl
    have k8 := below_cell (Below.refl _ y1) HC4.out 8 rfl
    go_upto_region 5 with (first | (go_at_call 16; refine (HPK.out _).mono ?_; rintro e y4 ⟨rfl, hb4⟩))
    clear k0 k1 k2 k3 k4 k5 k6 k7 k8
    have HO5 := Lib.hid (HO1.out.below hb4); have HB5 := Lib.hid (HB4.out.trans (hb4.mono HB4.out.size)); have HT5 := Lib.hid ((hb4.block _ (lt_of_block HT4.out)).trans HT4.out); have HC5 := Lib.hid ((hb4.block _ (lt_of_block HC4.out)).trans HC4.out)
    clear hb4 HB4 HT4 HC4 HO1 HPK
    have d0 := below_cell (Below.refl _ y4) HT5.out 0 rfl
    have d1 := below_cell (Below.refl _ y4) HT5.out 1 rfl
    have d2 := below_cell (Below.refl _ y4) HT5.out 2 rfl
    have k0 := below_cell (Below.refl _ y4) HC5.out 0 rfl
    have k1 := below_cell (Below.refl _ y4) HC5.out 1 rfl
    have k2 := below_cell (Below.refl _ y4) HC5.out 2 rfl
    have k3 := below_cell (Below.refl _ y4) HC5.out 3 rfl
    have k4 := below_cell (Below.refl _ y4) HC5.out 4 rfl
    have k5 := below_cell (Below.refl _ y4) HC5.out 5 rfl
    have k6 := below_cell (Below.refl _ y4) HC5.out 6 rfl
    have k7 := below_cell (Below.refl _ y4) HC5.out 7 rfl
    have k8 := below_cell (Below.refl _ y4) HC5.out 8 rfl
    have hev := HEV.out y4 HB5.out
    rw [eval_ans] at hev
    generalize t.ans ⟨nr, arch, ip, [a0, a1, a2, a3, a4, a5]⟩ = P at *
    generalize (⟨nr, arch, ip, [a0, a1, a2, a3, a4, a5]⟩ : Cal).recB 6 = rec at *
    have HE5 := Lib.hid hev
    clear hev HEV
    go_upto_region 6 with (first | (go_at_call 17; refine HE5.out.mono ?_; rintro e y5 ⟨rfl, hb5⟩))
    clear d0 d1 d2 k0 k1 k2 k3 k4 k5 k6 k7 k8
    obtain ⟨NN, hN⟩ : ∃ NN, y5.heap.size = NN := ⟨_, rfl⟩
    have f1 := heap_alloc_new y5 (.cells #[.int .i64 0, .int .u32 (P : Nat), .bool true, .bool false] 48)
    have g1 := (Below.refl y5.heap.size y5).alloc (Nat.le_refl _) (.cells #[.int .i64 0, .int .u32 (P : Nat), .bool true, .bool false] 48)
    obtain ⟨Y, hY⟩ : ∃ Y, y5.alloc (.cells #[.int .i64 0, .int .u32 (P : Nat), .bool true, .bool false] 48) = Y := ⟨_, rfl⟩
    rw [hY] at f1 g1 ⊢
    rw [hN] at f1
    (try rw [hN])
    have hb5Y := hb5.trans (g1.mono hb5.size)
    have HB6 := Lib.hid (HB5.out.trans (hb5Y.mono HB5.out.size)); have HT6 := Lib.hid ((hb5Y.block _ (lt_of_block HT5.out)).trans HT5.out); have HO6 := Lib.hid (HO5.out.below hb5Y)
    have HP1 := Lib.hid f1
    clear f1 g1 hY hN hb5 hb5Y HB5 HT5 HC5 HO5 HE5
    generalize hSS : stepsS t (nrsU (flatN t.rules)) = SS at *
    generalize hNN : nrsU (flatN t.rules) = LL at *
    have hk1 := fun (u : World) (hu : Below Y.heap.size Y u) => wordWalk_any s1 _ rec u (HO6.out.below hu)
    have hk2 := fun (u : World) (hu : Below Y.heap.size Y u) => refWalk_any s1 _ rec u (HO6.out.below hu)
    have hk3 := fun (u : World) (hu : Below Y.heap.size Y u) => refTests s1 _ rec u (HO6.out.below hu) HSZ.out
    rw [HW1.out] at hk1 hk2
    unfold Fin4.value at hk1 hk2
    obtain ⟨TT, hTT⟩ : ∃ TT, tstS rec SS 0 false = TT := ⟨_, rfl⟩
    rw [hTT] at hk3 HTT
    have hln : LL.length ≤ 960 := by have h1 := nrsU_len (flatN t.rules); have h2 := HRL.out.2.2; rw [hNN] at h1; omega
    have hdp : deepN LL.length ≤ 100000 := deep_small _ hln
    have hdd := fun u => refDeep (LL.length : Nat) u (by omega)
    have htt := HTT.out
    generalize deepN (LL.length : Nat) = DD at *
    have httI : (TT : Int) ≤ (DD : Int) + 1 := by omega
    have hddI : (DD : Int) ≤ 100000 := by omega
    have HK1 := Lib.hid hk1; have HK2 := Lib.hid hk2; have HK3 := Lib.hid hk3; have HDD := Lib.hid hdd
    clear hk1 hk2 hk3 hTT hdp hdd hln htt hSS hNN HW1 HTT
    have bY := (Below.refl Y.heap.size Y)
    have HKS := Lib.hid (fun (u : World) (hu : Below Y.heap.size Y u) => (show Below Y.heap.size Y u ∧ u.cell? ⟨NN, 0, none⟩ = some (.int .i64 0) ∧ u.cell? ⟨NN, 1, none⟩ = some (.int .u32 (P : Nat)) ∧ u.cell? ⟨NN, 2, none⟩ = some (.bool true) ∧ u.cell? ⟨NN, 3, none⟩ = some (.bool false) ∧ u.cell? ⟨G, 0, none⟩ = some (.int .u32 (t.arch : Nat)) ∧ u.cell? ⟨G, 1, none⟩ = some (.int .u32 (t.dflt : Nat)) ∧ u.cell? ⟨G, 2, none⟩ = some (.slice A n c) from ⟨hu, below_cell hu HP1.out 0 rfl, below_cell hu HP1.out 1 rfl, below_cell hu HP1.out 2 rfl, below_cell hu HP1.out 3 rfl, below_cell hu HT6.out 0 rfl, below_cell hu HT6.out 1 rfl, below_cell hu HT6.out 2 rfl⟩))
    refine wp_region_held_drew (S := fun u => Below Y.heap.size Y u ∧ u.cell? ⟨NN, 0, none⟩ = some (.int .i64 0) ∧ u.cell? ⟨NN, 1, none⟩ = some (.int .u32 (P : Nat)) ∧ u.cell? ⟨NN, 2, none⟩ = some (.bool true) ∧ u.cell? ⟨NN, 3, none⟩ = some (.bool false) ∧ u.cell? ⟨G, 0, none⟩ = some (.int .u32 (t.arch : Nat)) ∧ u.cell? ⟨G, 1, none⟩ = some (.int .u32 (t.dflt : Nat)) ∧ u.cell? ⟨G, 2, none⟩ = some (.slice A n c)) (by kernel_rfl) (HKS.out _ bY.drew) (fun hS => ?_)
    obtain ⟨Wd, hWd⟩ : ∃ Wd, Y.drew = Wd := ⟨_, rfl⟩
    rw [hWd] at hS ⊢
    clear hWd bY
    refine wpAnyH_ready (rs := [0]) (by kernel_rfl) (by simp) ?_
    refine AllReadyH.cons rfl (fun K hK => ?_) AllReadyH.nil
    go_simp
    refine (HAL.out _).mono ?_
    rintro e _ ⟨rfl, hb⟩
    refine hK.out _ _ (HKS.out _ (hS.1.trans (hb.mono hS.1.size))) (fun hS => ?_)
    clear hK K
    try simp only [Act.put, List.setIfInBounds_toArray, List.set_cons_zero, List.set_cons_succ]
    refine wpAnyH_ready (rs := [1]) (by kernel_rfl) (by simp) ?_
    refine AllReadyH.cons rfl (fun K hK => ?_) AllReadyH.nil
    go_simp
    refine hK.out _ _ (hS) (fun hS => ?_)
    clear hK K
    try simp only [Act.put, List.setIfInBounds_toArray, List.set_cons_zero, List.set_cons_succ]
    refine wpAnyH_ready (rs := [2]) (by kernel_rfl) (by simp) ?_
    refine AllReadyH.cons rfl (fun K hK => ?_) AllReadyH.nil
    go_simp
    refine hK.out _ _ (hS) (fun hS => ?_)
    clear hK K
    try simp only [Act.put, List.setIfInBounds_toArray, List.set_cons_zero, List.set_cons_succ]
    refine wpAnyH_ready (rs := [3]) (by kernel_rfl) (by simp) ?_
    refine AllReadyH.cons rfl (fun K hK => ?_) AllReadyH.nil
    go_simp
    refine hK.out _ _ (hS) (fun hS => ?_)
    clear hK K
    try simp only [Act.put, List.setIfInBounds_toArray, List.set_cons_zero, List.set_cons_succ]
    refine wpAnyH_ready (rs := [4]) (by kernel_rfl) (by simp) ?_
    refine AllReadyH.cons rfl (fun K hK => ?_) AllReadyH.nil
    go_simp
    refine hK.out _ _ (hS) (fun hS => ?_)
    clear hK K
    try simp only [Act.put, List.setIfInBounds_toArray, List.set_cons_zero, List.set_cons_succ]
    refine wpAnyH_ready (rs := [5]) (by kernel_rfl) (by simp) ?_
    refine AllReadyH.cons rfl (fun K hK => ?_) AllReadyH.nil
    go_simp
    refine hK.out _ _ (hS) (fun hS => ?_)
    clear hK K
    try simp only [Act.put, List.setIfInBounds_toArray, List.set_cons_zero, List.set_cons_succ]
    refine wpAnyH_take (i := 6) (v := s1) rfl (by kernel_rfl) (by kernel_rfl) (by kernel_rfl) (fun _ _ _ h => h) (Or.inl ⟨by rfl, fun w hSw => ?_⟩) (by assumption) ?_
    · clear hSw; go_simp
    try simp only [Act.put, List.setIfInBounds_toArray, List.set_cons_zero, List.set_cons_succ]
    refine wpAnyH_take (i := 7) (v := (.string rec)) rfl (by kernel_rfl) (by kernel_rfl) (by kernel_rfl) (fun _ _ _ h => h) (Or.inl ⟨by rfl, fun w hSw => ?_⟩) (by assumption) ?_
    · clear hSw; go_simp
    try simp only [Act.put, List.setIfInBounds_toArray, List.set_cons_zero, List.set_cons_succ]
    refine wpAnyH_take (i := 9) (v := (.agg #[.int .i64 0, .int .u32 (P : Nat), .bool true, .bool false])) rfl (by kernel_rfl) (by kernel_rfl) (by kernel_rfl) (fun _ _ _ h => h) (Or.inl ⟨by rfl, fun w hSw => ?_⟩) (by assumption) ?_
    · obtain ⟨_, s0, s1, s2, s3, s4, s5, s6⟩ := hSw
      go_simp
    try simp only [Act.put, List.setIfInBounds_toArray, List.set_cons_zero, List.set_cons_succ]
    refine wpAnyH_ready (rs := [8]) (by kernel_rfl) (by simp) ?_
    refine AllReadyH.cons rfl (fun K hK => ?_) AllReadyH.nil
    go_simp
    refine (HK1.out _ hS.1).mono ?_
    rintro e _ ⟨rfl, hb⟩
    refine hK.out _ _ (HKS.out _ (hS.1.trans (hb.mono hS.1.size))) (fun hS => ?_)
    clear hK K
    try simp only [Act.put, List.setIfInBounds_toArray, List.set_cons_zero, List.set_cons_succ]
    refine wpAnyH_ready (rs := [10]) (by kernel_rfl) (by simp) ?_
    refine AllReadyH.cons rfl (fun K hK => ?_) AllReadyH.nil
    go_simp
    refine hK.out _ _ (hS) (fun hS => ?_)
    clear hK K
    try simp only [Act.put, List.setIfInBounds_toArray, List.set_cons_zero, List.set_cons_succ]
    refine wpAnyH_ready (rs := [11]) (by kernel_rfl) (by simp) ?_
    refine AllReadyH.cons rfl (fun K hK => ?_) AllReadyH.nil
    go_simp
    refine hK.out _ _ (hS) (fun hS => ?_)
    clear hK K
    try simp only [Act.put, List.setIfInBounds_toArray, List.set_cons_zero, List.set_cons_succ]
    refine wpAnyH_ready (rs := [12]) (by kernel_rfl) (by simp) ?_
    refine AllReadyH.cons rfl (fun K hK => ?_) AllReadyH.nil
    go_simp
    refine hK.out _ _ (hS) (fun hS => ?_)
    clear hK K
    try simp only [Act.put, List.setIfInBounds_toArray, List.set_cons_zero, List.set_cons_succ]
    refine wpAnyH_take (i := 13) (v := s1) rfl (by kernel_rfl) (by kernel_rfl) (by kernel_rfl) (fun _ _ _ h => h) (Or.inl ⟨by rfl, fun w hSw => ?_⟩) (by assumption) ?_
    · clear hSw; go_simp
    try simp only [Act.put, List.setIfInBounds_toArray, List.set_cons_zero, List.set_cons_succ]
    refine wpAnyH_take (i := 14) (v := (.string rec)) rfl (by kernel_rfl) (by kernel_rfl) (by kernel_rfl) (fun _ _ _ h => h) (Or.inl ⟨by rfl, fun w hSw => ?_⟩) (by assumption) ?_
    · clear hSw; go_simp
    try simp only [Act.put, List.setIfInBounds_toArray, List.set_cons_zero, List.set_cons_succ]
    refine wpAnyH_take (i := 16) (v := (.agg #[.int .i64 0, .int .u32 (P : Nat), .bool true, .bool false])) rfl (by kernel_rfl) (by kernel_rfl) (by kernel_rfl) (fun _ _ _ h => h) (Or.inl ⟨by rfl, fun w hSw => ?_⟩) (by assumption) ?_
    · obtain ⟨_, s0, s1, s2, s3, s4, s5, s6⟩ := hSw
      go_simp
    try simp only [Act.put, List.setIfInBounds_toArray, List.set_cons_zero, List.set_cons_succ]
    refine wpAnyH_ready (rs := [15]) (by kernel_rfl) (by simp) ?_
    refine AllReadyH.cons rfl (fun K hK => ?_) AllReadyH.nil
    go_simp
    refine (HK2.out _ hS.1).mono ?_
    rintro e _ ⟨rfl, hb⟩
    refine hK.out _ _ (HKS.out _ (hS.1.trans (hb.mono hS.1.size))) (fun hS => ?_)
    clear hK K
    try simp only [Act.put, List.setIfInBounds_toArray, List.set_cons_zero, List.set_cons_succ]
    refine wpAnyH_ready (rs := [17]) (by kernel_rfl) (by simp) ?_
    refine AllReadyH.cons rfl (fun K hK => ?_) AllReadyH.nil
    go_simp
    refine hK.out _ _ (hS) (fun hS => ?_)
    clear hK K
    try simp only [Act.put, List.setIfInBounds_toArray, List.set_cons_zero, List.set_cons_succ]
    refine wpAnyH_ready (rs := [18]) (by kernel_rfl) (by simp) ?_
    refine AllReadyH.cons rfl (fun K hK => ?_) AllReadyH.nil
    go_simp
    refine hK.out _ _ (hS) (fun hS => ?_)
    clear hK K
    try simp only [Act.put, List.setIfInBounds_toArray, List.set_cons_zero, List.set_cons_succ]
    refine wpAnyH_ready (rs := [19]) (by kernel_rfl) (by simp) ?_
    refine AllReadyH.cons rfl (fun K hK => ?_) AllReadyH.nil
    go_simp
    refine hK.out _ _ (hS) (fun hS => ?_)
    clear hK K
    try simp only [Act.put, List.setIfInBounds_toArray, List.set_cons_zero, List.set_cons_succ]
    refine wpAnyH_take (i := 20) (v := s1) rfl (by kernel_rfl) (by kernel_rfl) (by kernel_rfl) (fun _ _ _ h => h) (Or.inl ⟨by rfl, fun w hSw => ?_⟩) (by assumption) ?_
    · clear hSw; go_simp
    try simp only [Act.put, List.setIfInBounds_toArray, List.set_cons_zero, List.set_cons_succ]
    refine wpAnyH_take (i := 21) (v := (.string rec)) rfl (by kernel_rfl) (by kernel_rfl) (by kernel_rfl) (fun _ _ _ h => h) (Or.inl ⟨by rfl, fun w hSw => ?_⟩) (by assumption) ?_
    · clear hSw; go_simp
    try simp only [Act.put, List.setIfInBounds_toArray, List.set_cons_zero, List.set_cons_succ]
    refine wpAnyH_take (i := 23) (v := (.agg #[.int .u32 (t.arch : Nat), .int .u32 (t.dflt : Nat), .slice A n c])) rfl (by kernel_rfl) (by kernel_rfl) (by kernel_rfl) (fun _ _ _ h => h) (Or.inl ⟨by rfl, fun w hSw => ?_⟩) (by assumption) ?_
    · obtain ⟨_, s0, s1, s2, s3, s4, s5, s6⟩ := hSw
      go_simp
    try simp only [Act.put, List.setIfInBounds_toArray, List.set_cons_zero, List.set_cons_succ]
    refine wpAnyH_ready (rs := [22]) (by kernel_rfl) (by simp) ?_
    refine AllReadyH.cons rfl (fun K hK => ?_) AllReadyH.nil
    go_simp
    refine (HK3.out _ hS.1).mono ?_
    rintro e _ ⟨rfl, hb⟩
    refine hK.out _ _ (HKS.out _ (hS.1.trans (hb.mono hS.1.size))) (fun hS => ?_)
    clear hK K
    try simp only [Act.put, List.setIfInBounds_toArray, List.set_cons_zero, List.set_cons_succ]
    refine wpAnyH_ready (rs := [24]) (by kernel_rfl) (by simp) ?_
    refine AllReadyH.cons rfl (fun K hK => ?_) AllReadyH.nil
    go_simp
    refine (HNB.out _ (HB6.out.trans (hS.1.mono HB6.out.size))).mono ?_
    rintro e _ ⟨⟨v5, rfl, h5⟩, hb⟩
    obtain ⟨A5, n5, c5, rfl, l5, _⟩ := h5
    obtain rfl : LL.length = n5 := l5
    refine hK.out _ _ (HKS.out _ (hS.1.trans (hb.mono hS.1.size))) (fun hS => ?_)
    clear hK K
    try simp only [Act.put, List.setIfInBounds_toArray, List.set_cons_zero, List.set_cons_succ]
    refine wpAnyH_ready (rs := [25]) (by kernel_rfl) (by simp) ?_
    refine AllReadyH.cons rfl (fun K hK => ?_) AllReadyH.nil
    go_simp
    refine hK.out _ _ (hS) (fun hS => ?_)
    clear hK K
    try simp only [Act.put, List.setIfInBounds_toArray, List.set_cons_zero, List.set_cons_succ]
    refine wpAnyH_ready (rs := [26]) (by kernel_rfl) (by simp) ?_
    refine AllReadyH.cons rfl (fun K hK => ?_) AllReadyH.nil
    go_simp
    refine (HDD.out _).mono ?_
    rintro e _ ⟨rfl, rfl⟩
    refine hK.out _ _ (hS) (fun hS => ?_)
    clear hK K
    try simp only [Act.put, List.setIfInBounds_toArray, List.set_cons_zero, List.set_cons_succ]
    refine wpAnyH_ready (rs := [27]) (by kernel_rfl) (by simp) ?_
    refine AllReadyH.cons rfl (fun K hK => ?_) AllReadyH.nil
    go_simp
    refine hK.out _ _ (hS) (fun hS => ?_)
    clear hK K
    try simp only [Act.put, List.setIfInBounds_toArray, List.set_cons_zero, List.set_cons_succ]
    refine wpAnyH_ready (rs := [28]) (by kernel_rfl) (by simp) ?_
    refine AllReadyH.cons rfl (fun K hK => ?_) AllReadyH.nil
    go_simp
    refine hK.out _ _ (hS) (fun hS => ?_)
    clear hK K
    try simp only [Act.put, List.setIfInBounds_toArray, List.set_cons_zero, List.set_cons_succ]
    refine wpAnyH_ready (rs := [29]) (by kernel_rfl) (by simp) ?_
    refine AllReadyH.cons rfl (fun K hK => ?_) AllReadyH.nil
    go_simp
    refine hK.out _ _ (hS) (fun hS => ?_)
    clear hK K
    try simp only [Act.put, List.setIfInBounds_toArray, List.set_cons_zero, List.set_cons_succ]
    refine wpAnyH_ready (rs := [30]) (by kernel_rfl) (by simp) ?_
    refine AllReadyH.cons rfl (fun K hK => ?_) AllReadyH.nil
    go_simp
    refine hK.out _ _ (hS) (fun hS => ?_)
    clear hK K
    try simp only [Act.put, List.setIfInBounds_toArray, List.set_cons_zero, List.set_cons_succ]
    refine wpAnyH_done (by kernel_rfl) ?_ _
    have hfin := HB6.out.trans (hS.1.mono HB6.out.size)
    have hwI : IntKind.i64.wrap ((DD : Int) + 1) = (DD : Int) + 1 := IntWalk.i64_in _ (by omega)
    go_wp2_with fail
    first
    | (go_ret; exact ⟨by first | rfl | (simp [hwI]; omega) | simp, hfin⟩)
    | (refine bodyPost_ret (results_tmp rfl _ _ _) rfl ?_; exact ⟨by first | rfl | (simp [hwI]; omega) | simp, hfin⟩)
end Go.Proofs.Ytcejhfpdajbdcaa.lawTreeMeans
