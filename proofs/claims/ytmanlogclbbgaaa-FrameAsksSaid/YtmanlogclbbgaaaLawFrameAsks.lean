/- The walk of FrameAsks. -/
import Derived.Test.YtmanlogclbbgaaaFr14
import Derived.Test.YtmanlogclbbgaaaFr15
import Derived.Test.YtmanlogclbbgaaaOrdL
namespace Go.Proofs.Ytmanlogclbbgaaa.lawFrameAsks
open Go.RowKit
set_option linter.unusedVariables false
set_option linter.unusedSimpArgs false

set_option maxRecDepth 100000 in
set_option maxHeartbeats 2000000 in
theorem walk (v0 : Value) (q : Asq) (s : ByteArray) (w : World) (w0 : IsAsk w v0 q) (w1 : s.size ≤ maxLen) :
    Calls Try.prog 3 #[v0, .string s] w fun e w' => e = .returned (.bool true) ∧ Below w.heap.size w w' := by
  obtain ⟨rfl, hk, hn, l1, l2, l3⟩ := w0
  unfold maxLen at l1 l2 l3 w1
  have HS := Lib.hid (fun u => frShort q u (by omega) (by omega) (by omega))
  have HAL := Lib.hid (fun u => frAlive u)
  obtain ⟨q', hq'⟩ : ∃ q', shortA q = q' := ⟨_, rfl⟩
  have z1 : q'.name.size ≤ 60 := by rw [← hq']; exact cut0_size _ _
  have z2 : q'.source.size ≤ 2100 := by rw [← hq']; exact cut0_size _ _
  have z3 : q'.record.size ≤ 150 := by rw [← hq']; exact cut0_size _ _
  have z4 : q'.no ≤ 9223372036854775807 := by rw [← hq']; exact hn.2
  rw [hq'] at HS
  have hcs : cut0 s 3000 = s.extract 0 (min s.size 3000) := rfl
  have z5 : (cut0 s 3000).size ≤ 3000 := cut0_size _ _
  obtain ⟨s', hs'⟩ : ∃ s', cut0 s 3000 = s' := ⟨_, rfl⟩
  rw [hs'] at hcs z5
  have m1 : min s.size 3000 ≤ s.size := Nat.min_le_left _ _
  have i1 : min (s.size : Int) 3000 = ((min s.size 3000 : Nat) : Int) := by omega
  have j1 : (if (3000 : Int) < s.size then (3000 : Int) else s.size) = ((min s.size 3000 : Nat) : Int) := by split <;> omega
  generalize min s.size 3000 = n1 at *
  have HA := Lib.hid (fun u => frAsk_any q' u (by omega) (by omega) (by omega) z4)
  have HR := Lib.hid (fun u => frReadAsk s' u z5)
  have HRR := Lib.hid (fun u => refReadAsk24 s' u z5)
  have HIS := Lib.hid (fun u => refIsAsk q' u (by omega) (by omega) (by omega))
  have HRA := Lib.hid (fun (h : askOk q' = true) u => refAsk24 q' u h z4)
  have hAE : askOk q' = false → askE q' = 1 ∧ askS q' = ⟨#[]⟩ := fun h => by unfold askE askS; rw [h]; exact ⟨rfl, rfl⟩
  have hAO : askOk q' = true → askE q' = 0 ∧ askS q' = askB q' := fun h => by unfold askE askS; rw [h]; exact ⟨rfl, rfl⟩
  have HAE := Lib.hid hAE; have HAO := Lib.hid hAO; have HCS := Lib.hid hcs
  clear hAE hAO z1 z2 z3 z4 z5 hs' hq' hk hn l1 l2 l3 hcs
  obtain ⟨k0, n0, o0, s0, r0⟩ := q
  obtain ⟨k, nm, no, so, re⟩ := q'
  obtain ⟨v, hv⟩ : ∃ v, readV s' = v := ⟨_, rfl⟩
  obtain ⟨x, hx⟩ : ∃ x, readX s' = x := ⟨_, rfl⟩
  rw [hv, hx] at HR HRR
  obtain ⟨vk, vn, vo, vs, vr⟩ := v
  have hne := fun u => neAsq ⟨vk, vn, vo, vs, vr⟩ ⟨vk, vn, vo, vs, vr⟩ u
  rw [decide_eq_true rfl] at hne
  unfold Asq.value at *
  simp only at HS HR HRR hne HA HIS HRA
  clear hv hx
  have b0 := heap_alloc_new w (.cells #[.int .i64 k0, .string n0, .int .i64 o0, .string s0, .string r0] 23)
  have hb := (Below.refl w.heap.size w).alloc (Nat.le_refl _) (.cells #[.int .i64 k0, .string n0, .int .i64 o0, .string s0, .string r0] 23)
  go_enter Try.func3, Try.ntmps3
  go_upto_region 1 with fail
  obtain ⟨u, hW⟩ : ∃ u, w.alloc (.cells #[.int .i64 k0, .string n0, .int .i64 o0, .string s0, .string r0] 23) = u := ⟨_, rfl⟩
  rw [hW] at b0 hb ⊢
  have c0 := keep_at b0 0 rfl
  have c1 := keep_at b0 1 rfl
  have c2 := keep_at b0 2 rfl
  have c3 := keep_at b0 3 rfl
  have c4 := keep_at b0 4 rfl
  have HB0 := Lib.hid b0; have HB := Lib.hid hb
  clear hW b0 hb
  refine wp_region_ordL (fun i => decide (7 ≤ i)) (fun w' => ∃ x : KeepT u, w' = x.val) (by kernel_rfl) ⟨⟨_, (Below.refl _ u).drew⟩, rfl⟩ ?_
  refine ordL_load (i := 0) (v := .agg #[.int .i64 k0, .string n0, .int .i64 o0, .string s0, .string r0]) rfl (by kernel_rfl) (by rfl) (by kernel_rfl) (by kernel_rfl) (by kernel_rfl) (fun _ _ _ h => h) (by rfl) (fun w hw => ?_) ?_
  · obtain ⟨x, rfl⟩ := hw
    go_simp
  try simp only [Act.put, List.setIfInBounds_toArray, List.set_cons_zero, List.set_cons_succ]
  refine ordL_call (i := 1) (v := .agg #[.int .i64 k, .string nm, .int .i64 no, .string so, .string re]) rfl (by kernel_rfl) (by rfl) (by kernel_rfl) (by kernel_rfl) (by kernel_rfl) (fun _ _ _ h => h) (by rfl) (fun w hw => ?_) ?_
  · obtain ⟨x, rfl⟩ := hw
    refine ⟨_, _, ?_, keepCall (HS.out _)⟩
    go_simp
  try simp only [Act.put, List.setIfInBounds_toArray, List.set_cons_zero, List.set_cons_succ]
  refine ordL_pure (i := 2) (v := .string s) rfl (by kernel_rfl) (by rfl) (by kernel_rfl) (by kernel_rfl) (fun _ _ _ h => h) (by rfl) (fun w => ?_) ?_
  · go_simp
  try simp only [Act.put, List.setIfInBounds_toArray, List.set_cons_zero, List.set_cons_succ]
  refine ordL_pure (i := 3) (v := .string s) rfl (by kernel_rfl) (by rfl) (by kernel_rfl) (by kernel_rfl) (fun _ _ _ h => h) (by rfl) (fun w => ?_) ?_
  · go_simp
  try simp only [Act.put, List.setIfInBounds_toArray, List.set_cons_zero, List.set_cons_succ]
  refine ordL_pure (i := 4) (v := .int .i64 (s.size : Nat)) rfl (by kernel_rfl) (by rfl) (by kernel_rfl) (by kernel_rfl) (fun _ _ _ h => h) (by rfl) (fun w => ?_) ?_
  · go_simp
  try simp only [Act.put, List.setIfInBounds_toArray, List.set_cons_zero, List.set_cons_succ]
  refine ordL_pure (i := 5) (v := .int .i64 (n1 : Nat)) rfl (by kernel_rfl) (by rfl) (by kernel_rfl) (by kernel_rfl) (fun _ _ _ h => h) (by rfl) (fun w => ?_) ?_
  · go_simp
  try simp only [Act.put, List.setIfInBounds_toArray, List.set_cons_zero, List.set_cons_succ]
  refine ordL_pure (i := 6) (v := (.string s')) rfl (by kernel_rfl) (by rfl) (by kernel_rfl) (by kernel_rfl) (fun _ _ _ h => h) (by rfl) (fun w => ?_) ?_
  · rw [HCS.out]; go_simp
  try simp only [Act.put, List.setIfInBounds_toArray, List.set_cons_zero, List.set_cons_succ]
  refine ordL_seq 7 (by kernel_rfl) (by kernel_rfl) (by kernel_rfl) (by kernel_rfl) ?_
  intro y hy
  have hAx := (show y.heap[w.heap.size]? = _ from by obtain ⟨x, rfl⟩ := hy; exact (x.below.block _ (lt_of_block HB0.out)).trans HB0.out)
  have hBx := (show Below w.heap.size w y from by obtain ⟨x, rfl⟩ := hy; exact HB.out.trans (x.below.mono HB.out.size))
  clear hy c0 c1 c2 c3 c4 HB0 HB HCS HS
  simp only [List.drop_succ_cons, List.drop_zero]
  have hS := setRow_heap y w.heap.size _ #[.int .i64 k, .string nm, .int .i64 no, .string so, .string re] _ _ hAx
  have hF := below_setRow hBx (Nat.le_refl _) #[.int .i64 k, .string nm, .int .i64 no, .string so, .string re]
  go_upto_region 2 with (first | (refine wpList_store_row rfl 23 _ _ rfl w.heap.size #[.int .i64 k, .string nm, .int .i64 no, .string so, .string re] rfl rfl 23 _ hAx (by kernel_rfl) rfl (by simp [Value.oneCell']) ?_))
  obtain ⟨z, hz⟩ : ∃ z, y.setRow w.heap.size #[.int .i64 k, .string nm, .int .i64 no, .string so, .string re] = z := ⟨_, rfl⟩
  rw [hz] at hS hF ⊢
  clear hz hAx hBx
  have d0 := below_cell (Below.refl _ _) hS 0 rfl
  have d1 := below_cell (Below.refl _ _) hS 1 rfl
  have d2 := below_cell (Below.refl _ _) hS 2 rfl
  have d3 := below_cell (Below.refl _ _) hS 3 rfl
  have d4 := below_cell (Below.refl _ _) hS 4 rfl
  go_upto_region 3 with (first | (go_at_call 9; refine (HA.out _).mono ?_; rintro e w1 ⟨rfl, hb1⟩))
  have hS1 := (hb1.block _ (lt_of_block hS)).trans hS
  have hF1 := hF.trans (hb1.mono hF.size)
  clear d0 d1 d2 d3 d4 hS hF hb1
  go_upto_region 4 with (first | (go_at_call 10; refine (HR.out _).mono ?_; rintro e w2 ⟨rfl, hb2⟩))
  have hS2 := (heap_alloc_old w2 (.cells #[.int .i64 vk, .string vn, .int .i64 vo, .string vs, .string vr] 23) (lt_of_block ((hb2.block _ (lt_of_block hS1)).trans hS1))).trans ((hb2.block _ (lt_of_block hS1)).trans hS1)
  have hF2 := (hF1.trans (hb2.mono hF1.size)).alloc (hF1.trans (hb2.mono hF1.size)).size (.cells #[.int .i64 vk, .string vn, .int .i64 vo, .string vs, .string vr] 23)
  have hV2 := heap_alloc_new w2 (.cells #[.int .i64 vk, .string vn, .int .i64 vo, .string vs, .string vr] 23)
  obtain ⟨V, hVV⟩ : ∃ V, w2.heap.size = V := ⟨_, rfl⟩
  obtain ⟨z2, hz⟩ : ∃ z, w2.alloc (.cells #[.int .i64 vk, .string vn, .int .i64 vo, .string vs, .string vr] 23) = z := ⟨_, rfl⟩
  rw [hz] at hS2 hF2 hV2 ⊢
  rw [hVV] at hV2 ⊢
  clear hz hS1 hF1 hb2 hVV
  go_upto_region 5 with (first | (go_at_call 11; refine (HRR.out _).mono ?_; rintro e w3 ⟨rfl, hb3⟩))
  have hS3 := (heap_alloc_old w3 (.cells #[.int .i64 vk, .string vn, .int .i64 vo, .string vs, .string vr] 23) (lt_of_block ((hb3.block _ (lt_of_block hS2)).trans hS2))).trans ((hb3.block _ (lt_of_block hS2)).trans hS2)
  have hV3 := (heap_alloc_old w3 (.cells #[.int .i64 vk, .string vn, .int .i64 vo, .string vs, .string vr] 23) (lt_of_block ((hb3.block _ (lt_of_block hV2)).trans hV2))).trans ((hb3.block _ (lt_of_block hV2)).trans hV2)
  have hF3 := (hF2.trans (hb3.mono hF2.size)).alloc (hF2.trans (hb3.mono hF2.size)).size (.cells #[.int .i64 vk, .string vn, .int .i64 vo, .string vs, .string vr] 23)
  have hU3 := heap_alloc_new w3 (.cells #[.int .i64 vk, .string vn, .int .i64 vo, .string vs, .string vr] 23)
  obtain ⟨U, hUU⟩ : ∃ V, w3.heap.size = V := ⟨_, rfl⟩
  obtain ⟨z3, hz⟩ : ∃ z, w3.alloc (.cells #[.int .i64 vk, .string vn, .int .i64 vo, .string vs, .string vr] 23) = z := ⟨_, rfl⟩
  rw [hz] at hS3 hF3 hV3 hU3 ⊢
  rw [hUU] at hU3 ⊢
  clear hz hS2 hF2 hV2 hb3 hUU
  have d0 := below_cell (Below.refl _ _) hV3 0 rfl
  have d1 := below_cell (Below.refl _ _) hV3 1 rfl
  have d2 := below_cell (Below.refl _ _) hV3 2 rfl
  have d3 := below_cell (Below.refl _ _) hV3 3 rfl
  have d4 := below_cell (Below.refl _ _) hV3 4 rfl
  have e0 := below_cell (Below.refl _ _) hU3 0 rfl
  have e1 := below_cell (Below.refl _ _) hU3 1 rfl
  have e2 := below_cell (Below.refl _ _) hU3 2 rfl
  have e3 := below_cell (Below.refl _ _) hU3 3 rfl
  have e4 := below_cell (Below.refl _ _) hU3 4 rfl
  have hxx : (x != x) = false := by simp
  go_upto_region 7 with (first | (go_at_call 12; refine (HAL.out _).mono ?_; rintro e w4 ⟨rfl, hb4⟩))
  have hS4 := (hb4.block _ (lt_of_block hS3)).trans hS3
  have hF4 := hF3.trans (hb4.mono hF3.size)
  clear d0 d1 d2 d3 d4 e0 e1 e2 e3 e4 hS3 hF3 hV3 hU3 hb4
  have d0 := below_cell (Below.refl _ _) hS4 0 rfl
  have d1 := below_cell (Below.refl _ _) hS4 1 rfl
  have d2 := below_cell (Below.refl _ _) hS4 2 rfl
  have d3 := below_cell (Below.refl _ _) hS4 3 rfl
  have d4 := below_cell (Below.refl _ _) hS4 4 rfl
  obtain ⟨aE, haE⟩ : ∃ x, askE ⟨k, nm, no, so, re⟩ = x := ⟨_, rfl⟩
  obtain ⟨aS, haS⟩ : ∃ x, askS ⟨k, nm, no, so, re⟩ = x := ⟨_, rfl⟩
  rw [haE, haS] at HAE HAO ⊢
  clear haE haS HA hne
  cases hok : askOk ⟨k, nm, no, so, re⟩ with
  | false =>
    obtain ⟨rfl, rfl⟩ := HAE.out hok
    rw [hok] at HIS
    clear HAE HAO HRA hok
    go_wp2_with (first | (go_at_call 13; refine (HIS.out _).mono ?_; rintro e w5 ⟨rfl, hb5⟩))
    go_ret
    exact ⟨rfl, hF4.trans (hb5.mono hF4.size)⟩
  | true =>
    obtain ⟨rfl, rfl⟩ := HAO.out hok
    have HRB := Lib.hid (fun u => HRA.out hok u)
    rw [hok] at HIS
    have hq : ((askB ⟨k, nm, no, so, re⟩).toList == (askB ⟨k, nm, no, so, re⟩).toList) = true := by simp
    generalize askB ⟨k, nm, no, so, re⟩ = S at *
    clear HAE HAO HRA hok
    go_upto_region 9 with (first | (go_at_call 13; refine (HIS.out _).mono ?_; rintro e w5 ⟨rfl, hb5⟩))
    have hS5 := (hb5.block _ (lt_of_block hS4)).trans hS4
    have hF5 := hF4.trans (hb5.mono hF4.size)
    clear d0 d1 d2 d3 d4 hS4 hF4 hb5
    have d0 := below_cell (Below.refl _ _) hS5 0 rfl
    have d1 := below_cell (Below.refl _ _) hS5 1 rfl
    have d2 := below_cell (Below.refl _ _) hS5 2 rfl
    have d3 := below_cell (Below.refl _ _) hS5 3 rfl
    have d4 := below_cell (Below.refl _ _) hS5 4 rfl
    go_wp2_with (first | (go_at_call 14; refine (HRB.out _).mono ?_; rintro e w6 ⟨rfl, hb6⟩))
    go_ret
    exact ⟨rfl, hF5.trans (hb6.mono hF5.size)⟩
end Go.Proofs.Ytmanlogclbbgaaa.lawFrameAsks
