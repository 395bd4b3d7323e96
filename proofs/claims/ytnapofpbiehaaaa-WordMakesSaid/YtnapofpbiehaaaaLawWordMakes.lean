/- The walk of WordMakes. -/
import Derived.Test.YtnapofpbiehaaaaWm8
import Derived.Test.YtnapofpbiehaaaaRef15M
import Derived.Deep.RegionWith
namespace Go.Proofs.Ytnapofpbiehaaaa.lawWordMakes
open Go.RowKit Go.ChangeShapes Go.Deep
set_option linter.unusedVariables false

set_option maxRecDepth 100000 in
set_option maxHeartbeats 8000000 in
theorem walk (v : Value) (c : Cnd) (yes no next : Int) (w : World) (w0 : IsCnd w v c) (wy : (Lit.int .i64 yes).wf = true) (wn : (Lit.int .i64 no).wf = true) (wx : (Lit.int .i64 next).wf = true) :
    Calls Try.prog 3 #[v, .int .i64 yes, .int .i64 no, .int .i64 next] w fun e w' => e = .returned (.bool true) ∧ Below w.heap.size w w' := by
  obtain ⟨hb, k, rfl, hk⟩ := id w0
  obtain ⟨ka, kn, kc, rfl, hkn, _⟩ := id hk
  obtain ⟨W, hW, f0, hBW⟩ : ∃ W, W = w.alloc (.cells #[.int .i64 c.kind, .slice ka kn kc, .int .i64 c.arg, .int .u64 (c.mask : Nat), .string c.sign, .int .u64 (c.value : Nat)] 25) ∧ W.heap[w.heap.size]? = some (.cells #[.int .i64 c.kind, .slice ka kn kc, .int .i64 c.arg, .int .u64 (c.mask : Nat), .string c.sign, .int .u64 (c.value : Nat)] 25 (0, 0)) ∧ Below w.heap.size w W := ⟨_, rfl, heap_alloc_new w _, (Below.refl _ _).alloc (Nat.le_refl _) _⟩
  have hM := fun L (h1 : 1 ≤ L) (h2 : L ≤ 1000) u (hu : Below W.heap.size W u) => refMany_any c _ L u (w0.below (hBW.trans (hu.mono hBW.size))) h1 h2
  have hR := fun u (hu : Below W.heap.size W u) => refRight16 c _ u (w0.below (hBW.trans (hu.mono hBW.size)))
  have hT := fun u (hu : Below W.heap.size W u) => refTests16 c _ u (w0.below (hBW.trans (hu.mono hBW.size)))
  have hC1 := fun (hr : c.right = true) h1 h2 h3 h4 h5 h6 u (hu : Below W.heap.size W u) => wordCond_ok c (.slice ka kn kc) u yes no next (w0.below (hBW.trans (hu.mono hBW.size))) hr h1 h2 h3 h4 h5 h6
  have hC2 := fun hbad u (hu : Below W.heap.size W u) => wordCond_bad c (.slice ka kn kc) u yes no next (w0.below (hBW.trans (hu.mono hBW.size))) hbad
  have hfacts : c.right = true → c.size ≤ 100 ∧ c.testN = c.tests ∧ c.tests ≤ c.size ∧ (condS c yes no next).1.length + 1 ≤ 9 * c.tests + c.size ∧ next ≤ (condS c yes no next).2 ∧ FitsL yes no next (condS c yes no next).2 (condS c yes no next).1 := fun hr => by
    have hf : c.fine = true ∧ c.size ≤ 100 := by unfold Cnd.right at hr; rw [Bool.and_eq_true, decide_eq_true_eq] at hr; exact ⟨hr.2, hr.1⟩
    have h2 := cond_len c hf.1 yes no next
    exact ⟨hf.2, by unfold Cnd.testN; rw [if_pos hr], tests_le_size c, h2.1, h2.2.1, cond_fits c hf.1 yes no next⟩
  have HA := Lib.hid (fun u => wordAlive u)
  have hcells : ∀ u, Below W.heap.size W u → u.cell? ⟨w.heap.size, 0, none⟩ = some (.int .i64 c.kind) ∧ u.cell? ⟨w.heap.size, 1, none⟩ = some (.slice ka kn kc) ∧ u.cell? ⟨w.heap.size, 2, none⟩ = some (.int .i64 c.arg) ∧ u.cell? ⟨w.heap.size, 3, none⟩ = some (.int .u64 (c.mask : Nat)) ∧ u.cell? ⟨w.heap.size, 4, none⟩ = some (.string c.sign) ∧ u.cell? ⟨w.heap.size, 5, none⟩ = some (.int .u64 (c.value : Nat)) := fun u hu => ⟨below_cell hu f0 0 rfl, below_cell hu f0 1 rfl, below_cell hu f0 2 rfl, below_cell hu f0 3 rfl, below_cell hu f0 4 rfl, below_cell hu f0 5 rfl⟩
  change ∀ u, Below W.heap.size W u → Calls _ _ #[.agg #[.int .i64 c.kind, .slice ka kn kc, .int .i64 c.arg, .int .u64 (c.mask : Nat), .string c.sign, .int .u64 (c.value : Nat)]] _ _ at hR
  change ∀ u, Below W.heap.size W u → Calls _ _ #[.agg #[.int .i64 c.kind, .slice ka kn kc, .int .i64 c.arg, .int .u64 (c.mask : Nat), .string c.sign, .int .u64 (c.value : Nat)]] _ _ at hT
  change ∀ L, 1 ≤ L → L ≤ 1000 → ∀ u, Below W.heap.size W u → Calls _ _ #[.agg #[.int .i64 c.kind, .slice ka kn kc, .int .i64 c.arg, .int .u64 (c.mask : Nat), .string c.sign, .int .u64 (c.value : Nat)], _] _ _ at hM
  change _ → _ → _ → _ → _ → _ → _ → ∀ u, _ → Calls _ _ #[.agg #[.int .i64 c.kind, .slice ka kn kc, .int .i64 c.arg, .int .u64 (c.mask : Nat), .string c.sign, .int .u64 (c.value : Nat)], _, _, _] _ _ at hC1
  change _ → ∀ u, _ → Calls _ _ #[.agg #[.int .i64 c.kind, .slice ka kn kc, .int .i64 c.arg, .int .u64 (c.mask : Nat), .string c.sign, .int .u64 (c.value : Nat)], _, _, _] _ _ at hC2
  show Calls _ _ #[.agg #[.int .i64 c.kind, .slice ka kn kc, .int .i64 c.arg, .int .u64 (c.mask : Nat), .string c.sign, .int .u64 (c.value : Nat)], _, _, _] _ _
  generalize c.right = R at *
  generalize c.testN = TN at *
  generalize c.tests = TS at *
  generalize condS c yes no next = P at *
  obtain ⟨PL, PN⟩ := P
  obtain ⟨S, hS⟩ : ∃ S, c.size = S := ⟨_, rfl⟩
  rw [hS] at hM hfacts
  have yb := wf_i64 wy
  have nb := wf_i64 wn
  have xb := wf_i64 wx
  have HXC := Lib.hid hcells; have HM := Lib.hid hM; have HR := Lib.hid hR; have HT := Lib.hid hT; have HC1 := Lib.hid hC1; have HC2 := Lib.hid hC2; have HFC := Lib.hid hfacts; have HBW := Lib.hid hBW
  have hbW := Below.refl W.heap.size W
  obtain ⟨g0, g1, g2, g3, g4, g5⟩ := hcells W hbW
  have HB0 := Lib.hid hbW
  clear hcells hM hR hT hC1 hC2 hfacts hBW hb hk hkn f0 w0 hS hbW wy wn wx
  go_enter Try.func3, Try.ntmps3
  go_upto_region 1 with fail
  rw [← hW]
  clear hW
  go_wp2_with fail
  refine (HM.out 200 (by omega) (by omega) _ HB0.out).mono ?_
  rintro e w2 ⟨rfl, hb2⟩
  clear g0 g1 g2 g3 g4 g5
  have HXP := Lib.hid hb2
  clear hb2 HB0
  by_cases hs : 200 < S
  · have hmin : (200 : Int) < ((min S (200 + 1) : Nat) : Int) := by omega
    clear hs
    generalize min S (200 + 1) = M at *
    go_wp2_with fail
    refine (HA.out _).mono ?_
    rintro e wz ⟨rfl, hbz⟩
    have HXZ := Lib.hid (HBW.out.trans ((HXP.out.trans (hbz.mono HXP.out.size)).mono HBW.out.size))
    clear hbz
    go_wp2_with fail
    go_ret
    exact ⟨by first | rfl | simp, HXZ.out⟩

  have hmin : ¬ (200 : Int) < ((min S (200 + 1) : Nat) : Int) := by omega
  clear hs
  generalize min S (200 + 1) = M at *
  obtain ⟨g0, g1, g2, g3, g4, g5⟩ := HXC.out w2 HXP.out
  by_cases hval : R = true ∧ ¬ yes = no ∧ ¬ yes < 0 ∧ ¬ no < 0 ∧ ¬ next ≤ yes ∧ ¬ next ≤ no ∧ ¬ 1000000 < next
  · obtain ⟨rfl, b1, b2, b3, b4, b5, b6⟩ := hval
    obtain ⟨q1, q2, q3, q4, q5, q6⟩ := HFC.out rfl
    have hc := HC1.out rfl (by omega) (by omega) b1 (by omega) (by omega) (by omega) _ HXP.out
    have HC := Lib.hid hc
    have h1 : (yes == no) = false := by rw [beq_eq_false_iff_ne]; exact b1
    have hge : next ≤ PN := q5
    have HQ6 := Lib.hid q6; have HQ1 := Lib.hid q1; have HQ4 := Lib.hid q4
    have hT100 : TS ≤ 100 := by omega
    subst q2
    clear hc HC1 HC2 HFC b1 q1 q3 q4 q5 q6
    go_wp2_with fail
    refine HC.out.mono ?_
    rintro e w3 ⟨sv, rfl, hops, hb3⟩
    clear g0 g1 g2 g3 g4 g5 hmin
    have HX3 := Lib.hid (HXP.out.trans (hb3.mono HXP.out.size)); have HO3 := Lib.hid hops
    clear hb3 hops HC HXP
    obtain ⟨g0, g1, g2, g3, g4, g5⟩ := HXC.out w3 HX3.out
    go_wp2_with fail
    refine (HR.out _ HX3.out).mono ?_
    rintro e w4 ⟨rfl, hb4⟩
    clear g0 g1 g2 g3 g4 g5
    have HX4 := Lib.hid (HX3.out.trans (hb4.mono HX3.out.size)); have HO4 := Lib.hid (HO3.out.below hb4)
    clear hb4 HX3 HO3 HR
    obtain ⟨sA, sn, sc, rfl, hsl, _⟩ := id HO4.out
    have hcmp : (sn : Int) ≤ 9 * (TN : Int) + ((min S (100 + 1) : Nat) : Int) := by have := HQ4.out; have := HQ1.out; omega
    have hw9 : IntKind.i64.wrap (9 * (TN : Int)) = 9 * (TN : Int) := by simp [IntKind.wrap, IntKind.signed, IntKind.bits]; omega
    have hM101 : min S (100 + 1) ≤ 101 := by omega
    obtain ⟨M2, hM2⟩ : ∃ M2, min S (100 + 1) = M2 := ⟨_, rfl⟩
    have HM2 := Lib.hid (fun u hu => by have := HM.out 100 (by omega) (by omega) u hu; rw [hM2] at this; exact this)
    rw [hM2] at hcmp hM101
    have hwa : IntKind.i64.wrap (9 * (TN : Int) + (M2 : Int)) = 9 * (TN : Int) + (M2 : Int) := by simp [IntKind.wrap, IntKind.signed, IntKind.bits]; omega
    clear hM2 hM101 hsl
    have hbx := HX4.out
    have kk : ∀ x : KeepT w4, Below W.heap.size W x.val := fun x => hbx.trans (x.below.mono hbx.size)
    have kc' := fun x => HXC.out _ (kk x)
    have g0 := fun x => (kc' x).1
    have g1 := fun x => (kc' x).2.1
    have g2 := fun x => (kc' x).2.2.1
    have g3 := fun x => (kc' x).2.2.2.1
    have g4 := fun x => (kc' x).2.2.2.2.1
    have g5 := fun x => (kc' x).2.2.2.2.2
    have HTK := Lib.hid (fun x => HT.out _ (kk x)); have HMK := Lib.hid (fun x => HM2.out _ (kk x)); have HFK := Lib.hid (fun x : KeepT w4 => refFits19 _ PL yes no next PN x.val (HO4.out.below x.below) HQ6.out); have KK := Lib.hid kk
    clear kk kc' hbx HM HT HM2 HX4
    have hbr := Below.refl w4.heap.size w4
    go_upto_region 6 with fail
    refine wp_region_keep (w0 := w4) (by kernel_rfl) (by kernel_rfl) hbr ?_
    repeat (go_big_quiet_step ((first | (go_at_call 7; exact keepCall (HA.out _)) | (go_at_call 10; exact keepCall (HTK.out _)) | (go_at_call 6; exact keepCall (HMK.out _)) | (go_at_call 11; exact keepCall (HFK.out _)))))
    refine wpQuiet_nil ?_
    rintro w7 ⟨x7, rfl⟩
    have HB7 := Lib.hid (HBW.out.trans ((KK.out x7).mono HBW.out.size))
    generalize x7.val = w7 at *
    clear g0 g1 g2 g3 g4 g5
    go_wp2_with fail
    go_ret
    exact ⟨by first | rfl | simp, HB7.out⟩
  · have hbad : Bad7 R yes no next := hval
    have hc := HC2.out hbad _ HXP.out
    have HC := Lib.hid hc; have HVAL := Lib.hid hbad
    clear hc HC1 HC2 HFC hval hbad
    go_wp2_with fail
    refine HC.out.mono ?_
    rintro e w3 ⟨rfl, hb3⟩
    clear g0 g1 g2 g3 g4 g5 hmin
    have HX3 := Lib.hid (HXP.out.trans (hb3.mono HXP.out.size))
    clear hb3 HC HXP
    obtain ⟨g0, g1, g2, g3, g4, g5⟩ := HXC.out w3 HX3.out
    go_wp2_with fail
    refine (HR.out _ HX3.out).mono ?_
    rintro e w4 ⟨rfl, hb4⟩
    clear g0 g1 g2 g3 g4 g5
    have HXP := Lib.hid (HX3.out.trans (hb4.mono HX3.out.size))
    clear hb4 HX3 HR
    cases R
    · go_wp2_with fail
      refine (HA.out _).mono ?_
      rintro e wz ⟨rfl, hbz⟩
      have HXZ := Lib.hid (HBW.out.trans ((HXP.out.trans (hbz.mono HXP.out.size)).mono HBW.out.size))
      clear hbz
      go_wp2_with fail
      go_ret
      exact ⟨by first | rfl | simp, HXZ.out⟩

    by_cases b1 : yes = no
    · have h1 : (yes == no) = true := by rw [beq_iff_eq]; exact b1
      clear b1
      go_wp2_with fail
      refine (HA.out _).mono ?_
      rintro e wz ⟨rfl, hbz⟩
      have HXZ := Lib.hid (HBW.out.trans ((HXP.out.trans (hbz.mono HXP.out.size)).mono HBW.out.size))
      clear hbz
      go_wp2_with fail
      go_ret
      exact ⟨by first | rfl | simp, HXZ.out⟩
    have h1 : (yes == no) = false := by rw [beq_eq_false_iff_ne]; exact b1
    by_cases b2 : yes < 0
    · have h2 : yes < 0 := b2
      clear b2
      go_wp2_with fail
      refine (HA.out _).mono ?_
      rintro e wz ⟨rfl, hbz⟩
      have HXZ := Lib.hid (HBW.out.trans ((HXP.out.trans (hbz.mono HXP.out.size)).mono HBW.out.size))
      clear hbz
      go_wp2_with fail
      go_ret
      exact ⟨by first | rfl | simp, HXZ.out⟩
    have h2 : ¬ yes < 0 := b2
    by_cases b3 : no < 0
    · have h3 : no < 0 := b3
      clear b3
      go_wp2_with fail
      refine (HA.out _).mono ?_
      rintro e wz ⟨rfl, hbz⟩
      have HXZ := Lib.hid (HBW.out.trans ((HXP.out.trans (hbz.mono HXP.out.size)).mono HBW.out.size))
      clear hbz
      go_wp2_with fail
      go_ret
      exact ⟨by first | rfl | simp, HXZ.out⟩
    have h3 : ¬ no < 0 := b3
    by_cases b4 : next ≤ yes
    · have h4 : next ≤ yes := b4
      clear b4
      go_wp2_with fail
      refine (HA.out _).mono ?_
      rintro e wz ⟨rfl, hbz⟩
      have HXZ := Lib.hid (HBW.out.trans ((HXP.out.trans (hbz.mono HXP.out.size)).mono HBW.out.size))
      clear hbz
      go_wp2_with fail
      go_ret
      exact ⟨by first | rfl | simp, HXZ.out⟩
    have h4 : ¬ next ≤ yes := b4
    by_cases b5 : next ≤ no
    · have h5 : next ≤ no := b5
      clear b5
      go_wp2_with fail
      refine (HA.out _).mono ?_
      rintro e wz ⟨rfl, hbz⟩
      have HXZ := Lib.hid (HBW.out.trans ((HXP.out.trans (hbz.mono HXP.out.size)).mono HBW.out.size))
      clear hbz
      go_wp2_with fail
      go_ret
      exact ⟨by first | rfl | simp, HXZ.out⟩
    have h5 : ¬ next ≤ no := b5
    by_cases b6 : 1000000 < next
    · have h6 : (1000000 : Int) < next := b6
      clear b6
      go_wp2_with fail
      refine (HA.out _).mono ?_
      rintro e wz ⟨rfl, hbz⟩
      have HXZ := Lib.hid (HBW.out.trans ((HXP.out.trans (hbz.mono HXP.out.size)).mono HBW.out.size))
      clear hbz
      go_wp2_with fail
      go_ret
      exact ⟨by first | rfl | simp, HXZ.out⟩
    have h6 : ¬ (1000000 : Int) < next := b6
    exact absurd ⟨by first | trivial | rfl, b1, b2, b3, b4, b5, b6⟩ HVAL.out
end Go.Proofs.Ytnapofpbiehaaaa.lawWordMakes
