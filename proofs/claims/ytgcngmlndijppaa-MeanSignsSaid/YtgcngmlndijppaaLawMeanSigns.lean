/- The walk of MeanSigns. -/
import Derived.Test.YtgcngmlndijppaaMnSign
import Derived.Deep.RegionWith
namespace Go.Proofs.Ytgcngmlndijppaa.lawMeanSigns
open Go.RowKit Go.ChangeShapes Go.Deep
set_option linter.unusedVariables false

theorem six (n : Int) : ∃ j : Nat, (n.tmod 6 + 6).tmod 6 = (j : Int) ∧ j ≤ 5 ∧ -6 < n.tmod 6 ∧ n.tmod 6 < 6 := by
  have h1 : -6 < n.tmod 6 := Int.lt_tmod_of_pos n (by decide)
  have h2 : n.tmod 6 < 6 := Int.tmod_lt_of_pos n (by decide)
  have h3 := Int.tmod_lt_of_pos (n.tmod 6 + 6) (b := 6) (by decide)
  have h4 := Int.tmod_nonneg (a := n.tmod 6 + 6) 6 (by omega)
  exact ⟨((n.tmod 6 + 6).tmod 6).toNat, by omega, by omega, h1, h2⟩
theorem three_at (w : World) (o0 o1 o2 : Obj) : ∃ W, W = ((w.alloc o0).alloc o1).alloc o2 ∧ W.heap[w.heap.size]? = some o0 ∧ W.heap[w.heap.size + 1]? = some o1 ∧ W.heap[w.heap.size + 1 + 1]? = some o2 ∧ Below w.heap.size w W := by
  obtain ⟨W1, h1, f0, f1, b1⟩ := two_at w o0 o1
  have h2 := heap_alloc_new W1 o2
  have b2 := (Below.refl W1.heap.size W1).alloc (Nat.le_refl _) o2
  have hs : W1.heap.size = w.heap.size + 1 + 1 := by rw [h1, World.size_alloc, World.size_alloc]
  rw [hs] at h2
  exact ⟨W1.alloc o2, by rw [h1], (b2.block _ (lt_of_block f0)).trans f0, (b2.block _ (lt_of_block f1)).trans f1, h2, b1.trans (b2.mono b1.size)⟩
theorem one_at (w : World) (o : Obj) : ∃ W, W = w.alloc o ∧ W.heap[w.heap.size]? = some o ∧ Below w.heap.size w W := ⟨_, rfl, heap_alloc_new w o, (Below.refl w.heap.size w).alloc (Nat.le_refl _) o⟩
theorem not1 (a v : Nat) : signV ⟨#[33, 61]⟩ a v = !signV ⟨#[61, 61]⟩ a v := by
  show decide (a ≠ v) = !decide (a = v)
  by_cases h : a = v
  · rw [decide_eq_false (fun h2 => h2 h), decide_eq_true h]; rfl
  · rw [decide_eq_true h, decide_eq_false h]; rfl
theorem not2 (a v : Nat) : signV ⟨#[62, 61]⟩ a v = !signV ⟨#[60]⟩ a v := by
  show decide (v ≤ a) = !decide (a < v)
  by_cases h : a < v
  · rw [decide_eq_false (by omega), decide_eq_true h]; rfl
  · rw [decide_eq_true (by omega), decide_eq_false h]; rfl
theorem not3 (a v : Nat) : signV ⟨#[60, 61]⟩ a v = !signV ⟨#[62]⟩ a v := by
  show decide (a ≤ v) = !decide (v < a)
  by_cases h : v < a
  · rw [decide_eq_false (by omega), decide_eq_true h]; rfl
  · rw [decide_eq_true (by omega), decide_eq_false h]; rfl
set_option maxRecDepth 100000 in
set_option maxHeartbeats 1000000 in
theorem walk (n : Int) (b1 b2 : Int) (v3 : Value) (x : Cal) (w : World) (w0 : (Lit.int .i64 n).wf = true) (w1 : (Lit.int .u64 b1).wf = true) (w2 : (Lit.int .u64 b2).wf = true) (w3 : IsCal w v3 x) :
    Calls Try.prog 7 #[.int .i64 n, .int .u64 b1, .int .u64 b2, v3] w fun e w' => e = .returned (.bool true) ∧ Below w.heap.size w w' := by
  obtain ⟨m, rfl, hm⟩ := nat_u64 w1
  obtain ⟨v, rfl, hv⟩ := nat_u64 w2
  obtain ⟨rfl, hx⟩ := w3
  obtain ⟨nr, arch, ip, a0, a1, a2, a3, a4, a5, rfl⟩ := Cal.list6 hx
  obtain ⟨j, hj, hj5, hn1, hn2⟩ := six n
  show Calls _ _ #[_, _, _, callV nr arch ip a0 a1 a2 a3 a4 a5] _ _
  unfold callV
  obtain ⟨W, hW, f0, f1, f2, hBW⟩ := three_at w (.cells #[.int .i64 (j : Nat)] 3) (.cells #[.int .u64 (v : Nat)] 23) (callO nr arch ip a0 a1 a2 a3 a4 a5)
  have hS : ∀ u, Below W.heap.size W u → ∀ s k, signOk s = true → k ≤ 18446744073709551615 → Calls Try.prog 20 #[.string s, .int .u64 (k : Nat), .pointer (some ⟨w.heap.size, 0, none⟩), .pointer (some ⟨w.heap.size + 1, 0, none⟩), .pointer (some ⟨w.heap.size + 1 + 1, 0, none⟩)] u fun e w' => e = .returned (.bool (signV s ([a0, a1, a2, a3, a4, a5].getD j 0 &&& k) v)) ∧ Below u.heap.size u w' :=
    fun u hu s k hs hk => signAsk u _ _ _ j k v nr arch ip a0 a1 a2 a3 a4 a5 s hj5 hs hk hv hx ((hu.block _ (lt_of_block f0)).trans f0) ((hu.block _ (lt_of_block f1)).trans f1) ((hu.block _ (lt_of_block f2)).trans f2)
  unfold callO at hW f2
  have HS := Lib.hid hS; have HBW := Lib.hid hBW; have F0 := Lib.hid f0; have F1 := Lib.hid f1; have F2 := Lib.hid f2; have HM := Lib.hid hm; have HX := Lib.hid hx; have HJ5 := Lib.hid hj5
  clear w0 w1 w2 hS hBW f0 f1 f2 hm hv hx
  go_enter Try.func7, Try.ntmps7
  go_upto_region 3 with fail
  rw [← hW]
  clear hW hj hn1 hn2 hj5
  go_wp2_with fail
  obtain ⟨W1, hW1, hr, hb1⟩ := one_at W (.cells #[.string ⟨#[61, 61]⟩, .string ⟨#[33, 61]⟩, .string ⟨#[60]⟩, .string ⟨#[62, 61]⟩, .string ⟨#[62]⟩, .string ⟨#[60, 61]⟩] 49)
  rw [← hW1]
  have hbW1 := Below.refl W1.heap.size W1
  have HR := Lib.hid hr; have HB1 := Lib.hid hb1
  clear hW1 hr hb1
  go_loopw [24] (fun z wr => ∃ i : Nat, z = .int .i64 (i : Nat) ∧ i ≤ 3 ∧ Below W1.heap.size W1 wr) (fun z _ => 3 - (intOf z).toNat)
  case atStart => exact ⟨0, rfl, by omega, hbW1⟩
  case round =>
    obtain ⟨i, rfl, hi, hwr⟩ := hrel
    clear hbW1
    by_cases hlt : i < 3
    · rcases (by omega : i = 0 ∨ i = 1 ∨ i = 2) with rfl | rfl | rfl
      · rw [show ((0 : Nat) : Int) = 0 from rfl]
        have c0 := below_cell hwr HR.out 0 rfl
        have c1 := below_cell hwr HR.out 1 rfl
        obtain ⟨w5, h5, f5, hb5⟩ := one_at wr (.cells #[.string ⟨#[61, 61]⟩, .string ⟨#[33, 61]⟩] 49)
        have hy5 := HB1.out.trans ((hwr.trans (hb5.mono hwr.size)).mono HB1.out.size)
        have hz5 := hwr.trans (hb5.mono hwr.size)
        have d0 := fun (x : KeepT w5) => keep_at f5 0 rfl x
        have d1 := fun (x : KeepT w5) => keep_at f5 1 rfl x
        have s0 := fun (x : KeepT w5) => HS.out x.val (hy5.trans (x.below.mono hy5.size)) ⟨#[61, 61]⟩ m rfl HM.out
        have s1 := fun (x : KeepT w5) => HS.out x.val (hy5.trans (x.below.mono hy5.size)) ⟨#[33, 61]⟩ m rfl HM.out
        simp only [not1] at s1
        generalize signV ⟨#[61, 61]⟩ _ _ = B at s0 s1
        have S0 := Lib.hid s0; have S1 := Lib.hid s1; have HZ5 := Lib.hid hz5
        have hb55 := Below.refl w5.heap.size w5
        clear s0 s1 hy5 hz5 f5 hwr hlt hi hb5
        go_upto_region 6 with fail
        rw [← h5]
        clear h5 c0 c1
        cases B
        all_goals
          refine wp_region_keep (w0 := w5) (by kernel_rfl) (by kernel_rfl) hb55 ?_
          repeat (go_big_quiet_step ((first | (go_at_call_of 20 (Value.string ⟨#[61, 61]⟩); exact keepCall (S0.out _)) | (go_at_call_of 20 (Value.string ⟨#[33, 61]⟩); exact keepCall (S1.out _)))))
          refine wpQuiet_nil ?_
          rintro w6 ⟨x, rfl⟩
          have HB6 := Lib.hid (HZ5.out.trans (x.below.mono HZ5.out.size))
          generalize x.val = w6 at *
          clear d0 d1
          go_wp2_with fail
          go_roundw
          case rel => exact ⟨1, by go_num, by omega, HB6.out⟩
          case measure => simp [intOf]
      · rw [show ((1 : Nat) : Int) = 1 from rfl]
        have c0 := below_cell hwr HR.out 2 rfl
        have c1 := below_cell hwr HR.out 3 rfl
        obtain ⟨w5, h5, f5, hb5⟩ := one_at wr (.cells #[.string ⟨#[60]⟩, .string ⟨#[62, 61]⟩] 49)
        have hy5 := HB1.out.trans ((hwr.trans (hb5.mono hwr.size)).mono HB1.out.size)
        have hz5 := hwr.trans (hb5.mono hwr.size)
        have d0 := fun (x : KeepT w5) => keep_at f5 0 rfl x
        have d1 := fun (x : KeepT w5) => keep_at f5 1 rfl x
        have s0 := fun (x : KeepT w5) => HS.out x.val (hy5.trans (x.below.mono hy5.size)) ⟨#[60]⟩ m rfl HM.out
        have s1 := fun (x : KeepT w5) => HS.out x.val (hy5.trans (x.below.mono hy5.size)) ⟨#[62, 61]⟩ m rfl HM.out
        simp only [not2] at s1
        generalize signV ⟨#[60]⟩ _ _ = B at s0 s1
        have S0 := Lib.hid s0; have S1 := Lib.hid s1; have HZ5 := Lib.hid hz5
        have hb55 := Below.refl w5.heap.size w5
        clear s0 s1 hy5 hz5 f5 hwr hlt hi hb5
        go_upto_region 6 with fail
        rw [← h5]
        clear h5 c0 c1
        cases B
        all_goals
          refine wp_region_keep (w0 := w5) (by kernel_rfl) (by kernel_rfl) hb55 ?_
          repeat (go_big_quiet_step ((first | (go_at_call_of 20 (Value.string ⟨#[60]⟩); exact keepCall (S0.out _)) | (go_at_call_of 20 (Value.string ⟨#[62, 61]⟩); exact keepCall (S1.out _)))))
          refine wpQuiet_nil ?_
          rintro w6 ⟨x, rfl⟩
          have HB6 := Lib.hid (HZ5.out.trans (x.below.mono HZ5.out.size))
          generalize x.val = w6 at *
          clear d0 d1
          go_wp2_with fail
          go_roundw
          case rel => exact ⟨2, by go_num, by omega, HB6.out⟩
          case measure => simp [intOf]
      · rw [show ((2 : Nat) : Int) = 2 from rfl]
        have c0 := below_cell hwr HR.out 4 rfl
        have c1 := below_cell hwr HR.out 5 rfl
        obtain ⟨w5, h5, f5, hb5⟩ := one_at wr (.cells #[.string ⟨#[62]⟩, .string ⟨#[60, 61]⟩] 49)
        have hy5 := HB1.out.trans ((hwr.trans (hb5.mono hwr.size)).mono HB1.out.size)
        have hz5 := hwr.trans (hb5.mono hwr.size)
        have d0 := fun (x : KeepT w5) => keep_at f5 0 rfl x
        have d1 := fun (x : KeepT w5) => keep_at f5 1 rfl x
        have s0 := fun (x : KeepT w5) => HS.out x.val (hy5.trans (x.below.mono hy5.size)) ⟨#[62]⟩ m rfl HM.out
        have s1 := fun (x : KeepT w5) => HS.out x.val (hy5.trans (x.below.mono hy5.size)) ⟨#[60, 61]⟩ m rfl HM.out
        simp only [not3] at s1
        generalize signV ⟨#[62]⟩ _ _ = B at s0 s1
        have S0 := Lib.hid s0; have S1 := Lib.hid s1; have HZ5 := Lib.hid hz5
        have hb55 := Below.refl w5.heap.size w5
        clear s0 s1 hy5 hz5 f5 hwr hlt hi hb5
        go_upto_region 6 with fail
        rw [← h5]
        clear h5 c0 c1
        cases B
        all_goals
          refine wp_region_keep (w0 := w5) (by kernel_rfl) (by kernel_rfl) hb55 ?_
          repeat (go_big_quiet_step ((first | (go_at_call_of 20 (Value.string ⟨#[62]⟩); exact keepCall (S0.out _)) | (go_at_call_of 20 (Value.string ⟨#[60, 61]⟩); exact keepCall (S1.out _)))))
          refine wpQuiet_nil ?_
          rintro w6 ⟨x, rfl⟩
          have HB6 := Lib.hid (HZ5.out.trans (x.below.mono HZ5.out.size))
          generalize x.val = w6 at *
          clear d0 d1
          go_wp2_with fail
          go_roundw
          case rel => exact ⟨3, by go_num, by omega, HB6.out⟩
          case measure => simp [intOf]
    · obtain rfl : i = 3 := by omega
      rw [show ((3 : Nat) : Int) = 3 from rfl]
      have HWR := Lib.hid (HB1.out.trans (hwr.mono HB1.out.size))
      have hwW := HB1.out.trans (hwr.mono HB1.out.size)
      have hy : ∀ x : KeepT wr, Below W.heap.size W x.val := fun x => hwW.trans (x.below.mono hwW.size)
      obtain ⟨aj, haj⟩ : ∃ aj, [a0, a1, a2, a3, a4, a5].getD j 0 = aj := ⟨_, rfl⟩
      have hj5 := HJ5.out
      have hajle : aj ≤ 18446744073709551615 := by
        rw [← haj, List.getD_eq_getElem?_getD, List.getElem?_eq_getElem (by simp; omega)]
        exact HX.out.2.2.2.2 _ (List.getElem_mem _)
      have hcx : (#[Value.int .u32 (nr : Nat), .int .u32 (arch : Nat), .int .u64 (ip : Nat), .int .u64 (a0 : Nat), .int .u64 (a1 : Nat), .int .u64 (a2 : Nat), .int .u64 (a3 : Nat), .int .u64 (a4 : Nat), .int .u64 (a5 : Nat)] : Array Value)[3 + j]? = some (.int .u64 (aj : Nat)) := by
        rw [← haj]
        rcases (by omega : j = 0 ∨ j = 1 ∨ j = 2 ∨ j = 3 ∨ j = 4 ∨ j = 5) with rfl | rfl | rfl | rfl | rfl | rfl <;> rfl
      have hall : aj &&& 18446744073709551615 = aj := by
        have := Nat.and_two_pow_sub_one_of_lt_two_pow (x := aj) (n := 64) (by omega)
        simpa using this
      have hand := and_u64n aj m hajle HM.out
      obtain ⟨am, ham⟩ : ∃ am, aj &&& m = am := ⟨_, rfl⟩
      rw [ham] at hand
      have hjI : (j : Int) < 6 := by omega
      have eq1 : ∀ a : Nat, signV ⟨#[61, 61]⟩ a v = ((a : Int) == (v : Int)) := fun a => by
        show decide (a = v) = _
        rw [Bool.eq_iff_iff, decide_eq_true_iff, beq_iff_eq]; omega
      have lt1 : signV ⟨#[60]⟩ aj v = decide ((aj : Int) < (v : Int)) := by
        show decide (aj < v) = _
        rw [Bool.eq_iff_iff]; simp
      have gt1 : signV ⟨#[62]⟩ aj v = decide ((v : Int) < (aj : Int)) := by
        show decide (v < aj) = _
        rw [Bool.eq_iff_iff]; simp
      have t0 : ∀ x : KeepT wr, Calls Try.prog 20 #[.string ⟨#[61, 61]⟩, .int .u64 18446744073709551615, .pointer (some ⟨w.heap.size, 0, none⟩), .pointer (some ⟨w.heap.size + 1, 0, none⟩), .pointer (some ⟨w.heap.size + 1 + 1, 0, none⟩)] x.val fun e w' => e = .returned (.bool ((aj : Int) == (v : Int))) ∧ Below x.val.heap.size x.val w' := fun x => by
        have h := HS.out x.val (hy x) ⟨#[61, 61]⟩ 18446744073709551615 rfl (Nat.le_refl _)
        rw [haj, hall, eq1] at h
        exact h
      have t1 : ∀ x : KeepT wr, Calls Try.prog 20 #[.string ⟨#[60]⟩, .int .u64 18446744073709551615, .pointer (some ⟨w.heap.size, 0, none⟩), .pointer (some ⟨w.heap.size + 1, 0, none⟩), .pointer (some ⟨w.heap.size + 1 + 1, 0, none⟩)] x.val fun e w' => e = .returned (.bool (decide ((aj : Int) < (v : Int)))) ∧ Below x.val.heap.size x.val w' := fun x => by
        have h := HS.out x.val (hy x) ⟨#[60]⟩ 18446744073709551615 rfl (Nat.le_refl _)
        rw [haj, hall, lt1] at h
        exact h
      have t2 : ∀ x : KeepT wr, Calls Try.prog 20 #[.string ⟨#[62]⟩, .int .u64 18446744073709551615, .pointer (some ⟨w.heap.size, 0, none⟩), .pointer (some ⟨w.heap.size + 1, 0, none⟩), .pointer (some ⟨w.heap.size + 1 + 1, 0, none⟩)] x.val fun e w' => e = .returned (.bool (decide ((v : Int) < (aj : Int)))) ∧ Below x.val.heap.size x.val w' := fun x => by
        have h := HS.out x.val (hy x) ⟨#[62]⟩ 18446744073709551615 rfl (Nat.le_refl _)
        rw [haj, hall, gt1] at h
        exact h
      have t3 : ∀ x : KeepT wr, Calls Try.prog 20 #[.string ⟨#[61, 61]⟩, .int .u64 (m : Nat), .pointer (some ⟨w.heap.size, 0, none⟩), .pointer (some ⟨w.heap.size + 1, 0, none⟩), .pointer (some ⟨w.heap.size + 1 + 1, 0, none⟩)] x.val fun e w' => e = .returned (.bool ((am : Int) == (v : Int))) ∧ Below x.val.heap.size x.val w' := fun x => by
        have h := HS.out x.val (hy x) ⟨#[61, 61]⟩ m rfl HM.out
        rw [haj, ham, eq1] at h
        exact h
      have kA := below_cell hwW F2.out (3 + j) hcx
      have k0 := below_cell hwW F0.out 0 rfl
      have k6 := fun (x : KeepT wr) => below_cell (hy x) F1.out 0 rfl
      have HA := Lib.hid (fun u => mnAlive u)
      have T0 := Lib.hid t0; have T1 := Lib.hid t1; have T2 := Lib.hid t2; have T3 := Lib.hid t3
      have hbr := Below.refl wr.heap.size wr
      clear hwr hlt hi hy hwW haj hj5 hajle hcx hall ham eq1 lt1 gt1 t0 t1 t2 t3
      go_upto_region 11 with fail
      clear kA k0
      refine wp_region_keep (w0 := wr) (by kernel_rfl) (by kernel_rfl) hbr ?_
      repeat (go_big_quiet_step ((first | (go_at_call 10; exact keepCall (HA.out _)) | (go_at_call_of 20 (Value.int .u64 (m : Nat)); exact keepCall (T3.out _)) | (go_at_call_of 20 (Value.string ⟨#[60]⟩); exact keepCall (T1.out _)) | (go_at_call_of 20 (Value.string ⟨#[62]⟩); exact keepCall (T2.out _)) | (go_at_call_of 20 (Value.string ⟨#[61, 61]⟩); exact keepCall (T0.out _)))))
      refine wpQuiet_nil ?_
      rintro w6 ⟨x, rfl⟩
      have HB6 := Lib.hid (HBW.out.trans ((HWR.out.trans (x.below.mono HWR.out.size)).mono HBW.out.size))
      generalize x.val = w6 at *
      clear k6
      go_wp2_with fail
      go_ret
      exact ⟨rfl, HB6.out⟩
end Go.Proofs.Ytgcngmlndijppaa.lawMeanSigns
