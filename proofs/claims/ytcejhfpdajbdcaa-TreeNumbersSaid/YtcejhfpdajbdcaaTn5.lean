/- The law's own alive: a policy without rules has steps. -/
import Derived.Test.YtcejhfpdajbdcaaTn2
import Derived.Test.YtcejhfpdajbdcaaTm2
namespace Go.Proofs.Ytcejhfpdajbdcaa
open Go.RowKit Go.ChangeShapes
set_option linter.unusedVariables false
set_option linter.unusedSimpArgs false

set_option maxRecDepth 100000 in
theorem tmRight0 (a d : Nat) (c : Nat) (A : Option Addr) (w : World) : Calls Try.prog 27 #[.agg #[.int .u32 (a : Nat), .int .u32 (d : Nat), .slice A 0 c]] w fun e w' => e = .returned (.bool true) ∧ Below w.heap.size w w' := by
  have hw1 := (Below.refl w.heap.size w).alloc (Nat.le_refl _) (.cells #[.int .u32 (a : Nat), .int .u32 (d : Nat), .slice A 0 c] 25)
  have hnw := heap_alloc_new w (.cells #[.int .u32 (a : Nat), .int .u32 (d : Nat), .slice A 0 c] 25)
  go_enter Try.func27, Try.ntmps27
  go_upto_region 1 with fail
  generalize w.alloc (.cells #[.int .u32 (a : Nat), .int .u32 (d : Nat), .slice A 0 c] 25) = w1 at *
  have y2 := below_cell (Below.refl _ w1) hnw 2 rfl
  have HW := Lib.hid hw1
  clear hw1 hnw
  go_wp2_with fail
  go_loopw [12] (fun z wr => z = .int .i64 0 ∧ wr = w1) (fun z _ => 0)
  case atStart => exact ⟨by first | rfl | simp, rfl⟩
  case round =>
    obtain ⟨rfl, rfl⟩ := hrel
    go_wp2_with fail
    go_ret
    exact ⟨rfl, HW.out⟩
theorem tmNone (w : World) : Calls Try.prog 9 #[.agg #[.int .u32 5, .int .u32 7, .slice none 0 0]] w fun e w' => (∃ A c, e = .returned (.slice A 0 c)) ∧ Below w.heap.size w w' := by
  have h := tmNumbers (.agg #[.int .u32 5, .int .u32 7, .slice none 0 0]) ⟨5, 7, []⟩ w ⟨by decide, by decide, _, rfl, none, 0, 0, rfl, rfl, Nat.le_refl _, by decide, fun _ => rfl, .inl rfl⟩ (by decide)
  refine h.mono ?_
  rintro e w' ⟨⟨v', rfl, hu⟩, hb⟩
  obtain ⟨A, n, c, rfl, hl, _⟩ := hu
  have h0 : (nrsU (flatN (Typ.rules ⟨5, 7, []⟩))).length = 0 := Nat.le_zero.1 (nrsU_len [])
  rw [h0] at hl
  subst hl
  exact ⟨⟨A, c, rfl⟩, hb⟩
set_option maxRecDepth 100000 in
set_option maxHeartbeats 2000000 in
theorem tmSteps0 (w : World) : Calls Try.prog 15 #[.agg #[.int .u32 5, .int .u32 7, .slice none 0 0]] w fun e w' => (∃ A n c, e = .returned (.tuple #[.slice A (n + 1) c, .int .i64 0])) ∧ Below w.heap.size w w' := by
  have hw1 := (Below.refl w.heap.size w).alloc (Nat.le_refl _) (.cells #[.int .u32 5, .int .u32 7, .slice none 0 0] 25)
  have hnw := heap_alloc_new w (.cells #[.int .u32 5, .int .u32 7, .slice none 0 0] 25)
  have HR := Lib.hid (fun u => tmRight0 5 7 0 none u)
  obtain ⟨G, hG⟩ : ∃ G, w.heap.size = G := ⟨_, rfl⟩
  have HGQ := Lib.hid hG
  rw [hG] at hnw
  go_enter Try.func15, Try.ntmps15
  go_upto_region 1 with fail
  (try rw [HGQ.out])
  obtain ⟨w1, hW1⟩ : ∃ w1, w.alloc (.cells #[.int .u32 5, .int .u32 7, .slice none 0 0] 25) = w1 := ⟨_, rfl⟩
  rw [hW1] at hw1 hnw ⊢
  have HW := Lib.hid hw1; have HN := Lib.hid hnw
  have y0 := below_cell (Below.refl _ w1) hnw 0 rfl
  have y1 := below_cell (Below.refl _ w1) hnw 1 rfl
  have y2 := below_cell (Below.refl _ w1) hnw 2 rfl
  clear hw1 hnw hG hW1
  go_upto_region 3 with (first | (go_at_call 27; refine (HR.out _).mono ?_; rintro e w2 ⟨rfl, hb2⟩))
  have HB2 := Lib.hid (HW.out.trans (hb2.mono HW.out.size)); have HN2 := Lib.hid ((hb2.block _ (lt_of_block HN.out)).trans HN.out)
  clear hb2 HW HN y0 y1 y2
  have hnf : Value.nilFunc.oneCell' = true := rfl
  have hof : ∀ (f : Fn) (a b : Array Value), (Value.func f a b).oneCell' = true := fun _ _ _ => rfl
  have hmf : ∀ (fn : Fn) (first cap : Array Value) (w : World), (Instr.makeFunc fn first cap).run Try.prog w = .ok (.func fn first cap) w := fun _ _ _ _ => rfl
  have hn7 := heap_alloc_new w2 (.cells #[.slice none 0 0, .int .i64 0, .int .i64 0, .nilFunc] 62)
  have hy7 := (Below.refl w2.heap.size w2).alloc (Nat.le_refl _) (.cells #[.slice none 0 0, .int .i64 0, .int .i64 0, .nilFunc] 62)
  have hs7 := setRow_heap _ w2.heap.size _ #[.slice none 0 0, .int .i64 0, .int .i64 0, .nilFunc] _ _ hn7
  have hz7 := below_setRow hy7 (Nat.le_refl _) #[.slice none 0 0, .int .i64 0, .int .i64 0, .nilFunc]
  have HN7 := Lib.hid hn7; have HS7 := Lib.hid hs7; have HQ7 := Lib.hid hz7
  clear hn7 hy7 hs7 hz7
  go_upto_region 4 with (first | (refine wpList_store_row rfl 62 _ _ rfl w2.heap.size #[.slice none 0 0, .int .i64 0, .int .i64 0, .nilFunc] rfl rfl 62 _ HN7.out (by kernel_rfl) rfl (by simp [Value.oneCell']) ?_))
  obtain ⟨B, hB⟩ : ∃ B, w2.heap.size = B := ⟨_, rfl⟩
  have HBE := Lib.hid hB
  obtain ⟨w3, hW3⟩ : ∃ w3, (w2.alloc (.cells #[.slice none 0 0, .int .i64 0, .int .i64 0, .nilFunc] 62)).setRow w2.heap.size #[.slice none 0 0, .int .i64 0, .int .i64 0, .nilFunc] = w3 := ⟨_, rfl⟩
  have hs7 := HS7.out
  have hz7 := HQ7.out
  rw [hW3] at hs7 hz7 ⊢
  rw [hB] at hs7
  (try rw [hB])
  have HS3 := Lib.hid hs7
  have HB3 := Lib.hid (HB2.out.trans (hz7.mono HB2.out.size))
  have HN3 := Lib.hid ((hz7.block _ (lt_of_block HN2.out)).trans HN2.out)
  have HGB := Lib.hid (show G < B by rw [← hB]; exact lt_of_block HN2.out)
  have HWB := Lib.hid (show w.heap.size ≤ B by rw [← hB]; exact HB2.out.size)
  clear hs7 hz7 hW3 hB HN7 HS7 HQ7 HB2 HN2
  have b3 := below_cell (Below.refl _ w3) HS3.out 3 rfl
  have f3 := block_frozen HS3.out 3
  have hst : (store ⟨B, 3, none⟩ (Value.func (Fn.func 28) #[] #[.pointer (some ⟨B, 0, none⟩), .pointer (some ⟨G, 0, none⟩)])).run Try.prog w3 = .ok () (w3.setCell ⟨B, 3, none⟩ (Value.func (Fn.func 28) #[] #[.pointer (some ⟨B, 0, none⟩), .pointer (some ⟨G, 0, none⟩)])) := by rw [run_store _ _ _ _ _ rfl, b3, f3]; rfl
  have ht4 : (w3.setCell ⟨B, 3, none⟩ (Value.func (Fn.func 28) #[] #[.pointer (some ⟨B, 0, none⟩), .pointer (some ⟨G, 0, none⟩)])).heap[B]? = some (.cells #[.slice none 0 0, .int .i64 0, .int .i64 0, (Value.func (Fn.func 28) #[] #[.pointer (some ⟨B, 0, none⟩), .pointer (some ⟨G, 0, none⟩)])] 62 (0, 0)) := block_set HS3.out 3 (Value.func (Fn.func 28) #[] #[.pointer (some ⟨B, 0, none⟩), .pointer (some ⟨G, 0, none⟩)])
  have hb4 : Below w.heap.size w (w3.setCell ⟨B, 3, none⟩ (Value.func (Fn.func 28) #[] #[.pointer (some ⟨B, 0, none⟩), .pointer (some ⟨G, 0, none⟩)])) := HB3.out.setCell (p := ⟨B, 3, none⟩) HWB.out _
  have hn4 := (Below.heap_setCell w3 ⟨B, 3, none⟩ (Value.func (Fn.func 28) #[] #[.pointer (some ⟨B, 0, none⟩), .pointer (some ⟨G, 0, none⟩)]) G (by show G ≠ B; have := HGB.out; omega)).trans HN3.out
  go_upto_region 5 with fail
  obtain ⟨w4, hW4⟩ : ∃ w4, w3.setCell ⟨B, 3, none⟩ (Value.func (Fn.func 28) #[] #[.pointer (some ⟨B, 0, none⟩), .pointer (some ⟨G, 0, none⟩)]) = w4 := ⟨_, rfl⟩
  rw [hW4] at ht4 hb4 hn4 ⊢
  generalize (Value.func (Fn.func 28) #[] #[.pointer (some ⟨B, 0, none⟩), .pointer (some ⟨G, 0, none⟩)]) = fv at *
  have hown : w4.ownsRow w.heap.size 67 4 (.slice none 0 0) 0 (stpCells []) := World.ownsRow_nil _ _ _ _
  have T0 : Tk w.heap.size w4 B [] 0 0 fv (.slice none 0 0) := ⟨ht4, hown, by simp [Value.ownBlock], HWB.out, fun i hi => absurd hi (by simp)⟩
  have X0 : Bx B w4 (.slice none 0 0) G (.cells #[.int .u32 5, .int .u32 7, .slice none 0 0] 25 (0, 0)) := ⟨hn4, by have := HGB.out; omega, by simp [Value.ownBlock]⟩
  have L0 := tmLabel w.heap.size B w4 [] 0 0 fv _ T0 (by omega) (by omega)
  have HL0 := Lib.hid L0; have HX0 := Lib.hid X0; have HB4 := Lib.hid hb4
  clear hst ht4 hb4 hn4 hW4 hown T0 X0 L0 HS3 HB3 HN3 b3 f3
  go_upto_region 6 with (first
    | (go_at_call 30; refine HL0.out.mono ?_; rintro e w5 ⟨rfl, T1, K1⟩; have T1' : Tk w.heap.size w5 B [] 1 0 fv (.slice none 0 0) := T1; have HL1 := Lib.hid (tmLabel w.heap.size B w5 [] 1 0 fv _ T1' (by omega) (by omega)); have HX1 := Lib.hid (HX0.out.keep K1); have HB5 := Lib.hid (K1.2.1 _ _ (Nat.le_refl _) HB4.out); clear T1 T1' K1)
    | (go_at_call 30; refine HL1.out.mono ?_; rintro e w6 ⟨rfl, T2', K2⟩; have T2 : Tk w.heap.size w6 B [] 2 0 fv (.slice none 0 0) := T2'; have HX2 := Lib.hid (HX1.out.keep K2); have HB6 := Lib.hid (K2.2.1 _ _ (Nat.le_refl _) HB5.out)))
  have HA1 := Lib.hid (show Calls Try.prog 31 #[.pointer (some ⟨B, 0, none⟩), .agg #[.int .i64 1, .int .u32 4, .int .i64 0, .int .i64 0]] w6 (TkPost w.heap.size B _ w6 ([] ++ [⟨1, 4, 0, 0⟩]) 2 0 fv) from tmAdd w.heap.size B w6 [] 2 0 fv _ ⟨1, 4, 0, 0⟩ T2 (stp_bnd (by decide) (by decide) (by decide) (by decide)) (by decide))
  clear T2 T2' K2 HX0 HX1 HL0 HL1 HB4 HB5
  go_upto_region 7 with (first | (go_at_call 31; refine HA1.out.mono ?_; rintro e w7 ⟨rfl, v7, T7, K7⟩))
  have X7 := HX2.out.keep K7
  have HX7 := Lib.hid X7; have HB7 := Lib.hid (K7.2.1 _ _ (Nat.le_refl _) HB6.out)
  have y0 := below_cell (Below.refl _ w7) X7.blk 0 rfl
  have HA2 := Lib.hid (show Calls Try.prog 31 #[.pointer (some ⟨B, 0, none⟩), .agg #[.int .i64 3, .int .u32 5, .int .i64 0, .int .i64 1]] w7 (TkPost w.heap.size B v7 w7 (([] ++ [⟨1, 4, 0, 0⟩]) ++ [⟨3, 5, 0, 1⟩]) 2 0 fv) from tmAdd w.heap.size B w7 _ 2 0 fv _ ⟨3, 5, 0, 1⟩ T7 (stp_bnd (by decide) (by decide) (by decide) (by decide)) (by decide))
  clear T7 K7 X7 HX2 HB6 HA1
  go_upto_region 8 with (first | (go_at_call 31; refine HA2.out.mono ?_; rintro e w8 ⟨rfl, v8, T8, K8⟩))
  have HX8 := Lib.hid (HX7.out.keep K8); have HB8 := Lib.hid (K8.2.1 _ _ (Nat.le_refl _) HB7.out)
  have HA3 := Lib.hid (tmHere w.heap.size B w8 _ 2 0 fv v8 1 T8 (by decide) (by decide))
  clear T8 K8 HX7 HB7 HA2 y0
  go_upto_region 9 with (first | (go_at_call 32; refine HA3.out.mono ?_; rintro e w9 ⟨rfl, v9, T9, K9⟩))
  have HX9 := Lib.hid (HX8.out.keep K9); have HB9 := Lib.hid (K9.2.1 _ _ (Nat.le_refl _) HB8.out)
  have HA4 := Lib.hid (tmRet w.heap.size B w9 _ 2 0 fv v9 2147483648 T9 (by decide) (by decide))
  clear T9 K9 HX8 HB8 HA3
  go_upto_region 10 with (first | (go_at_call 33; refine HA4.out.mono ?_; rintro e wa ⟨rfl, va, Ta, Ka⟩))
  have HXa := Lib.hid (HX9.out.keep Ka); have HBa := Lib.hid (Ka.2.1 _ _ (Nat.le_refl _) HB9.out)
  have HA5 := Lib.hid (tmHere w.heap.size B wa _ 2 0 fv va 0 Ta (by decide) (by decide))
  clear Ta Ka HX9 HB9 HA4
  go_upto_region 11 with (first | (go_at_call 32; refine HA5.out.mono ?_; rintro e wb ⟨rfl, vb, Tb, Kb⟩))
  have Xb := HXa.out.keep Kb
  have HXb := Lib.hid Xb; have HBb := Lib.hid (Kb.2.1 _ _ (Nat.le_refl _) HBa.out); have HTb := Lib.hid Tb
  have y0 := below_cell (Below.refl _ wb) Xb.blk 0 rfl
  have y1 := below_cell (Below.refl _ wb) Xb.blk 1 rfl
  have y2 := below_cell (Below.refl _ wb) Xb.blk 2 rfl
  clear Tb Kb HXa HBa HA5 Xb
  have HNU := Lib.hid (fun u => tmNone u)
  go_upto_region 12 with (first | (go_at_call 9; refine (HNU.out _).mono ?_; rintro e wc ⟨⟨An, cn, rfl⟩, hbc⟩))
  have Tc := HTb.out.below hbc
  have Kc := KeepM.of_below (b := w.heap.size) (B := B) (v := vb) hbc HBb.out.size
  have Xc := HXb.out.keep Kc
  have HXc := Lib.hid Xc; have HBc := Lib.hid (Kc.2.1 _ _ (Nat.le_refl _) HBb.out)
  have HA6 := Lib.hid (tmRet w.heap.size B wc _ 2 0 fv vb 7 Tc (by decide) (by decide))
  clear y0 y1 y2
  have y1 := below_cell (Below.refl _ wc) Xc.blk 1 rfl
  clear Tc Kc Xc HTb HXb HBb hbc
  go_upto_region 18 with (first | (go_at_call 33; refine HA6.out.mono ?_; rintro e wd ⟨rfl, vd, Td, Kd⟩))
  have HBd := Lib.hid (Kd.2.1 _ _ (Nat.le_refl _) HBc.out)
  have z0 := below_cell (Below.refl _ wd) Td.blk 0 rfl
  obtain ⟨Ad, cd, rfl, _, _⟩ := own_form4 Td.own
  clear Td Kd y1
  go_wp2_with fail
  first
  | (go_ret; exact ⟨⟨Ad, 5, cd, rfl⟩, HBd.out⟩)
  | (refine bodyPost_ret (results_tmp2 rfl _ _ _) rfl ?_; exact ⟨⟨Ad, 5, cd, rfl⟩, HBd.out⟩)
set_option maxRecDepth 100000 in
theorem tnAlive (w : World) : Calls Try.prog 8 #[] w fun e w' => e = .returned (.bool true) ∧ Below w.heap.size w w' := by
  go_enter Try.func8, Try.ntmps8
  go_wp2_with (first | (go_at_call 15; refine (tmSteps0 _).mono ?_; rintro e w5 ⟨⟨A, n, c, rfl⟩, hb⟩; have hnI : (0 : Int) < (n : Int) + 1 := by omega))
  go_ret
  exact ⟨by first | rfl | simp, hb⟩
end Go.Proofs.Ytcejhfpdajbdcaa
