/- A policy without rules, checked. -/
import Derived.Test.YtbcoooaoofbboaaCallArch
import Derived.Test.YtbcoooaoofbboaaCallAction
import Derived.Test.YtbcoooaoofbboaaResRow
import Derived.Outline
namespace Go.Proofs.Ytbcoooaoofbboaa
open Go.RowKit Go.ChangeShapes
set_option linter.unusedVariables false

set_option maxRecDepth 100000 in
theorem indexNil (f : Value) (w : World) : Calls Try.prog 47 #[.slice none 0 0, f] w fun e w' => e = .returned (.int .i64 (-1)) ∧ w = w' := by
  go_enter Try.func47, Try.ntmps47
  go_wp2_with fail
  refine wp_loop_once ?_
  go_wp2_with fail
  go_ret
  exact ⟨rfl, rfl⟩
set_option maxRecDepth 100000 in
theorem containsNil (f : Value) (w : World) : Calls Try.prog 35 #[.slice none 0 0, f] w fun e w' => e = .returned (.bool false) ∧ w = w' := by
  have H := Lib.hid (fun u => indexNil f u)
  go_enter Try.func35, Try.ntmps35
  go_wp2_with fail
  refine (H.out _).mono ?_
  rintro e w2 ⟨rfl, rfl⟩
  go_wp2_with fail
  go_ret
  exact ⟨rfl, rfl⟩
set_option maxRecDepth 100000 in
theorem longNil (a d : ByteArray) (x : Int) (w : World) : Calls Try.prog 22 #[.agg #[.string a, .string d, .int .u64 x, .slice none 0 0]] w fun e w' => e = .returned (.bool false) ∧ Below w.heap.size w w' := by
  have H := Lib.hid (fun f u => containsNil f u)
  go_enter Try.func22, Try.ntmps22
  go_wp2_with fail
  refine (H.out _ _).mono ?_
  rintro e w2 ⟨rfl, rfl⟩
  go_wp2_with fail
  go_ret
  exact ⟨rfl, (Below.refl _ _).alloc (Nat.le_refl _) _⟩
/-- what a policy without rules is -/
def bareT (a d : ByteArray) (x : Int) : Value := match archOf a, actRes d x with
  | some n, some m => .tuple #[.agg #[.int .u32 (n : Nat), .int .u32 (m : Nat), .slice none 0 0], .int .i64 0]
  | _, _ => .tuple #[.agg #[.int .u32 0, .int .u32 0, .slice none 0 0], .int .i64 63]
theorem set3_block {w : World} {g : Nat} {T : TypeId} {x0 x1 x2 : Value} (h : w.heap[g]? = some (.cells #[x0, x1, x2] T (0, 0))) (v0 v1 v2 : Value) :
    (((w.setCell ⟨g, 0, none⟩ v0).setCell ⟨g, 1, none⟩ v1).setCell ⟨g, 2, none⟩ v2).heap[g]? = some (.cells #[v0, v1, v2] T (0, 0)) := block_set (block_set (block_set h 0 v0) 1 v1) 2 v2
theorem set3_below {B : Nat} {a w : World} {g : Nat} (h : Below B a w) (hg : B ≤ g) (v0 v1 v2 : Value) : Below B a (((w.setCell ⟨g, 0, none⟩ v0).setCell ⟨g, 1, none⟩ v1).setCell ⟨g, 2, none⟩ v2) :=
  ((h.setCell (p := ⟨g, 0, none⟩) hg _).setCell (p := ⟨g, 1, none⟩) hg _).setCell (p := ⟨g, 2, none⟩) hg _
set_option maxRecDepth 100000 in
set_option maxHeartbeats 1000000 in
theorem checkNil (a d : ByteArray) (x : Int) (w : World) (h0 : 0 ≤ x) (h1 : x ≤ 18446744073709551615) :
    Calls Try.prog 15 #[.agg #[.string a, .string d, .int .u64 x, .slice none 0 0]] w fun e w' => e = .returned (bareT a d x) ∧ Below w.heap.size w w' := by
  have HL := Lib.hid (fun u => longNil a d x u)
  have HA := Lib.hid (fun u => callArch_any a u)
  have HC := Lib.hid (fun u => callAction_any d x u h0 h1)
  have hw1 := ((Below.refl w.heap.size w).alloc (Nat.le_refl _) (.cells #[.string a, .string d, .int .u64 x, .slice none 0 0] 32)).alloc (by simp) (.cells #[.int .u32 0, .int .u32 0, .slice none 0 0] 38)
  have hB := (heap_alloc_old (w.alloc (.cells #[.string a, .string d, .int .u64 x, .slice none 0 0] 32)) (.cells #[.int .u32 0, .int .u32 0, .slice none 0 0] 38) (r := w.heap.size) (by simp)).trans (heap_alloc_new w (.cells #[.string a, .string d, .int .u64 x, .slice none 0 0] 32))
  have hR := heap_alloc_new (w.alloc (.cells #[.string a, .string d, .int .u64 x, .slice none 0 0] 32)) (.cells #[.int .u32 0, .int .u32 0, .slice none 0 0] 38)
  rw [World.size_alloc] at hR
  go_enter Try.func15, Try.ntmps15
  go_upto_region 1 with fail
  generalize (w.alloc (.cells #[.string a, .string d, .int .u64 x, .slice none 0 0] 32)).alloc (.cells #[.int .u32 0, .int .u32 0, .slice none 0 0] 38) = w1 at *
  have q0 := below_cell (Below.refl _ _) hB 0 rfl
  have q1 := below_cell (Below.refl _ _) hB 1 rfl
  have q2 := below_cell (Below.refl _ _) hB 2 rfl
  have q3 := below_cell (Below.refl _ _) hB 3 rfl
  have HB := Lib.hid hB; have HR := Lib.hid hR; have HW1 := Lib.hid hw1
  clear hB hR hw1
  go_wp2_with fail
  refine (HL.out _).mono ?_
  rintro e w2 ⟨rfl, hb2⟩
  have r0 := below_cell hb2 HB.out 0 rfl
  have HX2 := Lib.hid hb2
  clear q0 q1 q2 q3 hb2
  go_upto_region 3 with fail
  go_wp2_with fail
  refine (HA.out _).mono ?_
  rintro e w3 ⟨rfl, hb3⟩
  have HX3 := Lib.hid (HX2.out.trans (hb3.mono HX2.out.size))
  have r1 := below_cell HX3.out HB.out 1 rfl
  have r2 := below_cell HX3.out HB.out 2 rfl
  clear hb3 r0
  unfold archV
  go_wp2_with fail
  refine (HC.out _).mono ?_
  rintro e w4 ⟨rfl, hb4⟩
  have HX4 := Lib.hid (HX3.out.trans (hb4.mono HX3.out.size))
  have r3 := below_cell HX4.out HB.out 3 rfl
  have hR4 := (HX4.out.block _ (lt_of_block HR.out)).trans HR.out
  have HW4 := Lib.hid (HW1.out.trans (HX4.out.mono HW1.out.size))
  have HR4 := Lib.hid hR4
  clear hb4 r1 r2 hR4
  have z0 := below_cell (Below.refl _ _) HR4.out 0 rfl
  have z1 := below_cell (Below.refl _ _) HR4.out 1 rfl
  have z2 := below_cell (Below.refl _ _) HR4.out 2 rfl
  have f0 := block_frozen HR4.out 0
  have f1 := block_frozen HR4.out 1
  have f2 := block_frozen HR4.out 2
  have bad : archOf a = none ∨ actRes d x = none → bareT a d x = .tuple #[.agg #[.int .u32 0, .int .u32 0, .slice none 0 0], .int .i64 63] := by
    intro h
    unfold bareT
    rcases h with h | h
    · rw [h]
    · rw [h]; cases archOf a <;> rfl
  have hend : ∀ tmps : Array Value, tmps.getD 2 undef = .pointer (some ⟨w.heap.size + 1, 0, none⟩) → tmps.getD 3 undef = .int .i64 63 → True := fun _ _ _ => trivial
  clear hend
  cases ha : archOf a with
  | none =>
    have E := Lib.hid (bad (.inl ha))
    clear bad ha HL HA HC
    generalize actRes d x = dr at *
    go_wp2_with fail
    rw [E.out]
    exact bodyPost_ret (results_row_tmp rfl _ _ (w.heap.size + 1) 38 #[.int .u32 0, .int .u32 0, .slice none 0 0] (0, 0) _ rfl (set3_block HR4.out _ _ _) Try.underlying38 rfl (by kernel_rfl)) rfl ⟨rfl, set3_below HW4.out (by omega) _ _ _⟩
  | some n =>
    cases hd : actRes d x with
    | none =>
      have E := Lib.hid (bad (.inr hd))
      clear bad ha hd HL HA HC
      go_wp2_with fail
      rw [E.out]
      exact bodyPost_ret (results_row_tmp rfl _ _ (w.heap.size + 1) 38 #[.int .u32 0, .int .u32 0, .slice none 0 0] (0, 0) _ rfl (set3_block HR4.out _ _ _) Try.underlying38 rfl (by kernel_rfl)) rfl ⟨rfl, set3_below HW4.out (by omega) _ _ _⟩
    | some m =>
      have he : bareT a d x = .tuple #[.agg #[.int .u32 (n : Nat), .int .u32 (m : Nat), .slice none 0 0], .int .i64 0] := by unfold bareT; rw [ha, hd]
      have E := Lib.hid he
      clear bad ha hd HL HA HC he
      have r3' := fun o => below_cell (HX4.out.trans ((Below.refl w4.heap.size w4).alloc (Nat.le_refl _) o |>.mono HX4.out.size)) HB.out 3 rfl
      have hnw := heap_alloc_new w4 (.cells #[.int .u32 (n : Nat), .int .u32 (m : Nat), .slice none 0 0] 38)
      have hwa := (Below.refl w4.heap.size w4).alloc (Nat.le_refl _) (.cells #[.int .u32 (n : Nat), .int .u32 (m : Nat), .slice none 0 0] 38)
      simp only [Option.getD_some, Option.isSome_some]
      go_upto_region 8 with fail
      generalize w4.alloc (.cells #[.int .u32 (n : Nat), .int .u32 (m : Nat), .slice none 0 0] 38) = wa at *
      have s3 := below_cell (HX4.out.trans (hwa.mono HX4.out.size)) HB.out 3 rfl
      have hR5 := (hwa.block _ (lt_of_block HR4.out)).trans HR4.out
      have y0 := below_cell (Below.refl _ _) hR5 0 rfl
      have y1 := below_cell (Below.refl _ _) hR5 1 rfl
      have y2 := below_cell (Below.refl _ _) hR5 2 rfl
      have g0 := block_frozen hR5 0
      have g1 := block_frozen hR5 1
      have g2 := block_frozen hR5 2
      have t0 := below_cell (Below.refl _ _) hnw 0 rfl
      have t1 := below_cell (Below.refl _ _) hnw 1 rfl
      have t2 := below_cell (Below.refl _ _) hnw 2 rfl
      have HWA := Lib.hid (HW4.out.trans (hwa.mono HW4.out.size)); have HR5 := Lib.hid hR5
      clear hwa hnw hR5 z0 z1 z2 f0 f1 f2 r3 r3'
      go_wp2_with fail
      refine wp_loop_once ?_
      go_wp2_with fail
      rw [E.out]
      exact bodyPost_ret (results_row_tmp rfl _ _ (w.heap.size + 1) 38 #[.int .u32 (n : Nat), .int .u32 (m : Nat), .slice none 0 0] (0, 0) _ rfl (set3_block HR5.out _ _ _) Try.underlying38 rfl (by kernel_rfl)) rfl ⟨rfl, set3_below HWA.out (by omega) _ _ _⟩
set_option maxRecDepth 100000 in
set_option maxHeartbeats 1000000 in
theorem tyAlive (w : World) : Calls Try.prog 9 #[] w fun e w' => e = .returned (.bool true) ∧ Below w.heap.size w w' := by
  have hC := fun u => checkNil ⟨#[120, 56, 54, 95, 54, 52]⟩ ⟨#[97, 108, 108, 111, 119]⟩ 0 u (by omega) (by omega)
  have hv : bareT ⟨#[120, 56, 54, 95, 54, 52]⟩ ⟨#[97, 108, 108, 111, 119]⟩ 0 = .tuple #[.agg #[.int .u32 3221225534, .int .u32 2147418112, .slice none 0 0], .int .i64 0] := by
    unfold bareT
    rw [show archOf ⟨#[120, 56, 54, 95, 54, 52]⟩ = some 3221225534 from by decide +kernel, show actRes ⟨#[97, 108, 108, 111, 119]⟩ 0 = some 2147418112 from by decide +kernel]
    rfl
  rw [hv] at hC
  have HC := Lib.hid hC
  clear hC hv
  go_enter Try.func9, Try.ntmps9
  go_wp2_with fail
  refine (HC.out _).mono ?_
  rintro e w2 ⟨rfl, hb2⟩
  have HW2 := Lib.hid hb2
  clear hb2
  go_wp2_with fail
  go_ret
  exact ⟨rfl, HW2.out.alloc HW2.out.size _⟩
end Go.Proofs.Ytbcoooaoofbboaa
