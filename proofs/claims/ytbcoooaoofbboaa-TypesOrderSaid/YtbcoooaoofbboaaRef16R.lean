/- The reference of layer 16: Right. -/
import Derived.Test.YtbcoooaoofbboaaRef16F
namespace Go.Proofs.Ytbcoooaoofbboaa
open Go.RowKit Go.ChangeShapes
set_option linter.unusedVariables false

set_option maxRecDepth 100000 in
set_option maxHeartbeats 1000000 in
theorem refRight16 (c : Cnd) (v : Value) (w : World) (h : IsCnd w v c) : Calls Try.prog 12 #[v] w fun e w' => e = .returned (.bool c.right) ∧ Below w.heap.size w w' := by
  obtain ⟨hb, k, rfl, hk⟩ := id h
  have hw1 := (Below.refl w.heap.size w).alloc (Nat.le_refl _) (.cells #[.int .i64 c.kind, k, .int .i64 c.arg, .int .u64 (c.mask : Nat), .string c.sign, .int .u64 (c.value : Nat)] 25)
  have hnw := heap_alloc_new w (.cells #[.int .i64 c.kind, k, .int .i64 c.arg, .int .u64 (c.mask : Nat), .string c.sign, .int .u64 (c.value : Nat)] 25)
  have hM := refMany_any c _ 100 _ (h.below hw1) (by omega) (by omega)
  have hF := fun u (hu : Below w.heap.size w u) => refFits16 c.size c (Nat.le_refl _) _ u (h.below hu)
  have hR : c.right = (decide (c.size ≤ 100) && c.fine) := rfl
  have hfr := fineR_few c
  obtain ⟨ka, kn, kc, rfl, _⟩ := hk
  obtain ⟨S, hS⟩ : ∃ S, c.size = S := ⟨_, rfl⟩
  rw [hS] at hR hM hfr
  have HM := Lib.hid hM; have HF := Lib.hid hF; have HW1 := Lib.hid hw1; have HR := Lib.hid hR; have HNW := Lib.hid hnw
  clear hM hF hw1 h hb hR hS hnw
  show Calls _ _ #[.agg #[.int .i64 c.kind, .slice ka kn kc, .int .i64 c.arg, .int .u64 (c.mask : Nat), .string c.sign, .int .u64 (c.value : Nat)]] _ _
  go_enter Try.func12, Try.ntmps12
  go_wp2_with fail
  refine HM.out.mono ?_
  rintro e w2 ⟨rfl, hb2⟩
  have hnw2 := (hb2.block _ (lt_of_block HNW.out)).trans HNW.out
  have q0 := below_cell (Below.refl _ _) hnw2 0 rfl
  have q1 := below_cell (Below.refl _ _) hnw2 1 rfl
  have q2 := below_cell (Below.refl _ _) hnw2 2 rfl
  have q3 := below_cell (Below.refl _ _) hnw2 3 rfl
  have q4 := below_cell (Below.refl _ _) hnw2 4 rfl
  have q5 := below_cell (Below.refl _ _) hnw2 5 rfl
  have HW2 := Lib.hid (HW1.out.trans (hb2.mono HW1.out.size))
  clear hb2 hnw2 HM HNW
  by_cases hs : S ≤ 100
  · have hmin : ((min S (100 + 1) : Nat) : Int) ≤ 100 := by omega
    have hF2 := HF.out _ HW2.out
    rw [hfr hs] at hF2
    have HF2 := Lib.hid hF2
    have hRR : c.right = c.fine := by rw [HR.out, decide_eq_true hs]; rfl
    have HRR := Lib.hid hRR
    clear hF2 HF hRR hs hfr HR
    generalize min S (100 + 1) = M at *
    go_wp2_with fail
    refine HF2.out.mono ?_
    rintro e w3 ⟨rfl, hb3⟩
    have HW3 := Lib.hid (HW2.out.trans (hb3.mono HW2.out.size))
    clear hb3
    go_wp2_with fail
    go_ret
    exact ⟨by rw [HRR.out]; rfl, HW3.out⟩
  · have hmin : ¬ ((min S (100 + 1) : Nat) : Int) ≤ 100 := by omega
    have hRR : c.right = false := by rw [HR.out, decide_eq_false hs]; rfl
    have HRR := Lib.hid hRR
    clear HF hRR hs hfr HR
    generalize min S (100 + 1) = M at *
    go_wp2_with fail
    go_ret
    exact ⟨by rw [HRR.out]; rfl, HW2.out⟩
end Go.Proofs.Ytbcoooaoofbboaa
