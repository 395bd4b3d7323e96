/- The walk of TypesConds. -/
import Derived.Test.YtbcoooaoofbboaaTyAlive
import Derived.Test.YtbcoooaoofbboaaRef16G
import Derived.Test.YtbcoooaoofbboaaCnd5
namespace Go.Proofs.Ytbcoooaoofbboaa.lawTypesConds
open Go.RowKit Go.ChangeShapes Go.Deep
set_option linter.unusedVariables false

set_option maxRecDepth 100000 in
set_option maxHeartbeats 4000000 in
theorem walk (v : Value) (c : Cnd) (w : World) (w0 : IsCnd w v c) :
    Calls Try.prog 3 #[v] w fun e w' => e = .returned (.bool true) ∧ Below w.heap.size w w' := by
  obtain ⟨hb, k, rfl, hk⟩ := id w0
  have hw1 := (Below.refl w.heap.size w).alloc (Nat.le_refl _) (.cells #[.int .i64 c.kind, k, .int .i64 c.arg, .int .u64 (c.mask : Nat), .string c.sign, .int .u64 (c.value : Nat)] 25)
  have hnw := heap_alloc_new w (.cells #[.int .i64 c.kind, k, .int .i64 c.arg, .int .u64 (c.mask : Nat), .string c.sign, .int .u64 (c.value : Nat)] 25)
  have hM := refMany_any c _ 200 _ (w0.below hw1) (by omega) (by omega)
  have hR := fun u (hu : Below w.heap.size w u) => tyRight_any c _ u (w0.below hu)
  have hT := fun u (hu : Below w.heap.size w u) => tyTests_any c _ u (w0.below hu)
  have hR2 := fun u (hu : Below w.heap.size w u) => refRight16 c _ u (w0.below hu)
  have hT2 := fun u (hu : Below w.heap.size w u) => refTests16 c _ u (w0.below hu)
  have hbig : 200 < c.size → c.right = false ∧ c.testN = 0 := fun h => by
    have h1 : c.right = false := by unfold Cnd.right; rw [decide_eq_false (by omega)]; rfl
    exact ⟨h1, by unfold Cnd.testN; rw [h1]; rfl⟩
  have HA := Lib.hid (fun u => tyAlive u)
  obtain ⟨ka, kn, kc, rfl, _⟩ := hk
  have HM := Lib.hid hM; have HR := Lib.hid hR; have HT := Lib.hid hT; have HR2 := Lib.hid hR2; have HT2 := Lib.hid hT2; have HW1 := Lib.hid hw1; have HNW := Lib.hid hnw; have HBIG := Lib.hid hbig
  clear hM hR hT hR2 hT2 hw1 hnw hb w0 hbig
  show Calls _ _ #[.agg #[.int .i64 c.kind, .slice ka kn kc, .int .i64 c.arg, .int .u64 (c.mask : Nat), .string c.sign, .int .u64 (c.value : Nat)]] _ _
  obtain ⟨S, hS⟩ : ∃ S, c.size = S := ⟨_, rfl⟩
  rw [hS] at HM HBIG
  go_enter Try.func3, Try.ntmps3
  go_wp2_with fail
  refine HM.out.mono ?_
  rintro e w2 ⟨rfl, hb2⟩
  have HX2 := Lib.hid hb2
  have HW2 := Lib.hid (HW1.out.trans (hb2.mono HW1.out.size))
  clear hb2 HM hS
  by_cases hs : 200 < S
  · obtain ⟨h1, h2⟩ := HBIG.out hs
    rw [h1] at HR
    rw [h2] at HT
    have hmin : (200 : Int) < ((min S (200 + 1) : Nat) : Int) := by omega
    clear h1 h2 hs HBIG HR2 HT2
    generalize min S (200 + 1) = M at *
    go_upto_region 2 with fail
    go_wp2_with fail
    refine (HA.out _).mono ?_
    rintro e w3 ⟨rfl, hb3⟩
    have HX3 := Lib.hid (HX2.out.trans (hb3.mono HX2.out.size)); have HW3 := Lib.hid (HW2.out.trans (hb3.mono HW2.out.size))
    have q0 := below_cell HX3.out HNW.out 0 rfl
    have q1 := below_cell HX3.out HNW.out 1 rfl
    have q2 := below_cell HX3.out HNW.out 2 rfl
    have q3 := below_cell HX3.out HNW.out 3 rfl
    have q4 := below_cell HX3.out HNW.out 4 rfl
    have q5 := below_cell HX3.out HNW.out 5 rfl
    clear hb3
    go_wp2_with fail
    refine (HR.out _ HW3.out).mono ?_
    rintro e w4 ⟨rfl, hb4⟩
    have HX4 := Lib.hid (HX3.out.trans (hb4.mono HX3.out.size)); have HW4 := Lib.hid (HW3.out.trans (hb4.mono HW3.out.size))
    clear hb4 q0 q1 q2 q3 q4 q5
    have q0 := below_cell HX4.out HNW.out 0 rfl
    have q1 := below_cell HX4.out HNW.out 1 rfl
    have q2 := below_cell HX4.out HNW.out 2 rfl
    have q3 := below_cell HX4.out HNW.out 3 rfl
    have q4 := below_cell HX4.out HNW.out 4 rfl
    have q5 := below_cell HX4.out HNW.out 5 rfl
    go_wp2_with fail
    refine (HT.out _ HW4.out).mono ?_
    rintro e w5 ⟨rfl, hb5⟩
    have HW5 := Lib.hid (HW4.out.trans (hb5.mono HW4.out.size))
    clear hb5
    go_wp2_with fail
    go_ret
    exact ⟨rfl, HW5.out⟩
  · have hmin : ¬ (200 : Int) < ((min S (200 + 1) : Nat) : Int) := by omega
    clear hs HBIG
    generalize min S (200 + 1) = M at *
    go_upto_region 3 with fail
    have hnw2 := (HX2.out.block _ (lt_of_block HNW.out)).trans HNW.out
    have r0 : ∀ x : KeepT w2, x.val.cell? ⟨w.heap.size, 0, none⟩ = some (.int .i64 c.kind) := fun x => keep_at hnw2 0 rfl x
    have r1 : ∀ x : KeepT w2, x.val.cell? ⟨w.heap.size, 1, none⟩ = some (.slice ka kn kc) := fun x => keep_at hnw2 1 rfl x
    have r2 : ∀ x : KeepT w2, x.val.cell? ⟨w.heap.size, 2, none⟩ = some (.int .i64 c.arg) := fun x => keep_at hnw2 2 rfl x
    have r3 : ∀ x : KeepT w2, x.val.cell? ⟨w.heap.size, 3, none⟩ = some (.int .u64 (c.mask : Nat)) := fun x => keep_at hnw2 3 rfl x
    have r4 : ∀ x : KeepT w2, x.val.cell? ⟨w.heap.size, 4, none⟩ = some (.string c.sign) := fun x => keep_at hnw2 4 rfl x
    have r5 : ∀ x : KeepT w2, x.val.cell? ⟨w.heap.size, 5, none⟩ = some (.int .u64 (c.value : Nat)) := fun x => keep_at hnw2 5 rfl x
    have HKB := Lib.hid (fun x : KeepT w2 => HW2.out.trans (x.below.mono HW2.out.size))
    clear hnw2
    refine wp_region_keep (w0 := w2) (by kernel_rfl) (by kernel_rfl) (Below.refl _ _) ?_
    repeat (go_big_quiet_step ((first | (go_at_call 9; exact keepCall (HA.out _)) | (go_at_call 10; exact keepCall (HR.out _ (HKB.out _))) | (go_at_call 11; exact keepCall (HT.out _ (HKB.out _))) | (go_at_call 12; exact keepCall (HR2.out _ (HKB.out _))) | (go_at_call 13; exact keepCall (HT2.out _ (HKB.out _))))))
    refine wpQuiet_nil ?_
    intro _ hw'
    obtain ⟨x, rfl⟩ := hw'
    have hz := HW2.out.trans (x.below.mono HW2.out.size)
    clear r0 r1 r2 r3 r4 r5
    generalize x.val = wz at *
    go_wp2_with fail
    go_ret
    exact ⟨by first | rfl | simp, hz⟩
end Go.Proofs.Ytbcoooaoofbboaa.lawTypesConds
