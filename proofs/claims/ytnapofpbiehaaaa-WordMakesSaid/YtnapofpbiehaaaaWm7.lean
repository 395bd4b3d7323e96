/- word.Cond. -/
import Derived.Test.YtnapofpbiehaaaaWm6
import Derived.Test.YtnapofpbiehaaaaCnd5
import Derived.Test.YtnapofpbiehaaaaOpOwn
import Derived.BigQuiet
import Derived.Deep.RegionWith
namespace Go.Proofs.Ytnapofpbiehaaaa
open Go.RowKit Go.ChangeShapes
set_option linter.unusedVariables false

set_option maxRecDepth 100000 in
set_option maxHeartbeats 4000000 in
theorem wordCond_ok (c : Cnd) (k : Value) (w : World) (yes no next : Int) (h : IsCnd w (cndV c k) c) (hr : c.right = true) (hy : 0 ≤ yes) (hn : 0 ≤ no) (hyn : yes ≠ no) (hy2 : yes < next) (hn2 : no < next) (hnx : next ≤ 1000000) :
    Calls Try.prog 8 #[cndV c k, .int .i64 yes, .int .i64 no, .int .i64 next] w fun e w' => ∃ sv, e = .returned (.tuple #[sv, .int .i64 (condS c yes no next).2, .int .i64 0]) ∧ IsOps w' sv (condS c yes no next).1 ∧ Below w.heap.size w w' := by
  obtain ⟨hbd, k', hv, hkk⟩ := id h
  obtain ⟨ka, kn, kc, e, hkn, _⟩ := id hkk
  have e1 : k = k' := by
    unfold cndV Cnd.cells at hv
    injection hv with hv
    have := congrArg Array.toList hv
    simp only [List.cons.injEq, and_true, true_and] at this
    exact this
  subst e1
  subst e
  have hw1 := fun o => (Below.refl w.heap.size w).alloc (Nat.le_refl _) o
  have hnw := fun o => heap_alloc_new w o
  have hR := fun u (hu : Below w.heap.size w u) => tyRight_any c _ u (h.below hu)
  rw [hr] at hR
  have hfs : c.fine = true ∧ c.size ≤ 100 := by unfold Cnd.right at hr; rw [Bool.and_eq_true, decide_eq_true_eq] at hr; exact ⟨hr.2, hr.1⟩
  have hC := fun u B v (hb : w.heap.size ≤ w.heap.size) (hu : Below w.heap.size w u) (M : Mk w.heap.size u B [] next v) => condSays c.size c (Nat.le_refl _) hfs.1 w u (.slice ka kn kc) w.heap.size B [] next v yes no h hb hu M (by omega) (by omega) (by omega) (by omega) (by simp; omega)
  obtain ⟨P, hP⟩ : ∃ P, condS c yes no next = P := ⟨_, rfl⟩
  rw [hP] at hC ⊢
  obtain ⟨kind, kids, arg, mask, sign, value⟩ := c
  change ∀ u, Below w.heap.size w u → Calls _ _ #[.agg #[.int .i64 kind, .slice ka kn kc, .int .i64 arg, .int .u64 (mask : Nat), .string sign, .int .u64 (value : Nat)]] _ _ at hR
  change ∀ u B v, w.heap.size ≤ w.heap.size → Below w.heap.size w u → Mk w.heap.size u B [] next v → Calls _ _ #[_, .agg #[.int .i64 kind, .slice ka kn kc, .int .i64 arg, .int .u64 (mask : Nat), .string sign, .int .u64 (value : Nat)], _, _] _ _ at hC
  show Calls _ _ #[.agg #[.int .i64 kind, .slice ka kn kc, .int .i64 arg, .int .u64 (mask : Nat), .string sign, .int .u64 (value : Nat)], _, _, _] _ _
  obtain ⟨w1, eW⟩ : ∃ w1, w1 = w.alloc (.cells #[.int .i64 kind, .slice ka kn kc, .int .i64 arg, .int .u64 (mask : Nat), .string sign, .int .u64 (value : Nat)] 25) := ⟨_, rfl⟩
  have HN := Lib.hid (hnw (.cells #[.int .i64 kind, .slice ka kn kc, .int .i64 arg, .int .u64 (mask : Nat), .string sign, .int .u64 (value : Nat)] 25)); have HW := Lib.hid (hw1 (.cells #[.int .i64 kind, .slice ka kn kc, .int .i64 arg, .int .u64 (mask : Nat), .string sign, .int .u64 (value : Nat)] 25))
  rw [← eW] at HN HW
  have HR := Lib.hid hR; have HC := Lib.hid hC
  have c0 := below_cell (Below.refl _ _) HN.out 0 rfl
  have c1 := below_cell (Below.refl _ _) HN.out 1 rfl
  have c2 := below_cell (Below.refl _ _) HN.out 2 rfl
  have c3 := below_cell (Below.refl _ _) HN.out 3 rfl
  have c4 := below_cell (Below.refl _ _) HN.out 4 rfl
  have c5 := below_cell (Below.refl _ _) HN.out 5 rfl
  have g1 : (yes == no) = false := by rw [beq_eq_false_iff_ne]; exact hyn
  have g2 : ¬ yes < 0 := by omega
  have g3 : ¬ no < 0 := by omega
  have g4 : ¬ next ≤ yes := by omega
  have g5 : ¬ next ≤ no := by omega
  have g6 : ¬ 1000000 < next := by omega
  clear hw1 hnw hR hC hfs hP h hkk hv hbd hr hkn hy hn hyn hy2 hn2 hnx
  go_enter Try.func8, Try.ntmps8
  go_upto_region 1 with fail
  rw [← eW]
  clear eW
  go_wp2_with fail
  refine (HR.out _ HW.out).mono ?_
  rintro e w2 ⟨rfl, hb2⟩
  have HN2 := Lib.hid ((hb2.block _ (lt_of_block HN.out)).trans HN.out); have HW2 := Lib.hid (HW.out.trans (hb2.mono HW.out.size))
  clear hb2 c0 c1 c2 c3 c4 c5 HR
  go_upto_region 4 with fail
  clear g1 g2 g3 g4 g5 g6
  have hn3 := heap_alloc_new w2 (.cells #[.slice none 0 0, .int .i64 next] 51)
  have hb3 := (Below.refl w2.heap.size w2).alloc (Nat.le_refl _) (.cells #[.slice none 0 0, .int .i64 next] 51)
  generalize w2.alloc (.cells #[.slice none 0 0, .int .i64 next] 51) = w3 at *
  have hs3 := HW2.out.size
  have hN3 := (hb3.block _ (lt_of_block HN2.out)).trans HN2.out
  generalize w2.heap.size = B at *
  have hM : Mk w.heap.size w3 B [] next (.slice none 0 0) := ⟨hn3, ⟨rfl, .inl ⟨rfl, rfl⟩⟩, by simp [Value.ownBlock], hs3, fun i hi => by cases hi⟩
  have hB3 := HW2.out.trans (hb3.mono hs3)
  have hc := HC.out w3 B _ (Nat.le_refl _) hB3 hM
  have HCC := Lib.hid hc; have HB3 := Lib.hid hB3
  have c0 := below_cell (Below.refl _ _) hN3 0 rfl
  have c1 := below_cell (Below.refl _ _) hN3 1 rfl
  have c2 := below_cell (Below.refl _ _) hN3 2 rfl
  have c3 := below_cell (Below.refl _ _) hN3 3 rfl
  have c4 := below_cell (Below.refl _ _) hN3 4 rfl
  have c5 := below_cell (Below.refl _ _) hN3 5 rfl
  clear hn3 hb3 hs3 hN3 hM hB3 hc HC HN2 HW2
  go_wp2_with fail
  refine HCC.out.mono ?_
  rintro e w4 ⟨rfl, v4, M4, K4⟩
  have HB4 := Lib.hid (K4.2.1 _ _ (Nat.le_refl _) HB3.out)
  have HO := Lib.hid (own_ops M4.own rfl M4.bnd)
  obtain ⟨A, cv, e4, _, _⟩ := own_form4 M4.own
  have hm4 := M4.blk
  subst e4
  obtain ⟨PL, PN⟩ := P
  have d0 := fun x : KeepT w4 => below_cell x.below hm4 0 rfl
  have d1 := fun x : KeepT w4 => below_cell x.below hm4 1 rfl
  have hbr := Below.refl w4.heap.size w4
  clear hm4 M4 K4 HCC c0 c1 c2 c3 c4 c5
  go_upto_region 5 with fail
  refine wp_region_keep (w0 := w4) (by kernel_rfl) (by kernel_rfl) hbr ?_
  repeat (go_big_quiet_step (fail))
  refine wpQuiet_nil ?_
  rintro w5 ⟨x5, rfl⟩
  have HB5 := Lib.hid (HB4.out.trans (x5.below.mono HB4.out.size)); have HO5 := Lib.hid (HO.out.below x5.below)
  generalize x5.val = w5 at *
  clear d0 d1 hbr
  go_wp2_with fail
  go_ret3
  exact ⟨_, rfl, HO5.out, HB5.out⟩
end Go.Proofs.Ytnapofpbiehaaaa
