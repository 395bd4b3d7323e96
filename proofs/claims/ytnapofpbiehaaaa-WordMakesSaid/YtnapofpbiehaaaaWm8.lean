/- word.Cond, where it refuses. -/
import Derived.Test.YtnapofpbiehaaaaWm7
import Derived.Test.YtnapofpbiehaaaaRefFits
import Derived.Test.YtnapofpbiehaaaaRef16G
import Derived.Test.YtnapofpbiehaaaaWdAlive
namespace Go.Proofs.Ytnapofpbiehaaaa
open Go.RowKit Go.ChangeShapes
set_option linter.unusedVariables false

/-- what is handed in may not be -/
def Bad7 (R : Bool) (yes no next : Int) : Prop := ¬ (R = true ∧ ¬ yes = no ∧ ¬ yes < 0 ∧ ¬ no < 0 ∧ ¬ next ≤ yes ∧ ¬ next ≤ no ∧ ¬ 1000000 < next)
set_option maxRecDepth 100000 in
set_option maxHeartbeats 4000000 in
theorem wordCond_bad (c : Cnd) (k : Value) (w : World) (yes no next : Int) (h : IsCnd w (cndV c k) c) (hbad : Bad7 c.right yes no next) :
    Calls Try.prog 8 #[cndV c k, .int .i64 yes, .int .i64 no, .int .i64 next] w fun e w' => e = .returned (.tuple #[.slice none 0 0, .int .i64 0, .int .i64 1]) ∧ Below w.heap.size w w' := by
  obtain ⟨hbd, k', hv, hkk⟩ := id h
  obtain ⟨ka, kn, kc, e, hkn, _⟩ := id hkk
  have e1 : k = k' := by
    unfold cndV Cnd.cells at hv
    injection hv with hv
    have := congrArg Array.toList hv
    simp only [List.cons.injEq, and_true, true_and] at this
    exact this
  subst e1
  subst e
  have hR := fun u (hu : Below w.heap.size w u) => tyRight_any c _ u (h.below hu)
  have hnw := heap_alloc_new w (.cells (c.cells (.slice ka kn kc)).toArray 25)
  have hw1 := (Below.refl w.heap.size w).alloc (Nat.le_refl _) (.cells (c.cells (.slice ka kn kc)).toArray 25)
  generalize c.right = R at *
  obtain ⟨kind, kids, arg, mask, sign, value⟩ := c
  simp only [Cnd.cells, Cnd.kind, Cnd.arg, Cnd.mask, Cnd.sign, Cnd.value] at hnw hw1
  change ∀ u, Below w.heap.size w u → Calls _ _ #[.agg #[.int .i64 kind, .slice ka kn kc, .int .i64 arg, .int .u64 (mask : Nat), .string sign, .int .u64 (value : Nat)]] _ _ at hR
  show Calls _ _ #[.agg #[.int .i64 kind, .slice ka kn kc, .int .i64 arg, .int .u64 (mask : Nat), .string sign, .int .u64 (value : Nat)], _, _, _] _ _
  obtain ⟨w1, eW⟩ : ∃ w1, w1 = w.alloc (.cells #[.int .i64 kind, .slice ka kn kc, .int .i64 arg, .int .u64 (mask : Nat), .string sign, .int .u64 (value : Nat)] 25) := ⟨_, rfl⟩
  have HN := Lib.hid hnw; have HW := Lib.hid hw1
  have HN : Hid (w1.heap[w.heap.size]? = some (.cells #[.int .i64 kind, .slice ka kn kc, .int .i64 arg, .int .u64 (mask : Nat), .string sign, .int .u64 (value : Nat)] 25 (0, 0))) := Lib.hid (by rw [eW]; exact hnw)
  have HW : Hid (Below w.heap.size w w1) := Lib.hid (by rw [eW]; exact hw1)
  have HR := Lib.hid hR; have HBAD := Lib.hid hbad
  have c0 := below_cell (Below.refl _ _) HN.out 0 rfl
  have c1 := below_cell (Below.refl _ _) HN.out 1 rfl
  have c2 := below_cell (Below.refl _ _) HN.out 2 rfl
  have c3 := below_cell (Below.refl _ _) HN.out 3 rfl
  have c4 := below_cell (Below.refl _ _) HN.out 4 rfl
  have c5 := below_cell (Below.refl _ _) HN.out 5 rfl
  clear hR hkk hv hbd hkn hnw hw1 h hbad
  cases R
  · go_enter Try.func8, Try.ntmps8
    go_upto_region 1 with fail
    rw [← eW]
    clear eW
    go_wp2_with fail
    refine (HR.out _ HW.out).mono ?_
    rintro e w2 ⟨rfl, hb2⟩
    have HW2 := Lib.hid (HW.out.trans (hb2.mono HW.out.size))
    clear hb2 c0 c1 c2 c3 c4 c5 HR
    go_wp2_with fail
    go_ret3
    exact ⟨rfl, HW2.out⟩
  · go_enter Try.func8, Try.ntmps8
    go_upto_region 1 with fail
    rw [← eW]
    clear eW
    go_wp2_with fail
    refine (HR.out _ HW.out).mono ?_
    rintro e w2 ⟨rfl, hb2⟩
    have HW2 := Lib.hid (HW.out.trans (hb2.mono HW.out.size))
    clear hb2 c0 c1 c2 c3 c4 c5 HR
    by_cases b1 : yes = no
    · have h1 : (yes == no) = true := by rw [beq_iff_eq]; exact b1
      clear b1
      go_wp2_with fail
      go_ret3
      exact ⟨rfl, HW2.out⟩
    have h1 : (yes == no) = false := by rw [beq_eq_false_iff_ne]; exact b1
    by_cases b2 : yes < 0
    · have h2 : yes < 0 := b2
      clear b2
      go_wp2_with fail
      go_ret3
      exact ⟨rfl, HW2.out⟩
    have h2 : ¬ yes < 0 := b2
    by_cases b3 : no < 0
    · have h3 : no < 0 := b3
      clear b3
      go_wp2_with fail
      go_ret3
      exact ⟨rfl, HW2.out⟩
    have h3 : ¬ no < 0 := b3
    by_cases b4 : next ≤ yes
    · have h4 : next ≤ yes := b4
      clear b4
      go_wp2_with fail
      go_ret3
      exact ⟨rfl, HW2.out⟩
    have h4 : ¬ next ≤ yes := b4
    by_cases b5 : next ≤ no
    · have h5 : next ≤ no := b5
      clear b5
      go_wp2_with fail
      go_ret3
      exact ⟨rfl, HW2.out⟩
    have h5 : ¬ next ≤ no := b5
    by_cases b6 : 1000000 < next
    · have h6 : (1000000 : Int) < next := b6
      clear b6
      go_wp2_with fail
      go_ret3
      exact ⟨rfl, HW2.out⟩
    have h6 : ¬ (1000000 : Int) < next := b6
    exact absurd ⟨by first | trivial | rfl, b1, b2, b3, b4, b5, b6⟩ HBAD.out
end Go.Proofs.Ytnapofpbiehaaaa
