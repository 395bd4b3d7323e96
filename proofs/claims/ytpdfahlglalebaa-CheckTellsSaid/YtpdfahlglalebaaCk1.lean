/- doorwardref12.returns, jumps, follows. -/
import Derived.Test.YtpdfahlglalebaaChkM
import Derived.Test.YtpdfahlglalebaaRef10Kn
namespace Go.Proofs.Ytpdfahlglalebaa
open Go.RowKit Go.ChangeShapes
set_option linter.unusedVariables false

theorem ck_ret (i : Ins) (w : World) : Calls Try.prog 35 #[i.value] w fun e w' => e = .returned (.bool (decide (i.code = 6 ∨ i.code = 22))) ∧ Below w.heap.size w w' := by
  obtain ⟨c, jt, jf, k⟩ := i
  unfold Ins.value
  dsimp only
  by_cases h6 : c = 6
  · subst h6
    rw [decide_eq_true (.inl rfl)]
    go_enter Try.func35, Try.ntmps35
    go_wp2_with fail
    go_ret
    exact ⟨rfl, (Below.refl _ _).alloc (Nat.le_refl _) _⟩
  · by_cases h22 : c = 22
    · subst h22
      rw [decide_eq_true (.inr rfl)]
      go_enter Try.func35, Try.ntmps35
      go_wp2_with fail
      go_ret
      exact ⟨rfl, (Below.refl _ _).alloc (Nat.le_refl _) _⟩
    · rw [decide_eq_false (by omega)]
      have n6 : (c == 6) = false := by rw [beq_eq_false_iff_ne]; exact h6
      have n22 : (c == 22) = false := by rw [beq_eq_false_iff_ne]; exact h22
      clear h6 h22
      go_enter Try.func35, Try.ntmps35
      go_wp2_with fail
      go_ret
      exact ⟨rfl, (Below.refl _ _).alloc (Nat.le_refl _) _⟩
theorem ck_jump (c : Nat) (jt jf k : Int) (w : World) (hc : c ≤ 255) : Calls Try.prog 36 #[(Ins.mk (c : Int) jt jf k).value] w fun e w' => e = .returned (.bool (decide ((c : Int) % 8 = 5 ∧ (c : Int) ≠ 5))) ∧ Below w.heap.size w w' := by
  unfold Ins.value
  dsimp only
  have hcI : (c : Int) ≤ 255 := by omega
  by_cases h8 : (c : Int) % 8 = 5
  · have e8 : ((c : Int) % 8 == 5) = true := by rw [beq_iff_eq]; exact h8
    by_cases h5 : (c : Int) = 5
    · rw [decide_eq_false (by omega)]
      have n5 : ((c : Int) != 5) = false := by rw [bne_eq_false_iff_eq]; exact h5
      clear h8 h5
      go_enter Try.func36, Try.ntmps36
      go_wp2_with fail
      go_ret
      exact ⟨rfl, (Below.refl _ _).alloc (Nat.le_refl _) _⟩
    · rw [decide_eq_true ⟨h8, h5⟩]
      have n5 : ((c : Int) != 5) = true := by rw [bne_iff_ne]; exact h5
      clear h8 h5
      go_enter Try.func36, Try.ntmps36
      go_wp2_with fail
      go_ret
      exact ⟨rfl, (Below.refl _ _).alloc (Nat.le_refl _) _⟩
  · rw [decide_eq_false (by omega)]
    have e8 : ((c : Int) % 8 == 5) = false := by rw [beq_eq_false_iff_ne]; exact h8
    clear h8
    go_enter Try.func36, Try.ntmps36
    go_wp2_with fail
    go_ret
    exact ⟨rfl, (Below.refl _ _).alloc (Nat.le_refl _) _⟩
set_option maxRecDepth 100000 in
set_option maxHeartbeats 1000000 in
theorem ck_fol (i : Ins) (p q : Nat) (w : World) (hk : insKnown i.code = true) (hb : i.bounded) (ht : 0 ≤ i.jt ∧ i.jt ≤ 255 ∧ 0 ≤ i.jf ∧ i.jf ≤ 255) (hp : p ≤ 5000) (hq : q ≤ 5000) :
    Calls Try.prog 27 #[i.value, .int .i64 (p : Int), .int .i64 (q : Int)] w fun e w' => e = .returned (.bool (decide ((q : Int) ∈ folL p i))) ∧ Below w.heap.size w w' := by
  obtain ⟨c, jt, jf, k⟩ := i
  obtain ⟨cn, rfl, hcn⟩ := chk_code c hk
  obtain ⟨_, _, _, bk, bk1⟩ := hb
  obtain ⟨h1, h2, h3, h4⟩ := ht
  dsimp only at h1 h2 h3 h4 bk bk1
  have hpI : (p : Int) ≤ 5000 := by omega
  have hqI : (q : Int) ≤ 5000 := by omega
  have HR := Lib.hid (fun u => ck_ret ⟨(cn : Int), jt, jf, k⟩ u)
  have HJ := Lib.hid (fun u => ck_jump cn jt jf k u (known_le cn hcn))
  unfold Ins.value at *
  dsimp only at *
  have hal := (Below.refl w.heap.size w).alloc (Nat.le_refl _) (.cells #[.int .i64 cn, .int .i64 jt, .int .i64 jf, .int .u32 k] 38)
  have hblk := heap_alloc_new w (.cells #[.int .i64 cn, .int .i64 jt, .int .i64 jf, .int .u32 k] 38)
  have HAL := Lib.hid hal
  have HB := Lib.hid hblk
  clear hal hblk hp hq hk
  by_cases hr : (cn : Int) = 6 ∨ (cn : Int) = 22
  · rw [folL_ret _ _ hr]
    rw [decide_eq_true hr] at HR
    clear hr HJ
    go_enter Try.func27, Try.ntmps27
    go_wp2_with fail
    refine (HR.out _).mono ?_
    rintro e w1 ⟨rfl, hb1⟩
    have HW1 := Lib.hid (HAL.out.trans (hb1.mono HAL.out.size))
    clear hb1
    go_wp2_with fail
    go_ret
    exact ⟨rfl, HW1.out⟩
  · rw [decide_eq_false hr] at HR
    by_cases h5 : (cn : Int) = 5
    · rw [folL_ja _ _ h5]
      have e5 : ((cn : Int) == 5) = true := by rw [beq_iff_eq]; exact h5
      have hD : decide ((q : Int) ∈ [(p : Int) + 1 + k]) = ((q : Int) == (p : Int) + 1 + k) := by rw [Bool.eq_iff_iff]; simp
      rw [hD]
      generalize hB : ((q : Int) == (p : Int) + 1 + k) = B
      clear hr h5 HJ hD
      go_enter Try.func27, Try.ntmps27
      go_wp2_with fail
      refine (HR.out _).mono ?_
      rintro e w1 ⟨rfl, hb1⟩
      have q0 := below_cell hb1 HB.out 0 rfl
      have q3 := below_cell hb1 HB.out 3 rfl
      have HW1 := Lib.hid (HAL.out.trans (hb1.mono HAL.out.size))
      clear hb1
      go_wp2_with fail
      go_ret
      exact ⟨rfl, HW1.out⟩
    · have e5 : ((cn : Int) == 5) = false := by rw [beq_eq_false_iff_ne]; exact h5
      by_cases hj : (cn : Int) % 8 = 5
      · rw [folL_jump _ _ hr h5 hj]
        rw [decide_eq_true ⟨hj, h5⟩] at HJ
        have hD : decide ((q : Int) ∈ [(p : Int) + 1 + jt, (p : Int) + 1 + jf]) = (((q : Int) == (p : Int) + 1 + jt) || ((q : Int) == (p : Int) + 1 + jf)) := by rw [Bool.eq_iff_iff]; simp
        rw [hD]
        generalize hB1 : ((q : Int) == (p : Int) + 1 + jt) = B1
        generalize hB2 : ((q : Int) == (p : Int) + 1 + jf) = B2
        clear hr h5 hj hD
        cases B1
        all_goals
          go_enter Try.func27, Try.ntmps27
          go_wp2_with fail
          refine (HR.out _).mono ?_
          rintro e w1 ⟨rfl, hb1⟩
          have HB1 := Lib.hid ((hb1.block _ (lt_of_block HB.out)).trans HB.out)
          have q0 := below_cell hb1 HB.out 0 rfl
          have q1 := below_cell hb1 HB.out 1 rfl
          have q2 := below_cell hb1 HB.out 2 rfl
          have q3 := below_cell hb1 HB.out 3 rfl
          have HW1 := Lib.hid (HAL.out.trans (hb1.mono HAL.out.size))
          clear hb1
          go_wp2_with fail
          refine (HJ.out _).mono ?_
          rintro e w2 ⟨rfl, hb2⟩
          clear q0 q1 q2 q3
          have q1 := below_cell hb2 HB1.out 1 rfl
          have q2 := below_cell hb2 HB1.out 2 rfl
          have HW2 := Lib.hid (HW1.out.trans (hb2.mono HW1.out.size))
          clear hb2
          go_wp2_with fail
          go_ret
          exact ⟨rfl, HW2.out⟩
      · rw [folL_next _ _ hr h5 hj]
        rw [decide_eq_false (fun h => hj h.1)] at HJ
        have hD : decide ((q : Int) ∈ [(p : Int) + 1]) = ((q : Int) == (p : Int) + 1) := by rw [Bool.eq_iff_iff]; simp
        rw [hD]
        generalize hB1 : ((q : Int) == (p : Int) + 1) = B1
        clear hr h5 hj hD
        go_enter Try.func27, Try.ntmps27
        go_wp2_with fail
        refine (HR.out _).mono ?_
        rintro e w1 ⟨rfl, hb1⟩
        have HB1 := Lib.hid ((hb1.block _ (lt_of_block HB.out)).trans HB.out)
        have q0 := below_cell hb1 HB.out 0 rfl
        have q1 := below_cell hb1 HB.out 1 rfl
        have q2 := below_cell hb1 HB.out 2 rfl
        have q3 := below_cell hb1 HB.out 3 rfl
        have HW1 := Lib.hid (HAL.out.trans (hb1.mono HAL.out.size))
        clear hb1
        go_wp2_with fail
        refine (HJ.out _).mono ?_
        rintro e w2 ⟨rfl, hb2⟩
        have HW2 := Lib.hid (HW1.out.trans (hb2.mono HW1.out.size))
        clear hb2
        go_wp2_with fail
        go_ret
        exact ⟨rfl, HW2.out⟩
end Go.Proofs.Ytpdfahlglalebaa
