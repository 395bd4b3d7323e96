/- doorwardref12.Well, first. -/
import Derived.Test.YtpdfahlglalebaaCk1
namespace Go.Proofs.Ytpdfahlglalebaa
open Go.RowKit Go.ChangeShapes
set_option linter.unusedVariables false

def wB (i : Ins) (p n : Nat) : Bool := fitsB i && (folL p i).all fun t => decide (t < (n : Int))
theorem wB_well (l : List Ins) (p : Nat) : wB (l.getD p insZ) p l.length = wellB l p := rfl
theorem wB_of {i : Ins} {p n : Nat} (hk : insKnown i.code = true) (ht : 0 ≤ i.jt ∧ i.jt ≤ 255 ∧ 0 ≤ i.jf ∧ i.jf ≤ 255) : wB i p n = (fitsK i && (folL p i).all fun t => decide (t < (n : Int))) := by
  unfold wB fitsB; rw [hk, decide_eq_true ht, Bool.true_and, Bool.true_and]
theorem wB_last {i : Ins} {p n : Nat} (hb : i.bounded) (hr : ¬ (i.code = 6 ∨ i.code = 22)) (ht : 0 ≤ i.jt ∧ i.jt ≤ 255 ∧ 0 ≤ i.jf ∧ i.jf ≤ 255) (hn : n ≤ p + 1) : wB i p n = false := by
  have hk := hb.2.2.2
  unfold wB
  have : (folL p i).all (fun t => decide (t < (n : Int))) = false := by
    by_cases h5 : i.code = 5
    · rw [folL_ja _ _ h5]; simp; omega
    · by_cases hj : i.code % 8 = 5
      · rw [folL_jump _ _ hr h5 hj]; simp; omega
      · rw [folL_next _ _ hr h5 hj]; simp; omega
  rw [this, Bool.and_false]
theorem wB_next {i : Ins} {p n : Nat} (hk : insKnown i.code = true) (ht : 0 ≤ i.jt ∧ i.jt ≤ 255 ∧ 0 ≤ i.jf ∧ i.jf ≤ 255) (hr : ¬ (i.code = 6 ∨ i.code = 22)) (h5 : i.code ≠ 5) (hj : i.code % 8 ≠ 5) (hn : p + 1 < n) : wB i p n = fitsK i := by
  rw [wB_of hk ht, folL_next _ _ hr h5 hj]
  simp; omega
set_option maxRecDepth 100000 in
set_option maxHeartbeats 4000000 in
theorem ck_well (i : Ins) (p n : Nat) (w : World) (hb : i.bounded) (hp : p < n) (hn : n ≤ 5000) :
    Calls Try.prog 26 #[i.value, .int .i64 (p : Int), .int .i64 (n : Int)] w fun e w' => e = .returned (.bool (wB i p n)) ∧ Below w.heap.size w w' := by
  obtain ⟨c, jt, jf, k⟩ := i
  have hb0 := hb
  obtain ⟨_, _, _, bk, bk1⟩ := hb
  dsimp only at bk bk1
  have hpI : (p : Int) < n := by omega
  have hnI : (n : Int) ≤ 5000 := by omega
  have HK := Lib.hid (fun u => refKnown_any c u)
  have HR := Lib.hid (fun u => ck_ret ⟨c, jt, jf, k⟩ u)
  unfold Ins.value at *
  dsimp only at *
  have hal := (Below.refl w.heap.size w).alloc (Nat.le_refl _) (.cells #[.int .i64 c, .int .i64 jt, .int .i64 jf, .int .u32 k] 38)
  have hblk := heap_alloc_new w (.cells #[.int .i64 c, .int .i64 jt, .int .i64 jf, .int .u32 k] 38)
  have HAL := Lib.hid hal
  have HB := Lib.hid hblk
  clear hal hblk
  cases hk : insKnown c with
  | false =>
    have hr : wB ⟨c, jt, jf, k⟩ p n = false := by unfold wB fitsB; dsimp only; rw [hk]; rfl
    rw [hk] at HK
    rw [hr]
    clear hr hk
    go_enter Try.func26, Try.ntmps26
    go_wp2_with fail
    refine (HK.out _).mono ?_
    rintro e w1 ⟨rfl, rfl⟩
    go_wp2_with fail
    go_ret
    exact ⟨rfl, HAL.out⟩
  | true =>
    rw [hk] at HK
    by_cases ht : 0 ≤ jt ∧ jt ≤ 255 ∧ 0 ≤ jf ∧ jf ≤ 255
    · obtain ⟨h1, h2, h3, h4⟩ := id ht
      have l1 : (jt < 0) = False := by simp; omega
      by_cases hlast : n = p + 1
      · have hlI : (n : Int) - 1 = p := by omega
        have hle : ((p : Int) == (n : Int) - 1) = true := by rw [beq_iff_eq]; omega
        have hle2 : ((n : Int) - 1 == (p : Int)) = true := by rw [beq_iff_eq]; omega
        by_cases hr : c = 6 ∨ c = 22
        · rw [decide_eq_true hr] at HR
          have hw : wB ⟨c, jt, jf, k⟩ p n = true := by
            rw [wB_of hk ht, folL_ret _ _ hr, fitsK_else _ (by dsimp only; omega)]; rfl
          rw [hw]
          obtain ⟨cn, rfl, hcn⟩ := chk_code c hk
          have HJ := Lib.hid (fun u => ck_jump cn jt jf k u (known_le cn hcn))
          rw [decide_eq_false (by omega)] at HJ
          unfold Ins.value at HJ
          dsimp only at HJ
          clear hw hk
          rcases hr with hr | hr
          all_goals
            obtain rfl := Int.ofNat.inj hr
            go_enter Try.func26, Try.ntmps26
            go_wp2_with fail
            refine (HK.out _).mono ?_
            rintro e w1 ⟨rfl, rfl⟩
            go_wp2_with fail
            refine (HR.out _).mono ?_
            rintro e w1 ⟨rfl, hb1⟩
            have HB1 := Lib.hid ((hb1.block _ (lt_of_block HB.out)).trans HB.out)
            have q0 := below_cell hb1 HB.out 0 rfl
            have q1 := below_cell hb1 HB.out 1 rfl
            have q2 := below_cell hb1 HB.out 2 rfl
            have q3 := below_cell hb1 HB.out 3 rfl
            have HW1 := Lib.hid (HAL.out.trans (hb1.mono HAL.out.size))
            clear hb1
            go_wp2_with fail
            refine (HJ.out _).mono ?_
            rintro e w2 ⟨rfl, hb2⟩
            have HW2 := Lib.hid (HW1.out.trans (hb2.mono HW1.out.size))
            clear hb2
            go_wp2_with fail
            go_ret
            exact ⟨rfl, HW2.out⟩
        · rw [decide_eq_false hr] at HR
          rw [wB_last hb0 hr ht (by omega)]
          clear hr hk
          go_enter Try.func26, Try.ntmps26
          go_wp2_with fail
          refine (HK.out _).mono ?_
          rintro e w1 ⟨rfl, rfl⟩
          go_wp2_with fail
          refine (HR.out _).mono ?_
          rintro e w1 ⟨rfl, hb1⟩
          have HW1 := Lib.hid (HAL.out.trans (hb1.mono HAL.out.size))
          clear hb1
          go_wp2_with fail
          go_ret
          exact ⟨rfl, HW1.out⟩
      · have hpn : p + 1 < n := by omega
        have hle : ((p : Int) == (n : Int) - 1) = false := by rw [beq_eq_false_iff_ne]; omega
        have hpnI : (p : Int) + 1 < n := by omega
        clear hlast
        by_cases c32 : c = 32
        · subst c32
          have hw : wB ⟨32, jt, jf, k⟩ p n = (decide (k % 4 = 0) && decide (k < 64)) := wB_next hk ht (by dsimp only; omega) (by dsimp only; omega) (by dsimp only; omega) hpn
          by_cases k4 : k % 4 = 0
          · have k4b : (k % 4 == 0) = true := by rw [beq_iff_eq]; exact k4
            rw [decide_eq_true k4, Bool.true_and] at hw
            by_cases kk : k ≤ 60
            · rw [hw, decide_eq_true (by omega)]
              clear hw k4
              go_enter Try.func26, Try.ntmps26
              go_wp2_with fail
              refine (HK.out _).mono ?_
              rintro e w1 ⟨rfl, rfl⟩
              go_wp2_with fail
              go_ret
              exact ⟨rfl, HAL.out⟩
            · rw [hw, decide_eq_false (by omega)]
              clear hw k4
              go_enter Try.func26, Try.ntmps26
              go_wp2_with fail
              refine (HK.out _).mono ?_
              rintro e w1 ⟨rfl, rfl⟩
              go_wp2_with fail
              go_ret
              exact ⟨congrArg (fun b => Ending.returned (.bool b)) (decide_eq_false (by omega)), HAL.out⟩
          · have k4b : (k % 4 == 0) = false := by rw [beq_eq_false_iff_ne]; exact k4
            rw [hw, decide_eq_false k4, Bool.false_and]
            clear hw k4
            go_enter Try.func26, Try.ntmps26
            go_wp2_with fail
            refine (HK.out _).mono ?_
            rintro e w1 ⟨rfl, rfl⟩
            go_wp2_with fail
            go_ret
            exact ⟨rfl, HAL.out⟩
        by_cases c96 : c = 96
        · subst c96
          have hw : wB ⟨96, jt, jf, k⟩ p n = decide (k < 16) := wB_next hk ht (by dsimp only; omega) (by dsimp only; omega) (by dsimp only; omega) hpn
          by_cases kk : k ≤ 15
          · rw [hw, decide_eq_true (by omega)]
            clear hw
            go_enter Try.func26, Try.ntmps26
            go_wp2_with fail
            refine (HK.out _).mono ?_
            rintro e w1 ⟨rfl, rfl⟩
            go_wp2_with fail
            go_ret
            exact ⟨rfl, HAL.out⟩
          · rw [hw, decide_eq_false (by omega)]
            clear hw
            go_enter Try.func26, Try.ntmps26
            go_wp2_with fail
            refine (HK.out _).mono ?_
            rintro e w1 ⟨rfl, rfl⟩
            go_wp2_with fail
            go_ret
            exact ⟨congrArg (fun b => Ending.returned (.bool b)) (decide_eq_false (by omega)), HAL.out⟩
        by_cases c97 : c = 97
        · subst c97
          have hw : wB ⟨97, jt, jf, k⟩ p n = decide (k < 16) := wB_next hk ht (by dsimp only; omega) (by dsimp only; omega) (by dsimp only; omega) hpn
          by_cases kk : k ≤ 15
          · rw [hw, decide_eq_true (by omega)]
            clear hw
            go_enter Try.func26, Try.ntmps26
            go_wp2_with fail
            refine (HK.out _).mono ?_
            rintro e w1 ⟨rfl, rfl⟩
            go_wp2_with fail
            go_ret
            exact ⟨rfl, HAL.out⟩
          · rw [hw, decide_eq_false (by omega)]
            clear hw
            go_enter Try.func26, Try.ntmps26
            go_wp2_with fail
            refine (HK.out _).mono ?_
            rintro e w1 ⟨rfl, rfl⟩
            go_wp2_with fail
            go_ret
            exact ⟨congrArg (fun b => Ending.returned (.bool b)) (decide_eq_false (by omega)), HAL.out⟩
        by_cases c2 : c = 2
        · subst c2
          have hw : wB ⟨2, jt, jf, k⟩ p n = decide (k < 16) := wB_next hk ht (by dsimp only; omega) (by dsimp only; omega) (by dsimp only; omega) hpn
          by_cases kk : k ≤ 15
          · rw [hw, decide_eq_true (by omega)]
            clear hw
            go_enter Try.func26, Try.ntmps26
            go_wp2_with fail
            refine (HK.out _).mono ?_
            rintro e w1 ⟨rfl, rfl⟩
            go_wp2_with fail
            go_ret
            exact ⟨rfl, HAL.out⟩
          · rw [hw, decide_eq_false (by omega)]
            clear hw
            go_enter Try.func26, Try.ntmps26
            go_wp2_with fail
            refine (HK.out _).mono ?_
            rintro e w1 ⟨rfl, rfl⟩
            go_wp2_with fail
            go_ret
            exact ⟨congrArg (fun b => Ending.returned (.bool b)) (decide_eq_false (by omega)), HAL.out⟩
        by_cases c3 : c = 3
        · subst c3
          have hw : wB ⟨3, jt, jf, k⟩ p n = decide (k < 16) := wB_next hk ht (by dsimp only; omega) (by dsimp only; omega) (by dsimp only; omega) hpn
          by_cases kk : k ≤ 15
          · rw [hw, decide_eq_true (by omega)]
            clear hw
            go_enter Try.func26, Try.ntmps26
            go_wp2_with fail
            refine (HK.out _).mono ?_
            rintro e w1 ⟨rfl, rfl⟩
            go_wp2_with fail
            go_ret
            exact ⟨rfl, HAL.out⟩
          · rw [hw, decide_eq_false (by omega)]
            clear hw
            go_enter Try.func26, Try.ntmps26
            go_wp2_with fail
            refine (HK.out _).mono ?_
            rintro e w1 ⟨rfl, rfl⟩
            go_wp2_with fail
            go_ret
            exact ⟨congrArg (fun b => Ending.returned (.bool b)) (decide_eq_false (by omega)), HAL.out⟩
        by_cases c52 : c = 52
        · subst c52
          have hw : wB ⟨52, jt, jf, k⟩ p n = decide (k ≠ 0) := wB_next hk ht (by dsimp only; omega) (by dsimp only; omega) (by dsimp only; omega) hpn
          by_cases kk : 0 < k
          · rw [hw, decide_eq_true (by omega)]
            clear hw
            go_enter Try.func26, Try.ntmps26
            go_wp2_with fail
            refine (HK.out _).mono ?_
            rintro e w1 ⟨rfl, rfl⟩
            go_wp2_with fail
            go_ret
            exact ⟨rfl, HAL.out⟩
          · rw [hw, decide_eq_false (by omega)]
            clear hw
            go_enter Try.func26, Try.ntmps26
            go_wp2_with fail
            refine (HK.out _).mono ?_
            rintro e w1 ⟨rfl, rfl⟩
            go_wp2_with fail
            go_ret
            exact ⟨congrArg (fun b => Ending.returned (.bool b)) (decide_eq_false (by omega)), HAL.out⟩
        by_cases c100 : c = 100
        · subst c100
          have hw : wB ⟨100, jt, jf, k⟩ p n = decide (k < 32) := wB_next hk ht (by dsimp only; omega) (by dsimp only; omega) (by dsimp only; omega) hpn
          by_cases kk : k ≤ 31
          · rw [hw, decide_eq_true (by omega)]
            clear hw
            go_enter Try.func26, Try.ntmps26
            go_wp2_with fail
            refine (HK.out _).mono ?_
            rintro e w1 ⟨rfl, rfl⟩
            go_wp2_with fail
            go_ret
            exact ⟨rfl, HAL.out⟩
          · rw [hw, decide_eq_false (by omega)]
            clear hw
            go_enter Try.func26, Try.ntmps26
            go_wp2_with fail
            refine (HK.out _).mono ?_
            rintro e w1 ⟨rfl, rfl⟩
            go_wp2_with fail
            go_ret
            exact ⟨congrArg (fun b => Ending.returned (.bool b)) (decide_eq_false (by omega)), HAL.out⟩
        by_cases c116 : c = 116
        · subst c116
          have hw : wB ⟨116, jt, jf, k⟩ p n = decide (k < 32) := wB_next hk ht (by dsimp only; omega) (by dsimp only; omega) (by dsimp only; omega) hpn
          by_cases kk : k ≤ 31
          · rw [hw, decide_eq_true (by omega)]
            clear hw
            go_enter Try.func26, Try.ntmps26
            go_wp2_with fail
            refine (HK.out _).mono ?_
            rintro e w1 ⟨rfl, rfl⟩
            go_wp2_with fail
            go_ret
            exact ⟨rfl, HAL.out⟩
          · rw [hw, decide_eq_false (by omega)]
            clear hw
            go_enter Try.func26, Try.ntmps26
            go_wp2_with fail
            refine (HK.out _).mono ?_
            rintro e w1 ⟨rfl, rfl⟩
            go_wp2_with fail
            go_ret
            exact ⟨congrArg (fun b => Ending.returned (.bool b)) (decide_eq_false (by omega)), HAL.out⟩
        by_cases c5 : c = 5
        · subst c5
          have hw : wB ⟨5, jt, jf, k⟩ p n = decide ((p : Int) + 1 + k < n) := by
            rw [wB_of hk ht, folL_ja _ _ rfl, fitsK_else _ (by dsimp only; omega)]; simp
          by_cases kk : (p : Int) + 1 + k < n
          · rw [hw, decide_eq_true kk]
            clear hw
            go_enter Try.func26, Try.ntmps26
            go_wp2_with fail
            refine (HK.out _).mono ?_
            rintro e w1 ⟨rfl, rfl⟩
            go_wp2_with fail
            go_ret
            exact ⟨rfl, HAL.out⟩
          · rw [hw, decide_eq_false kk]
            clear hw
            go_enter Try.func26, Try.ntmps26
            go_wp2_with fail
            refine (HK.out _).mono ?_
            rintro e w1 ⟨rfl, rfl⟩
            go_wp2_with fail
            go_ret
            exact ⟨congrArg (fun b => Ending.returned (.bool b)) (decide_eq_false (by omega)), HAL.out⟩
        have n32 : (c == 32) = false := by rw [beq_eq_false_iff_ne]; exact c32
        have n96 : (c == 96) = false := by rw [beq_eq_false_iff_ne]; exact c96
        have n97 : (c == 97) = false := by rw [beq_eq_false_iff_ne]; exact c97
        have n2 : (c == 2) = false := by rw [beq_eq_false_iff_ne]; exact c2
        have n3 : (c == 3) = false := by rw [beq_eq_false_iff_ne]; exact c3
        have n52 : (c == 52) = false := by rw [beq_eq_false_iff_ne]; exact c52
        have n100 : (c == 100) = false := by rw [beq_eq_false_iff_ne]; exact c100
        have n116 : (c == 116) = false := by rw [beq_eq_false_iff_ne]; exact c116
        have n5 : (c == 5) = false := by rw [beq_eq_false_iff_ne]; exact c5
        have hfk : fitsK ⟨c, jt, jf, k⟩ = true := fitsK_else _ ⟨c32, c96, c97, c2, c3, c52, c100, c116⟩
        obtain ⟨cn, rfl, hcn⟩ := chk_code c hk
        have HJ := Lib.hid (fun u => ck_jump cn jt jf k u (known_le cn hcn))
        unfold Ins.value at HJ
        dsimp only at HJ
        by_cases hj : (cn : Int) % 8 = 5
        · have hw : wB ⟨(cn : Int), jt, jf, k⟩ p n = (decide ((p : Int) + 1 + jt < n) && decide ((p : Int) + 1 + jf < n)) := by
            rw [wB_of hk ht, hfk, folL_jump _ _ (by dsimp only; omega) c5 hj]; simp
          rw [decide_eq_true ⟨hj, c5⟩] at HJ
          rw [hw]
          clear hw hfk hk hj c32 c96 c97 c2 c3 c52 c100 c116 c5
          by_cases g1 : (p : Int) + 1 + jt < n
          · by_cases g2 : (p : Int) + 1 + jf < n
            · rw [decide_eq_true g1, decide_eq_true g2]
              go_enter Try.func26, Try.ntmps26
              go_wp2_with fail
              refine (HK.out _).mono ?_
              rintro e w1 ⟨rfl, rfl⟩
              go_wp2_with fail
              refine (HJ.out _).mono ?_
              rintro e w1 ⟨rfl, hb1⟩
              have q0 := below_cell hb1 HB.out 0 rfl
              have q1 := below_cell hb1 HB.out 1 rfl
              have q2 := below_cell hb1 HB.out 2 rfl
              have q3 := below_cell hb1 HB.out 3 rfl
              have HW1 := Lib.hid (HAL.out.trans (hb1.mono HAL.out.size))
              clear hb1
              go_wp2_with fail
              go_ret
              exact ⟨rfl, HW1.out⟩
            · rw [decide_eq_true g1, decide_eq_false g2]
              go_enter Try.func26, Try.ntmps26
              go_wp2_with fail
              refine (HK.out _).mono ?_
              rintro e w1 ⟨rfl, rfl⟩
              go_wp2_with fail
              refine (HJ.out _).mono ?_
              rintro e w1 ⟨rfl, hb1⟩
              have q0 := below_cell hb1 HB.out 0 rfl
              have q1 := below_cell hb1 HB.out 1 rfl
              have q2 := below_cell hb1 HB.out 2 rfl
              have q3 := below_cell hb1 HB.out 3 rfl
              have HW1 := Lib.hid (HAL.out.trans (hb1.mono HAL.out.size))
              clear hb1
              go_wp2_with fail
              go_ret
              exact ⟨congrArg (fun b => Ending.returned (.bool b)) (decide_eq_false (by omega)), HW1.out⟩
          · rw [decide_eq_false g1]
            clear hpnI
            go_enter Try.func26, Try.ntmps26
            go_wp2_with fail
            refine (HK.out _).mono ?_
            rintro e w1 ⟨rfl, rfl⟩
            go_wp2_with fail
            refine (HJ.out _).mono ?_
            rintro e w1 ⟨rfl, hb1⟩
            have q0 := below_cell hb1 HB.out 0 rfl
            have q1 := below_cell hb1 HB.out 1 rfl
            have q2 := below_cell hb1 HB.out 2 rfl
            have q3 := below_cell hb1 HB.out 3 rfl
            have HW1 := Lib.hid (HAL.out.trans (hb1.mono HAL.out.size))
            clear hb1
            go_wp2_with fail
            go_ret
            exact ⟨rfl, HW1.out⟩
        · have hw : wB ⟨(cn : Int), jt, jf, k⟩ p n = true := by
            by_cases hr : (cn : Int) = 6 ∨ (cn : Int) = 22
            · rw [wB_of hk ht, hfk, folL_ret _ _ hr]; rfl
            · rw [wB_next hk ht hr c5 hj hpn, hfk]
          rw [decide_eq_false (fun h => hj h.1)] at HJ
          rw [hw]
          clear hw hfk hk hj c32 c96 c97 c2 c3 c52 c100 c116 c5
          go_enter Try.func26, Try.ntmps26
          go_wp2_with fail
          refine (HK.out _).mono ?_
          rintro e w1 ⟨rfl, rfl⟩
          go_wp2_with fail
          refine (HJ.out _).mono ?_
          rintro e w1 ⟨rfl, hb1⟩
          have q0 := below_cell hb1 HB.out 0 rfl
          have q1 := below_cell hb1 HB.out 1 rfl
          have q2 := below_cell hb1 HB.out 2 rfl
          have q3 := below_cell hb1 HB.out 3 rfl
          have HW1 := Lib.hid (HAL.out.trans (hb1.mono HAL.out.size))
          clear hb1
          go_wp2_with fail
          go_ret
          exact ⟨rfl, HW1.out⟩
    · have hw : wB ⟨c, jt, jf, k⟩ p n = false := by unfold wB fitsB; dsimp only; rw [decide_eq_false ht]; simp
      rw [hw]
      clear hw hk
      by_cases h1 : jt < 0
      · clear ht
        go_enter Try.func26, Try.ntmps26
        go_wp2_with fail
        refine (HK.out _).mono ?_
        rintro e w1 ⟨rfl, rfl⟩
        go_wp2_with fail
        go_ret
        exact ⟨rfl, HAL.out⟩
      · by_cases h2 : 255 < jt
        · clear ht
          go_enter Try.func26, Try.ntmps26
          go_wp2_with fail
          refine (HK.out _).mono ?_
          rintro e w1 ⟨rfl, rfl⟩
          go_wp2_with fail
          go_ret
          exact ⟨rfl, HAL.out⟩
        · by_cases h3 : jf < 0
          · clear ht
            go_enter Try.func26, Try.ntmps26
            go_wp2_with fail
            refine (HK.out _).mono ?_
            rintro e w1 ⟨rfl, rfl⟩
            go_wp2_with fail
            go_ret
            exact ⟨rfl, HAL.out⟩
          · have h4 : 255 < jf := by omega
            clear ht
            go_enter Try.func26, Try.ntmps26
            go_wp2_with fail
            refine (HK.out _).mono ?_
            rintro e w1 ⟨rfl, rfl⟩
            go_wp2_with fail
            go_ret
            exact ⟨rfl, HAL.out⟩
/-- the first instruction that is not well -/
def fstV (o : Option Nat) : Value := match o with
  | none => .tuple #[.int .i64 0, .bool false]
  | some k => .tuple #[.int .i64 (k : Int), .bool true]
set_option maxRecDepth 100000 in
set_option maxHeartbeats 1000000 in
theorem ck_first (l : List Ins) (v : Value) (w : World) (hl : IsInsns w v l) (hN : l.length ≤ 5000) :
    Calls Try.prog 18 #[v] w fun e w' => e = .returned (fstV (firstBad (wellB l) l.length)) ∧ Below w.heap.size w w' := by
  obtain ⟨a, len, cap, rfl, hlen, hcap, hcm, hbd, hat2⟩ := hl
  rw [hlen]
  have hlI : (len : Int) ≤ 5000 := by omega
  obtain ⟨R, hR⟩ : ∃ R, fstV (firstBad (wellB l) len) = R := ⟨_, rfl⟩
  rw [hR]
  have HR := Lib.hid hR; have HAT := Lib.hid hat2; have HBD := Lib.hid hbd; have HLEN := Lib.hid hlen
  clear hR hat2 hbd
  go_enter Try.func18, Try.ntmps18
  go_wp2_with fail
  go_loopw [8] (fun z wr => ∃ j : Nat, z = .int .i64 j ∧ j ≤ len ∧ Hid (∀ k, k < j → wellB l k = true) ∧ Hid (Below w.heap.size w wr)) (fun z _ => len - (intOf z).toNat)
  case atStart => exact ⟨0, rfl, by omega, Lib.hid (fun k h => by omega), Lib.hid (Below.refl _ _)⟩
  case round =>
    obtain ⟨j, rfl, hj, HALL, HWR⟩ := hrel
    by_cases hlt : j < len
    · obtain ⟨b, off, rfl, hb, hat⟩ := HAT.out.resolve_left (by omega)
      obtain ⟨c0, c1, c2, c3⟩ := (hat j hlt).below HWR.out hb
      have hbi : (l.getD j insZ).bounded := by
        have := HLEN.out
        rw [List.getD_eq_getElem?_getD, List.getElem?_eq_getElem (by omega)]
        exact HBD.out _ (List.getElem_mem _)
      have hwe := fun u => ck_well (l.getD j insZ) j len u hbi hlt (by omega)
      have hwb : wB (l.getD j insZ) j len = wellB l j := by rw [← HLEN.out]; rfl
      rw [hwb] at hwe
      generalize l.getD j insZ = i at *
      obtain ⟨c, jt, jf, k⟩ := i
      unfold Ins.value at hwe
      dsimp only at hwe c0 c1 c2 c3
      generalize hF : wellB l j = F at *
      have HF := Lib.hid hF; have HWE := Lib.hid hwe
      have hjI : (j : Int) < len := by omega
      clear hF hwe hwb hbi hat
      go_wp2_with fail
      refine (HWE.out _).mono ?_
      rintro e w2 ⟨rfl, hb2⟩
      have HW2 := Lib.hid ((HWR.out.alloc HWR.out.size (.cells #[.int .i64 c, .int .i64 jt, .int .i64 jf, .int .u32 k] 38)).trans (hb2.mono (by have := HWR.out.size; rw [World.size_alloc]; omega)))
      clear hb2 c0 c1 c2 c3
      cases F with
      | true =>
        have hall2 : ∀ k, k < j + 1 → wellB l k = true := fun k hk => by
          by_cases e : k = j
          · rw [e]; exact HF.out
          · exact HALL.out k (by omega)
        have HA2 := Lib.hid hall2
        clear hall2
        go_wp2_with fail
        go_round
        case rel => exact ⟨j + 1, by go_num, by omega, HA2, HW2⟩
        case measure => simp [intOf]; omega
      | false =>
        have hfb : firstBad (wellB l) len = some j := firstBad_some hlt HF.out HALL.out
        have hres : R = .tuple #[.int .i64 (j : Int), .bool true] := by rw [← HR.out, hfb]; rfl
        have HRES := Lib.hid hres
        clear hres hfb
        go_wp2_with fail
        go_ret2
        exact ⟨by rw [HRES.out]; rfl, HW2.out⟩
    · obtain rfl : j = len := by omega
      have hfb : firstBad (wellB l) j = none := firstBad_none HALL.out
      have hres : R = .tuple #[.int .i64 0, .bool false] := by rw [← HR.out, hfb]; rfl
      have HRES := Lib.hid hres
      have hnl : ¬ (j : Int) < j := by omega
      clear hres hfb
      go_wp2_with fail
      go_ret2
      exact ⟨by rw [HRES.out]; rfl, HWR.out⟩
end Go.Proofs.Ytpdfahlglalebaa
