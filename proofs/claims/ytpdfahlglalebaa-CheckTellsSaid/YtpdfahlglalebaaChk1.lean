/- Which instructions are well: the parts of layer 12, one by one. -/
import Derived.Test.YtpdfahlglalebaaInsnRow
import Derived.Test.YtpdfahlglalebaaRow1
import Derived.Test.YtpdfahlglalebaaKnown
import Derived.Deep.RegionHeld3
namespace Go.Proofs.Ytpdfahlglalebaa
open Go.RowKit Go.ChangeShapes
set_option linter.unusedVariables false

theorem chk_code (c : Int) (h : insKnown c = true) : ∃ n : Nat, c = n ∧ n ∈ codeList := by
  unfold insKnown at h
  simp only [Bool.and_eq_true, decide_eq_true_eq, List.contains_iff_mem] at h
  exact ⟨c.toNat, by omega, h.2⟩
theorem known_le : ∀ c ∈ codeList, c ≤ 255 := by decide
/-- the places that may come behind an instruction -/
def folL (at' : Nat) (i : Ins) : List Int :=
  if i.code = 6 ∨ i.code = 22 then [] else if i.code = 5 then [at' + 1 + i.k] else if i.code % 8 = 5 then [at' + 1 + i.jt, at' + 1 + i.jf] else [(at' : Int) + 1]
theorem folL_ret (at' : Nat) (i : Ins) (h : i.code = 6 ∨ i.code = 22) : folL at' i = [] := if_pos h
theorem folL_ja (at' : Nat) (i : Ins) (h : i.code = 5) : folL at' i = [at' + 1 + i.k] := by unfold folL; rw [if_neg (by omega), if_pos h]
theorem folL_jump (at' : Nat) (i : Ins) (h : ¬ (i.code = 6 ∨ i.code = 22)) (h5 : i.code ≠ 5) (hj : i.code % 8 = 5) : folL at' i = [at' + 1 + i.jt, at' + 1 + i.jf] := by unfold folL; rw [if_neg h, if_neg h5, if_pos hj]
theorem folL_next (at' : Nat) (i : Ins) (h : ¬ (i.code = 6 ∨ i.code = 22)) (h5 : i.code ≠ 5) (hj : i.code % 8 ≠ 5) : folL at' i = [(at' : Int) + 1] := by unfold folL; rw [if_neg h, if_neg h5, if_neg hj]
def fitsK (i : Ins) : Bool :=
  if i.code = 32 then decide (i.k % 4 = 0) && decide (i.k < 64)
  else if i.code = 96 ∨ i.code = 97 ∨ i.code = 2 ∨ i.code = 3 then decide (i.k < 16)
  else if i.code = 52 then decide (i.k ≠ 0)
  else if i.code = 100 ∨ i.code = 116 then decide (i.k < 32)
  else true
def fitsB (i : Ins) : Bool := insKnown i.code && decide (0 ≤ i.jt ∧ i.jt ≤ 255 ∧ 0 ≤ i.jf ∧ i.jf ≤ 255) && fitsK i
theorem and7 : ∀ c ∈ codeList, bits BinOp.and IntKind.i64 (c : Int) 7 = ((c % 8 : Nat) : Int) := by decide +kernel
def intV (x : Int) : Value := .int .i64 x
set_option maxRecDepth 100000 in
theorem chkFollowers_any (at' : Nat) (i : Ins) (w : World) (hk : insKnown i.code = true) (hb : i.bounded) (hat : at' ≤ 5000) (ht : 0 ≤ i.jt ∧ i.jt ≤ 255 ∧ 0 ≤ i.jf ∧ i.jf ≤ 255) :
    Calls Try.prog 15 #[.int .i64 (at' : Int), i.value] w fun e w' => (∃ v, e = .returned v ∧ Reads1 intV w' v (folL at' i)) ∧ Below w.heap.size w w' := by
  obtain ⟨c, jt, jf, k⟩ := i
  obtain ⟨cn, rfl, hcn⟩ := chk_code c hk
  obtain ⟨_, _, _, bk, bk1⟩ := hb
  obtain ⟨h1, h2, h3, h4⟩ := ht
  dsimp only at h1 h2 h3 h4 bk bk1
  have hatI : (at' : Int) ≤ 5000 := by omega
  unfold Ins.value
  dsimp only
  have h7 := and7 cn hcn
  have hc8 := known_le cn hcn
  have hI : ∀ (u : World) (l : List Int) (n : Nat), l.length = n → n ≤ 2 → Below w.heap.size w u → Reads1 intV (u.alloc (.cells (l.map intV).toArray 3)) (.slice (some ⟨u.heap.size, 0, none⟩) n n) l := by
    intro u l n hl hn hu
    subst hl
    exact block_reads1 (heap_alloc_new u _) (by omega)
  by_cases hr : (cn : Int) = 6 ∨ (cn : Int) = 22
  · rw [folL_ret _ _ hr]
    rcases hr with hr | hr
    all_goals
      obtain rfl := Int.ofNat.inj hr
      go_enter Try.func15, Try.ntmps15
      go_wp2_with fail
      go_ret
      exact ⟨⟨_, rfl, none, 0, 0, rfl, rfl, by omega, by omega, .inl rfl⟩, (Below.refl _ _).alloc (Nat.le_refl _) _⟩
  · have n6 : ((cn : Int) == 6) = false := by rw [beq_eq_false_iff_ne]; omega
    have n22 : ((cn : Int) == 22) = false := by rw [beq_eq_false_iff_ne]; omega
    by_cases h5 : (cn : Int) = 5
    · rw [folL_ja _ _ h5]
      obtain rfl := Int.ofNat.inj h5
      have hA := hI (w.alloc (.cells #[.int .i64 5, .int .i64 jt, .int .i64 jf, .int .u32 k] 38)) [(at' : Int) + 1 + k] 1 rfl (by omega) ((Below.refl _ _).alloc (Nat.le_refl _) _)
      rw [World.size_alloc] at hA
      have HA := Lib.hid hA
      clear hA hI h7
      go_enter Try.func15, Try.ntmps15
      go_wp2_with fail
      go_ret
      exact ⟨⟨_, rfl, HA.out⟩, ((Below.refl _ _).alloc (Nat.le_refl _) _).alloc (by simp) _⟩
    · have n5 : ((cn : Int) == 5) = false := by rw [beq_eq_false_iff_ne]; omega
      by_cases hj : (cn : Int) % 8 = 5
      · rw [folL_jump _ _ hr h5 hj]
        have h7b : (bits BinOp.and IntKind.i64 (cn : Int) 7 == 5) = true := by rw [h7, beq_iff_eq]; omega
        have hA := hI (w.alloc (.cells #[.int .i64 cn, .int .i64 jt, .int .i64 jf, .int .u32 k] 38)) [(at' : Int) + 1 + jt, at' + 1 + jf] 2 rfl (by omega) ((Below.refl _ _).alloc (Nat.le_refl _) _)
        rw [World.size_alloc] at hA
        have HA := Lib.hid hA
        clear hA hI h7 hr h5 hj
        go_enter Try.func15, Try.ntmps15
        go_wp2_with fail
        go_ret
        exact ⟨⟨_, rfl, HA.out⟩, ((Below.refl _ _).alloc (Nat.le_refl _) _).alloc (by simp) _⟩
      · rw [folL_next _ _ hr h5 hj]
        have h7b : (bits BinOp.and IntKind.i64 (cn : Int) 7 == 5) = false := by rw [h7, beq_eq_false_iff_ne]; omega
        have hA := hI (w.alloc (.cells #[.int .i64 cn, .int .i64 jt, .int .i64 jf, .int .u32 k] 38)) [(at' : Int) + 1] 1 rfl (by omega) ((Below.refl _ _).alloc (Nat.le_refl _) _)
        rw [World.size_alloc] at hA
        have HA := Lib.hid hA
        clear hA hI h7 hr h5 hj
        go_enter Try.func15, Try.ntmps15
        go_wp2_with fail
        go_ret
        exact ⟨⟨_, rfl, HA.out⟩, ((Below.refl _ _).alloc (Nat.le_refl _) _).alloc (by simp) _⟩
theorem fitsK_else (i : Ins) (h : i.code ≠ 32 ∧ i.code ≠ 96 ∧ i.code ≠ 97 ∧ i.code ≠ 2 ∧ i.code ≠ 3 ∧ i.code ≠ 52 ∧ i.code ≠ 100 ∧ i.code ≠ 116) : fitsK i = true := by
  unfold fitsK; rw [if_neg h.1, if_neg (by omega), if_neg (by omega), if_neg (by omega)]
set_option maxRecDepth 100000 in
set_option maxHeartbeats 2000000 in
theorem chkFits_any (i : Ins) (w : World) (hb : i.bounded) :
    Calls Try.prog 22 #[i.value] w fun e w' => e = .returned (.bool (fitsB i)) ∧ Below w.heap.size w w' := by
  obtain ⟨c, jt, jf, k⟩ := i
  obtain ⟨_, _, _, bk, bk1⟩ := hb
  dsimp only at bk bk1
  unfold Ins.value
  dsimp only
  have hk0 := fun u => insnKnown_any c u
  have ht0 : fitsB ⟨c, jt, jf, k⟩ = (insKnown c && decide (0 ≤ jt ∧ jt ≤ 255 ∧ 0 ≤ jf ∧ jf ≤ 255) && fitsK ⟨c, jt, jf, k⟩) := rfl
  generalize hb0 : insKnown c = b0 at *
  have HK := Lib.hid hk0
  clear hk0 hb0
  cases b0 with
  | false =>
    rw [show fitsB ⟨c, jt, jf, k⟩ = false from ht0]
    clear ht0
    go_enter Try.func22, Try.ntmps22
    go_wp2_with fail
    refine (HK.out _).mono ?_
    rintro e w1 ⟨rfl, hb1⟩
    have hw1 := ((Below.refl _ w).alloc (Nat.le_refl _) _).trans (hb1.mono (by simp))
    have q0 := below_cell hb1 (heap_alloc_new w _) 0 rfl
    have q1 := below_cell hb1 (heap_alloc_new w _) 1 rfl
    have q2 := below_cell hb1 (heap_alloc_new w _) 2 rfl
    have q3 := below_cell hb1 (heap_alloc_new w _) 3 rfl
    have HW := Lib.hid hw1
    clear hw1 hb1
    go_wp2_with fail
    go_ret
    exact ⟨rfl, HW.out⟩
  | true =>
    by_cases ht : 0 ≤ jt ∧ jt ≤ 255 ∧ 0 ≤ jf ∧ jf ≤ 255
    · rw [decide_eq_true ht, Bool.true_and, Bool.true_and] at ht0
      obtain ⟨h1, h2, h3, h4⟩ := ht
      rw [ht0]
      clear ht0
      by_cases c32 : c = 32
      · subst c32
        rw [show fitsK ⟨32, jt, jf, k⟩ = (decide (k % 4 = 0) && decide (k < 64)) from rfl]
        by_cases k4 : k % 4 = 0
        · rw [decide_eq_true k4, Bool.true_and]
          have k4b : (k % 4 == 0) = true := by rw [beq_iff_eq]; exact k4
          clear k4
          go_enter Try.func22, Try.ntmps22
          go_wp2_with fail
          refine (HK.out _).mono ?_
          rintro e w1 ⟨rfl, hb1⟩
          have hw1 := ((Below.refl _ w).alloc (Nat.le_refl _) _).trans (hb1.mono (by simp))
          have q0 := below_cell hb1 (heap_alloc_new w _) 0 rfl
          have q1 := below_cell hb1 (heap_alloc_new w _) 1 rfl
          have q2 := below_cell hb1 (heap_alloc_new w _) 2 rfl
          have q3 := below_cell hb1 (heap_alloc_new w _) 3 rfl
          have HW := Lib.hid hw1
          clear hw1 hb1
          go_wp2_with fail
          go_ret
          exact ⟨rfl, HW.out⟩
        · rw [decide_eq_false k4, Bool.false_and]
          have k4b : (k % 4 == 0) = false := by rw [beq_eq_false_iff_ne]; exact k4
          clear k4
          go_enter Try.func22, Try.ntmps22
          go_wp2_with fail
          refine (HK.out _).mono ?_
          rintro e w1 ⟨rfl, hb1⟩
          have hw1 := ((Below.refl _ w).alloc (Nat.le_refl _) _).trans (hb1.mono (by simp))
          have q0 := below_cell hb1 (heap_alloc_new w _) 0 rfl
          have q1 := below_cell hb1 (heap_alloc_new w _) 1 rfl
          have q2 := below_cell hb1 (heap_alloc_new w _) 2 rfl
          have q3 := below_cell hb1 (heap_alloc_new w _) 3 rfl
          have HW := Lib.hid hw1
          clear hw1 hb1
          go_wp2_with fail
          go_ret
          exact ⟨rfl, HW.out⟩
      by_cases c96 : c = 96
      · subst c96
        rw [show fitsK ⟨96, jt, jf, k⟩ = (decide (k < 16)) from rfl]
        go_enter Try.func22, Try.ntmps22
        go_wp2_with fail
        refine (HK.out _).mono ?_
        rintro e w1 ⟨rfl, hb1⟩
        have hw1 := ((Below.refl _ w).alloc (Nat.le_refl _) _).trans (hb1.mono (by simp))
        have q0 := below_cell hb1 (heap_alloc_new w _) 0 rfl
        have q1 := below_cell hb1 (heap_alloc_new w _) 1 rfl
        have q2 := below_cell hb1 (heap_alloc_new w _) 2 rfl
        have q3 := below_cell hb1 (heap_alloc_new w _) 3 rfl
        have HW := Lib.hid hw1
        clear hw1 hb1
        go_wp2_with fail
        go_ret
        exact ⟨rfl, HW.out⟩
      by_cases c97 : c = 97
      · subst c97
        rw [show fitsK ⟨97, jt, jf, k⟩ = (decide (k < 16)) from rfl]
        go_enter Try.func22, Try.ntmps22
        go_wp2_with fail
        refine (HK.out _).mono ?_
        rintro e w1 ⟨rfl, hb1⟩
        have hw1 := ((Below.refl _ w).alloc (Nat.le_refl _) _).trans (hb1.mono (by simp))
        have q0 := below_cell hb1 (heap_alloc_new w _) 0 rfl
        have q1 := below_cell hb1 (heap_alloc_new w _) 1 rfl
        have q2 := below_cell hb1 (heap_alloc_new w _) 2 rfl
        have q3 := below_cell hb1 (heap_alloc_new w _) 3 rfl
        have HW := Lib.hid hw1
        clear hw1 hb1
        go_wp2_with fail
        go_ret
        exact ⟨rfl, HW.out⟩
      by_cases c2 : c = 2
      · subst c2
        rw [show fitsK ⟨2, jt, jf, k⟩ = (decide (k < 16)) from rfl]
        go_enter Try.func22, Try.ntmps22
        go_wp2_with fail
        refine (HK.out _).mono ?_
        rintro e w1 ⟨rfl, hb1⟩
        have hw1 := ((Below.refl _ w).alloc (Nat.le_refl _) _).trans (hb1.mono (by simp))
        have q0 := below_cell hb1 (heap_alloc_new w _) 0 rfl
        have q1 := below_cell hb1 (heap_alloc_new w _) 1 rfl
        have q2 := below_cell hb1 (heap_alloc_new w _) 2 rfl
        have q3 := below_cell hb1 (heap_alloc_new w _) 3 rfl
        have HW := Lib.hid hw1
        clear hw1 hb1
        go_wp2_with fail
        go_ret
        exact ⟨rfl, HW.out⟩
      by_cases c3 : c = 3
      · subst c3
        rw [show fitsK ⟨3, jt, jf, k⟩ = (decide (k < 16)) from rfl]
        go_enter Try.func22, Try.ntmps22
        go_wp2_with fail
        refine (HK.out _).mono ?_
        rintro e w1 ⟨rfl, hb1⟩
        have hw1 := ((Below.refl _ w).alloc (Nat.le_refl _) _).trans (hb1.mono (by simp))
        have q0 := below_cell hb1 (heap_alloc_new w _) 0 rfl
        have q1 := below_cell hb1 (heap_alloc_new w _) 1 rfl
        have q2 := below_cell hb1 (heap_alloc_new w _) 2 rfl
        have q3 := below_cell hb1 (heap_alloc_new w _) 3 rfl
        have HW := Lib.hid hw1
        clear hw1 hb1
        go_wp2_with fail
        go_ret
        exact ⟨rfl, HW.out⟩
      by_cases c52 : c = 52
      · subst c52
        rw [show fitsK ⟨52, jt, jf, k⟩ = (decide (k ≠ 0)) from rfl]
        by_cases k4 : k = 0
        · subst k4
          go_enter Try.func22, Try.ntmps22
          go_wp2_with fail
          refine (HK.out _).mono ?_
          rintro e w1 ⟨rfl, hb1⟩
          have hw1 := ((Below.refl _ w).alloc (Nat.le_refl _) _).trans (hb1.mono (by simp))
          have q0 := below_cell hb1 (heap_alloc_new w _) 0 rfl
          have q1 := below_cell hb1 (heap_alloc_new w _) 1 rfl
          have q2 := below_cell hb1 (heap_alloc_new w _) 2 rfl
          have q3 := below_cell hb1 (heap_alloc_new w _) 3 rfl
          have HW := Lib.hid hw1
          clear hw1 hb1
          go_wp2_with fail
          go_ret
          exact ⟨rfl, HW.out⟩
        · rw [decide_eq_true k4]
          have k4b : (k != 0) = true := by rw [bne_iff_ne]; exact k4
          go_enter Try.func22, Try.ntmps22
          go_wp2_with fail
          refine (HK.out _).mono ?_
          rintro e w1 ⟨rfl, hb1⟩
          have hw1 := ((Below.refl _ w).alloc (Nat.le_refl _) _).trans (hb1.mono (by simp))
          have q0 := below_cell hb1 (heap_alloc_new w _) 0 rfl
          have q1 := below_cell hb1 (heap_alloc_new w _) 1 rfl
          have q2 := below_cell hb1 (heap_alloc_new w _) 2 rfl
          have q3 := below_cell hb1 (heap_alloc_new w _) 3 rfl
          have HW := Lib.hid hw1
          clear hw1 hb1
          go_wp2_with fail
          go_ret
          exact ⟨rfl, HW.out⟩
      by_cases c100 : c = 100
      · subst c100
        rw [show fitsK ⟨100, jt, jf, k⟩ = (decide (k < 32)) from rfl]
        go_enter Try.func22, Try.ntmps22
        go_wp2_with fail
        refine (HK.out _).mono ?_
        rintro e w1 ⟨rfl, hb1⟩
        have hw1 := ((Below.refl _ w).alloc (Nat.le_refl _) _).trans (hb1.mono (by simp))
        have q0 := below_cell hb1 (heap_alloc_new w _) 0 rfl
        have q1 := below_cell hb1 (heap_alloc_new w _) 1 rfl
        have q2 := below_cell hb1 (heap_alloc_new w _) 2 rfl
        have q3 := below_cell hb1 (heap_alloc_new w _) 3 rfl
        have HW := Lib.hid hw1
        clear hw1 hb1
        go_wp2_with fail
        go_ret
        exact ⟨rfl, HW.out⟩
      by_cases c116 : c = 116
      · subst c116
        rw [show fitsK ⟨116, jt, jf, k⟩ = (decide (k < 32)) from rfl]
        go_enter Try.func22, Try.ntmps22
        go_wp2_with fail
        refine (HK.out _).mono ?_
        rintro e w1 ⟨rfl, hb1⟩
        have hw1 := ((Below.refl _ w).alloc (Nat.le_refl _) _).trans (hb1.mono (by simp))
        have q0 := below_cell hb1 (heap_alloc_new w _) 0 rfl
        have q1 := below_cell hb1 (heap_alloc_new w _) 1 rfl
        have q2 := below_cell hb1 (heap_alloc_new w _) 2 rfl
        have q3 := below_cell hb1 (heap_alloc_new w _) 3 rfl
        have HW := Lib.hid hw1
        clear hw1 hb1
        go_wp2_with fail
        go_ret
        exact ⟨rfl, HW.out⟩
      rw [fitsK_else _ ⟨c32, c96, c97, c2, c3, c52, c100, c116⟩]
      have n32 : (c == 32) = false := by rw [beq_eq_false_iff_ne]; exact c32
      have n96 : (c == 96) = false := by rw [beq_eq_false_iff_ne]; exact c96
      have n97 : (c == 97) = false := by rw [beq_eq_false_iff_ne]; exact c97
      have n2 : (c == 2) = false := by rw [beq_eq_false_iff_ne]; exact c2
      have n3 : (c == 3) = false := by rw [beq_eq_false_iff_ne]; exact c3
      have n52 : (c == 52) = false := by rw [beq_eq_false_iff_ne]; exact c52
      have n100 : (c == 100) = false := by rw [beq_eq_false_iff_ne]; exact c100
      have n116 : (c == 116) = false := by rw [beq_eq_false_iff_ne]; exact c116
      clear c32 c96 c97 c2 c3 c52 c100 c116
      go_enter Try.func22, Try.ntmps22
      go_wp2_with fail
      refine (HK.out _).mono ?_
      rintro e w1 ⟨rfl, hb1⟩
      have hw1 := ((Below.refl _ w).alloc (Nat.le_refl _) _).trans (hb1.mono (by simp))
      have q0 := below_cell hb1 (heap_alloc_new w _) 0 rfl
      have q1 := below_cell hb1 (heap_alloc_new w _) 1 rfl
      have q2 := below_cell hb1 (heap_alloc_new w _) 2 rfl
      have q3 := below_cell hb1 (heap_alloc_new w _) 3 rfl
      have HW := Lib.hid hw1
      clear hw1 hb1
      go_wp2_with fail
      go_ret
      exact ⟨rfl, HW.out⟩
    · rw [decide_eq_false ht, Bool.and_false, Bool.false_and] at ht0
      rw [ht0]
      clear ht0
      by_cases h1 : jt < 0
      · clear ht
        go_enter Try.func22, Try.ntmps22
        go_wp2_with fail
        refine (HK.out _).mono ?_
        rintro e w1 ⟨rfl, hb1⟩
        have hw1 := ((Below.refl _ w).alloc (Nat.le_refl _) _).trans (hb1.mono (by simp))
        have q0 := below_cell hb1 (heap_alloc_new w _) 0 rfl
        have q1 := below_cell hb1 (heap_alloc_new w _) 1 rfl
        have q2 := below_cell hb1 (heap_alloc_new w _) 2 rfl
        have q3 := below_cell hb1 (heap_alloc_new w _) 3 rfl
        have HW := Lib.hid hw1
        clear hw1 hb1
        go_wp2_with fail
        go_ret
        exact ⟨rfl, HW.out⟩
      by_cases h2 : 255 < jt
      · clear ht
        go_enter Try.func22, Try.ntmps22
        go_wp2_with fail
        refine (HK.out _).mono ?_
        rintro e w1 ⟨rfl, hb1⟩
        have hw1 := ((Below.refl _ w).alloc (Nat.le_refl _) _).trans (hb1.mono (by simp))
        have q0 := below_cell hb1 (heap_alloc_new w _) 0 rfl
        have q1 := below_cell hb1 (heap_alloc_new w _) 1 rfl
        have q2 := below_cell hb1 (heap_alloc_new w _) 2 rfl
        have q3 := below_cell hb1 (heap_alloc_new w _) 3 rfl
        have HW := Lib.hid hw1
        clear hw1 hb1
        go_wp2_with fail
        go_ret
        exact ⟨rfl, HW.out⟩
      by_cases h3 : jf < 0
      · clear ht
        go_enter Try.func22, Try.ntmps22
        go_wp2_with fail
        refine (HK.out _).mono ?_
        rintro e w1 ⟨rfl, hb1⟩
        have hw1 := ((Below.refl _ w).alloc (Nat.le_refl _) _).trans (hb1.mono (by simp))
        have q0 := below_cell hb1 (heap_alloc_new w _) 0 rfl
        have q1 := below_cell hb1 (heap_alloc_new w _) 1 rfl
        have q2 := below_cell hb1 (heap_alloc_new w _) 2 rfl
        have q3 := below_cell hb1 (heap_alloc_new w _) 3 rfl
        have HW := Lib.hid hw1
        clear hw1 hb1
        go_wp2_with fail
        go_ret
        exact ⟨rfl, HW.out⟩
      have h4 : 255 < jf := by omega
      clear ht
      go_enter Try.func22, Try.ntmps22
      go_wp2_with fail
      refine (HK.out _).mono ?_
      rintro e w1 ⟨rfl, hb1⟩
      have hw1 := ((Below.refl _ w).alloc (Nat.le_refl _) _).trans (hb1.mono (by simp))
      have q0 := below_cell hb1 (heap_alloc_new w _) 0 rfl
      have q1 := below_cell hb1 (heap_alloc_new w _) 1 rfl
      have q2 := below_cell hb1 (heap_alloc_new w _) 2 rfl
      have q3 := below_cell hb1 (heap_alloc_new w _) 3 rfl
      have HW := Lib.hid hw1
      clear hw1 hb1
      go_wp2_with fail
      go_ret
      exact ⟨rfl, HW.out⟩
end Go.Proofs.Ytpdfahlglalebaa
