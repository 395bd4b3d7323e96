/- Which conditions may be: one alone, and all within it. -/
import Derived.Test.YtbcoooaoofbboaaCnd1
import Derived.Test.YtbcoooaoofbboaaRow1
namespace Go.Proofs.Ytbcoooaoofbboaa
open Go.RowKit Go.ChangeShapes
set_option linter.unusedVariables false

def bareV (arg : Int) (mask : Nat) (sign : ByteArray) (value : Nat) : Bool := decide (arg = 0) && decide (mask = 0) && decide (sign = ⟨#[]⟩) && decide (value = 0)
theorem bare_tests : (⟨#[]⟩ : ByteArray).toList = [] := by decide +kernel
set_option maxRecDepth 100000 in
theorem tyBare_any (kind : Int) (k : Value) (arg : Int) (mask : Nat) (sign : ByteArray) (value : Nat) (hv : ∃ a n c, k = .slice a n c) (w : World) : Calls Try.prog 46 #[.agg #[.int .i64 kind, k, .int .i64 arg, .int .u64 (mask : Nat), .string sign, .int .u64 (value : Nat)]] w fun e w' => e = .returned (.bool (bareV arg mask sign value)) ∧ Below w.heap.size w w' := by
  obtain ⟨ka, kn, kc, rfl⟩ := hv
  by_cases h1 : arg = 0
  · subst h1
    by_cases h2 : mask = 0
    · subst h2
      by_cases h3 : sign = ⟨#[]⟩
      · subst h3
        by_cases h4 : value = 0
        · subst h4
          go_enter Try.func46, Try.ntmps46
          go_wp2_with fail
          go_ret
          exact ⟨rfl, (Below.refl _ _).alloc (Nat.le_refl _) _⟩
        · have e : bareV 0 0 ⟨#[]⟩ value = false := by unfold bareV; simp [h4]
          have e4 : ((value : Int) == 0) = false := by rw [beq_eq_false_iff_ne]; omega
          have E := Lib.hid e
          clear e h4
          go_enter Try.func46, Try.ntmps46
          go_wp2_with fail
          go_ret
          exact ⟨by rw [E.out]; rfl, (Below.refl _ _).alloc (Nat.le_refl _) _⟩
      · have e : bareV 0 0 sign value = false := by unfold bareV; simp [h3]
        have e3 : (sign.toList == []) = false := by rw [← bare_tests]; exact ba_tne h3
        have E := Lib.hid e
        clear e h3
        go_enter Try.func46, Try.ntmps46
        go_wp2_with fail
        go_ret
        exact ⟨by rw [E.out]; rfl, (Below.refl _ _).alloc (Nat.le_refl _) _⟩
    · have e : bareV 0 mask sign value = false := by unfold bareV; simp [h2]
      have e2 : ((mask : Int) == 0) = false := by rw [beq_eq_false_iff_ne]; omega
      have E := Lib.hid e
      clear e h2
      go_enter Try.func46, Try.ntmps46
      go_wp2_with fail
      go_ret
      exact ⟨by rw [E.out]; rfl, (Below.refl _ _).alloc (Nat.le_refl _) _⟩
  · have e : bareV arg mask sign value = false := by unfold bareV; simp [h1]
    have e1 : (arg == 0) = false := by rw [beq_eq_false_iff_ne]; exact h1
    have E := Lib.hid e
    clear e h1
    go_enter Try.func46, Try.ntmps46
    go_wp2_with fail
    go_ret
    exact ⟨by rw [E.out]; rfl, (Below.refl _ _).alloc (Nat.le_refl _) _⟩
def aloneV (kind : Int) (n : Nat) (arg : Int) (mask : Nat) (sign : ByteArray) (value : Nat) : Bool :=
  if kind = 4 then decide (0 ≤ arg) && decide (arg ≤ 5) && signOk sign && decide (n = 0)
  else if kind = 1 ∨ kind = 2 then bareV arg mask sign value && decide (2 ≤ n) && decide (n < 100)
  else if kind = 3 then bareV arg mask sign value && decide (n = 1)
  else false
theorem alone_V (c : Cnd) : c.alone = aloneV c.kind c.kids.length c.arg c.mask c.sign c.value := rfl
set_option maxRecDepth 100000 in
set_option maxHeartbeats 1000000 in
theorem tyAlone_any (kind : Int) (arg : Int) (mask : Nat) (sign : ByteArray) (value : Nat) (ka : Option Addr) (n kc : Nat) (hn : n ≤ 9223372036854775807) (w : World) :
    Calls Try.prog 33 #[.agg #[.int .i64 kind, .slice ka n kc, .int .i64 arg, .int .u64 (mask : Nat), .string sign, .int .u64 (value : Nat)]] w fun e w' => e = .returned (.bool (aloneV kind n arg mask sign value)) ∧ Below w.heap.size w w' := by
  have hnI : (n : Int) ≤ 9223372036854775807 := by omega
  have hw1 := (Below.refl w.heap.size w).alloc (Nat.le_refl _) (.cells #[.int .i64 kind, .slice ka n kc, .int .i64 arg, .int .u64 (mask : Nat), .string sign, .int .u64 (value : Nat)] 25)
  have hnw := heap_alloc_new w (.cells #[.int .i64 kind, .slice ka n kc, .int .i64 arg, .int .u64 (mask : Nat), .string sign, .int .u64 (value : Nat)] 25)
  have HB := Lib.hid (fun u => tyBare_any kind (.slice ka n kc) arg mask sign value ⟨_, _, _, rfl⟩ u)
  have HS := Lib.hid (fun u => tySign_any sign u)
  by_cases k4 : kind = 4
  · subst k4
    have e : aloneV 4 n arg mask sign value = (decide (0 ≤ arg) && decide (arg ≤ 5) && signOk sign && decide (n = 0)) := rfl
    have E := Lib.hid e
    have HW1 := Lib.hid hw1
    clear e HB hnw hw1
    by_cases a0 : 0 ≤ arg
    · by_cases a5 : arg ≤ 5
      · have E2 := Lib.hid a0; have E3 := Lib.hid a5
        go_enter Try.func33, Try.ntmps33
        go_wp2_with fail
        refine (HS.out _).mono ?_
        rintro e w2 ⟨rfl, rfl⟩
        cases hs : signOk sign
        · rw [hs] at E
          go_wp2_with fail
          go_ret
          exact ⟨by rw [E.out]; simp, HW1.out⟩
        · rw [hs] at E
          by_cases n0 : n = 0
          · subst n0
            go_wp2_with fail
            go_ret
            exact ⟨by rw [E.out, decide_eq_true E2.out, decide_eq_true E3.out]; rfl, HW1.out⟩
          · have e0 : ((n : Int) == 0) = false := by rw [beq_eq_false_iff_ne]; omega
            have N0 := Lib.hid n0
            clear n0
            go_wp2_with fail
            go_ret
            exact ⟨by rw [E.out, decide_eq_false N0.out]; simp, HW1.out⟩
      · have E3 := Lib.hid a5
        go_enter Try.func33, Try.ntmps33
        go_wp2_with fail
        go_ret
        exact ⟨by rw [E.out, decide_eq_false (show ¬ arg ≤ 5 by have := E3.out; omega)]; simp, HW1.out⟩
    · have E3 := Lib.hid a0
      go_enter Try.func33, Try.ntmps33
      go_wp2_with fail
      go_ret
      exact ⟨by rw [E.out, decide_eq_false (show ¬ 0 ≤ arg by have := E3.out; omega)]; simp, HW1.out⟩
  by_cases k12 : kind = 1 ∨ kind = 2
  · have e : aloneV kind n arg mask sign value = (bareV arg mask sign value && decide (2 ≤ n) && decide (n < 100)) := by unfold aloneV; rw [if_neg k4, if_pos k12]
    have E := Lib.hid e
    have HW1 := Lib.hid hw1
    generalize bareV arg mask sign value = bb at *
    rcases k12 with rfl | rfl
    all_goals
      clear e k4 hw1
      go_enter Try.func33, Try.ntmps33
      go_wp2_with fail
      refine (HB.out _).mono ?_
      rintro e w2 ⟨rfl, hb2⟩
      have hnw2 := (hb2.block _ (lt_of_block hnw)).trans hnw
      have q1 := below_cell (Below.refl _ _) hnw2 1 rfl
      have HW2 := Lib.hid (HW1.out.trans (hb2.mono HW1.out.size))
      clear hb2 hnw2
      cases bb
      · go_wp2_with fail
        go_ret
        exact ⟨by rw [E.out]; rfl, HW2.out⟩
      · by_cases n2 : 2 ≤ n
        · by_cases n100 : n < 100
          · have N2 := Lib.hid n2; have N100 := Lib.hid n100
            have n2I : (2 : Int) ≤ n := by omega
            have n100I : (n : Int) < 100 := by omega
            clear n2 n100
            go_wp2_with fail
            go_ret
            exact ⟨by rw [E.out, decide_eq_true N2.out, decide_eq_true N100.out]; rfl, HW2.out⟩
          · have N2 := Lib.hid n2; have N100 := Lib.hid n100
            have n2I : (2 : Int) ≤ n := by omega
            have n100I : ¬ (n : Int) < 100 := by omega
            clear n2 n100
            go_wp2_with fail
            go_ret
            exact ⟨by rw [E.out, decide_eq_false N100.out]; simp; omega, HW2.out⟩
        · have N2 := Lib.hid n2
          have n2I : ¬ (2 : Int) ≤ n := by omega
          clear n2
          go_wp2_with fail
          go_ret
          exact ⟨by rw [E.out, decide_eq_false N2.out]; simp, HW2.out⟩
  by_cases k3 : kind = 3
  · have e : aloneV kind n arg mask sign value = (bareV arg mask sign value && decide (n = 1)) := by unfold aloneV; rw [if_neg k4, if_neg k12, if_pos k3]
    have E := Lib.hid e
    have HW1 := Lib.hid hw1
    generalize bareV arg mask sign value = bb at *
    subst k3
    clear e k4 hw1 k12
    go_enter Try.func33, Try.ntmps33
    go_wp2_with fail
    refine (HB.out _).mono ?_
    rintro e w2 ⟨rfl, hb2⟩
    have HW2 := Lib.hid (HW1.out.trans (hb2.mono HW1.out.size))
    clear hb2
    cases bb
    · go_wp2_with fail
      go_ret
      exact ⟨by rw [E.out]; rfl, HW2.out⟩
    · by_cases n1 : n = 1
      · subst n1
        go_wp2_with fail
        go_ret
        exact ⟨by rw [E.out]; rfl, HW2.out⟩
      · have N1 := Lib.hid n1
        have e1 : ((n : Int) == 1) = false := by rw [beq_eq_false_iff_ne]; omega
        clear n1
        go_wp2_with fail
        go_ret
        exact ⟨by rw [E.out, decide_eq_false N1.out]; rfl, HW2.out⟩
  have e : aloneV kind n arg mask sign value = false := by unfold aloneV; rw [if_neg k4, if_neg k12, if_neg k3]
  have E := Lib.hid e
  have HW1 := Lib.hid hw1
  have b1 : (kind == 1) = false := by rw [beq_eq_false_iff_ne]; omega
  have b2 : (kind == 2) = false := by rw [beq_eq_false_iff_ne]; omega
  have b3 : (kind == 3) = false := by rw [beq_eq_false_iff_ne]; omega
  have b4 : (kind == 4) = false := by rw [beq_eq_false_iff_ne]; omega
  clear e k4 k12 k3 hw1 hnw HB HS
  go_enter Try.func33, Try.ntmps33
  go_wp2_with fail
  go_ret
  exact ⟨by rw [E.out]; rfl, HW1.out⟩
end Go.Proofs.Ytbcoooaoofbboaa
