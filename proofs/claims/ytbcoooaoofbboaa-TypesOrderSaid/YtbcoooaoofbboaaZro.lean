/- Conditions that are none, where mean is not in the dump (never with Hold). -/
import Derived.Test.YtbcoooaoofbboaaCnd2
import Derived.Test.YtbcoooaoofbboaaCnd5
import Derived.Test.YtbcoooaoofbboaaRef16R
import Derived.BigQuiet
namespace Go.Proofs.Ytbcoooaoofbboaa
open Go.RowKit Go.ChangeShapes
set_option linter.unusedVariables false

def zeroV (kind : Int) (n : Nat) (arg : Int) (mask : Nat) (sign : ByteArray) (value : Nat) : Bool := decide (kind = 0) && bareV arg mask sign value && decide (n = 0)
def Cnd.zero (c : Cnd) : Bool := zeroV c.kind c.kids.length c.arg c.mask c.sign c.value
set_option maxRecDepth 100000 in
theorem refNone16 (kind : Int) (ka : Option Addr) (kn kc : Nat) (arg : Int) (mask : Nat) (sign : ByteArray) (value : Nat) (w : World) : Calls Try.prog 18 #[.agg #[.int .i64 kind, .slice ka kn kc, .int .i64 arg, .int .u64 (mask : Nat), .string sign, .int .u64 (value : Nat)]] w fun e w' => e = .returned (.bool (zeroV kind kn arg mask sign value)) ∧ Below w.heap.size w w' := by
  by_cases h : kind = 0
  · subst h
    have hB := fun u => refBare_any 0 (.slice ka kn kc) arg mask sign value ⟨_, _, _, rfl⟩ u
    have hnw := heap_alloc_new w (.cells #[.int .i64 0, .slice ka kn kc, .int .i64 arg, .int .u64 (mask : Nat), .string sign, .int .u64 (value : Nat)] 25)
    have hw1 := (Below.refl w.heap.size w).alloc (Nat.le_refl _) (.cells #[.int .i64 0, .slice ka kn kc, .int .i64 arg, .int .u64 (mask : Nat), .string sign, .int .u64 (value : Nat)] 25)
    have hz : zeroV 0 kn arg mask sign value = (bareV arg mask sign value && decide (kn = 0)) := by unfold zeroV; simp
    have HB := Lib.hid hB; have HZ := Lib.hid hz; have HNW := Lib.hid hnw; have HW1 := Lib.hid hw1
    clear hB hz hnw hw1
    go_enter Try.func18, Try.ntmps18
    go_wp2_with fail
    refine (HB.out _).mono ?_
    rintro e w2 ⟨rfl, hb2⟩
    have q1 := below_cell hb2 HNW.out 1 rfl
    have HW2 := Lib.hid (HW1.out.trans (hb2.mono HW1.out.size))
    clear hb2 HB HNW HW1
    generalize bareV arg mask sign value = B at *
    by_cases hk : kn = 0
    · subst hk
      cases B
      · go_wp2_with fail
        go_ret
        exact ⟨by rw [HZ.out]; rfl, HW2.out⟩
      · go_wp2_with fail
        go_ret
        exact ⟨by rw [HZ.out]; rfl, HW2.out⟩
    · have e1 : ((kn : Int) == 0) = false := by rw [beq_eq_false_iff_ne]; omega
      have HK := Lib.hid hk
      clear hk
      cases B
      · go_wp2_with fail
        go_ret
        exact ⟨by rw [HZ.out]; rfl, HW2.out⟩
      · go_wp2_with fail
        go_ret
        exact ⟨by rw [HZ.out, decide_eq_false HK.out]; rfl, HW2.out⟩
  · have e : zeroV kind kn arg mask sign value = false := by unfold zeroV bareV; simp [h]
    have e1 : (kind == 0) = false := by rw [beq_eq_false_iff_ne]; exact h
    have E := Lib.hid e
    clear e h
    go_enter Try.func18, Try.ntmps18
    go_wp2_with fail
    go_ret
    exact ⟨by rw [E.out]; rfl, (Below.refl _ _).alloc (Nat.le_refl _) _⟩
set_option maxRecDepth 100000 in
theorem tyZero (kind : Int) (ka : Option Addr) (kn kc : Nat) (arg : Int) (mask : Nat) (sign : ByteArray) (value : Nat) (w : World) : Calls Try.prog 37 #[.agg #[.int .i64 kind, .slice ka kn kc, .int .i64 arg, .int .u64 (mask : Nat), .string sign, .int .u64 (value : Nat)]] w fun e w' => e = .returned (.bool (zeroV kind kn arg mask sign value)) ∧ Below w.heap.size w w' := by
  by_cases h : kind = 0
  · subst h
    have hB := fun u => tyBare_any 0 (.slice ka kn kc) arg mask sign value ⟨_, _, _, rfl⟩ u
    have hnw := heap_alloc_new w (.cells #[.int .i64 0, .slice ka kn kc, .int .i64 arg, .int .u64 (mask : Nat), .string sign, .int .u64 (value : Nat)] 25)
    have hw1 := (Below.refl w.heap.size w).alloc (Nat.le_refl _) (.cells #[.int .i64 0, .slice ka kn kc, .int .i64 arg, .int .u64 (mask : Nat), .string sign, .int .u64 (value : Nat)] 25)
    have hz : zeroV 0 kn arg mask sign value = (bareV arg mask sign value && decide (kn = 0)) := by unfold zeroV; simp
    have HB := Lib.hid hB; have HZ := Lib.hid hz; have HNW := Lib.hid hnw; have HW1 := Lib.hid hw1
    clear hB hz hnw hw1
    go_enter Try.func37, Try.ntmps37
    go_wp2_with fail
    refine (HB.out _).mono ?_
    rintro e w2 ⟨rfl, hb2⟩
    have q1 := below_cell hb2 HNW.out 1 rfl
    have HW2 := Lib.hid (HW1.out.trans (hb2.mono HW1.out.size))
    clear hb2 HB HNW HW1
    generalize bareV arg mask sign value = B at *
    by_cases hk : kn = 0
    · subst hk
      cases B
      · go_wp2_with fail
        go_ret
        exact ⟨by rw [HZ.out]; rfl, HW2.out⟩
      · go_wp2_with fail
        go_ret
        exact ⟨by rw [HZ.out]; rfl, HW2.out⟩
    · have e1 : ((kn : Int) == 0) = false := by rw [beq_eq_false_iff_ne]; omega
      have HK := Lib.hid hk
      clear hk
      cases B
      · go_wp2_with fail
        go_ret
        exact ⟨by rw [HZ.out]; rfl, HW2.out⟩
      · go_wp2_with fail
        go_ret
        exact ⟨by rw [HZ.out, decide_eq_false HK.out]; rfl, HW2.out⟩
  · have e : zeroV kind kn arg mask sign value = false := by unfold zeroV bareV; simp [h]
    have e1 : (kind == 0) = false := by rw [beq_eq_false_iff_ne]; exact h
    have E := Lib.hid e
    clear e h
    go_enter Try.func37, Try.ntmps37
    go_wp2_with fail
    go_ret
    exact ⟨by rw [E.out]; rfl, (Below.refl _ _).alloc (Nat.le_refl _) _⟩
theorem tyZero_any (c : Cnd) (v : Value) (w : World) (h : IsCnd w v c) : Calls Try.prog 37 #[v] w fun e w' => e = .returned (.bool c.zero) ∧ Below w.heap.size w w' := by
  obtain ⟨hb, k, rfl, hk⟩ := h
  obtain ⟨a, n, cc, rfl, hl, _⟩ := hk
  unfold Cnd.zero
  rw [hl]
  exact tyZero _ _ _ _ _ _ _ _ _
theorem refNone16_any (c : Cnd) (v : Value) (w : World) (h : IsCnd w v c) : Calls Try.prog 18 #[v] w fun e w' => e = .returned (.bool c.zero) ∧ Below w.heap.size w w' := by
  obtain ⟨hb, k, rfl, hk⟩ := h
  obtain ⟨a, n, cc, rfl, hl, _⟩ := hk
  unfold Cnd.zero
  rw [hl]
  exact refNone16 _ _ _ _ _ _ _ _ _
end Go.Proofs.Ytbcoooaoofbboaa
