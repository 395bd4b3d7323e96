/- A condition that is none. -/
import Derived.Test.YtcejhfpdajbdcaaHold
import Derived.BigQuiet
namespace Go.Proofs.Ytcejhfpdajbdcaa
open Go.RowKit Go.ChangeShapes
set_option linter.unusedVariables false

set_option maxRecDepth 100000 in
theorem tmZero (kind : Int) (ka : Option Addr) (kn kc : Nat) (arg : Int) (mask : Nat) (sign : ByteArray) (value : Nat) (w : World) : Calls Try.prog 48 #[.agg #[.int .i64 kind, .slice ka kn kc, .int .i64 arg, .int .u64 (mask : Nat), .string sign, .int .u64 (value : Nat)]] w fun e w' => e = .returned (.bool (zeroV kind kn arg mask sign value)) ∧ Below w.heap.size w w' := by
  by_cases h : kind = 0
  · subst h
    by_cases h : arg = 0
    · subst h
      by_cases h : mask = 0
      · subst h
        by_cases h : sign = ⟨#[]⟩
        · subst h
          by_cases h : value = 0
          · subst h
            by_cases h : kn = 0
            · subst h
              go_enter Try.func48, Try.ntmps48
              go_wp2_with fail
              go_ret
              exact ⟨rfl, (Below.refl _ _).alloc (Nat.le_refl _) _⟩
            · have e : zeroV 0 kn 0 0 ⟨#[]⟩ 0 = false := by unfold zeroV bareV; simp [h]
              have e1 : ((kn : Int) == 0) = false := by rw [beq_eq_false_iff_ne]; omega
              have E := Lib.hid e
              clear e h
              go_enter Try.func48, Try.ntmps48
              go_wp2_with fail
              go_ret
              exact ⟨by rw [E.out]; rfl, (Below.refl _ _).alloc (Nat.le_refl _) _⟩
          · have e : zeroV 0 kn 0 0 ⟨#[]⟩ value = false := by unfold zeroV bareV; simp [h]
            have e1 : ((value : Int) == 0) = false := by rw [beq_eq_false_iff_ne]; omega
            have E := Lib.hid e
            clear e h
            go_enter Try.func48, Try.ntmps48
            go_wp2_with fail
            go_ret
            exact ⟨by rw [E.out]; rfl, (Below.refl _ _).alloc (Nat.le_refl _) _⟩
        · have e : zeroV 0 kn 0 0 sign value = false := by unfold zeroV bareV; simp [h]
          have e1 : (sign.toList == []) = false := by rw [← bare_tests]; exact ba_tne h
          have E := Lib.hid e
          clear e h
          go_enter Try.func48, Try.ntmps48
          go_wp2_with fail
          go_ret
          exact ⟨by rw [E.out]; rfl, (Below.refl _ _).alloc (Nat.le_refl _) _⟩
      · have e : zeroV 0 kn 0 mask sign value = false := by unfold zeroV bareV; simp [h]
        have e1 : ((mask : Int) == 0) = false := by rw [beq_eq_false_iff_ne]; omega
        have E := Lib.hid e
        clear e h
        go_enter Try.func48, Try.ntmps48
        go_wp2_with fail
        go_ret
        exact ⟨by rw [E.out]; rfl, (Below.refl _ _).alloc (Nat.le_refl _) _⟩
    · have e : zeroV 0 kn arg mask sign value = false := by unfold zeroV bareV; simp [h]
      have e1 : (arg == 0) = false := by rw [beq_eq_false_iff_ne]; exact h
      have E := Lib.hid e
      clear e h
      go_enter Try.func48, Try.ntmps48
      go_wp2_with fail
      go_ret
      exact ⟨by rw [E.out]; rfl, (Below.refl _ _).alloc (Nat.le_refl _) _⟩
  · have e : zeroV kind kn arg mask sign value = false := by unfold zeroV bareV; simp [h]
    have e1 : (kind == 0) = false := by rw [beq_eq_false_iff_ne]; exact h
    have E := Lib.hid e
    clear e h
    go_enter Try.func48, Try.ntmps48
    go_wp2_with fail
    go_ret
    exact ⟨by rw [E.out]; rfl, (Below.refl _ _).alloc (Nat.le_refl _) _⟩
theorem tmZero_any (c : Cnd) (v : Value) (w : World) (h : IsCnd w v c) : Calls Try.prog 48 #[v] w fun e w' => e = .returned (.bool c.zero) ∧ Below w.heap.size w w' := by
  obtain ⟨_, k, rfl, hk⟩ := h
  obtain ⟨ka, kn, kc, rfl, hkn, _⟩ := id hk
  have := tmZero c.kind ka kn kc c.arg c.mask c.sign c.value w
  unfold Cnd.zero
  rw [hkn]
  exact this
end Go.Proofs.Ytcejhfpdajbdcaa
