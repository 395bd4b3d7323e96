/- The walk of CallActions. -/
import Derived.Test.YtbndhegmfnfahabCallLaw
import Derived.Test.YtbndhegmfnfahabCallAction
namespace Go.Proofs.Ytbndhegmfnfahab.lawCallActions
open Go.RowKit
set_option linter.unusedVariables false

theorem actOf_some (s : ByteArray) (p : Nat × Nat) (h : actOf s = some p) : s = ⟨(match p.1 with
    | 2147483648 => [107, 105, 108, 108] | 0 => [107, 105, 108, 108, 95, 116, 104, 114, 101, 97, 100] | 2147221504 => [108, 111, 103] | 2147418112 => [97, 108, 108, 111, 119]
    | 327680 => [101, 114, 114, 110, 111] | 196608 => [116, 114, 97, 112] | _ => [116, 114, 97, 99, 101] : List UInt8).toArray⟩ := by
  unfold actOf at h
  repeat' (split at h; (rename_i hs; injection h with h; subst h; exact hs))
  cases h
theorem actRes_apart {s t : ByteArray} {x y : Int} {n m : Nat} (x0 : 0 ≤ x) (y0 : 0 ≤ y) (hs : actRes s x = some n) (ht : actRes t y = some m) : ((n : Int) == (m : Int)) = ((s.toList == t.toList) && (x == y)) := by
  unfold actRes at hs ht
  cases hp : actOf s with
  | none => rw [hp] at hs; cases hs
  | some p =>
    cases hq : actOf t with
    | none => rw [hq] at ht; cases ht
    | some q =>
      rw [hp] at hs; rw [hq] at ht
      dsimp only at hs ht
      obtain ⟨p1, p2, p3⟩ := actOf_cases s p hp
      obtain ⟨q1, q2, q3⟩ := actOf_cases t q hq
      split at hs
      · split at ht
        · injection hs with hs
          injection ht with ht
          by_cases h : s = t ∧ x = y
          · obtain ⟨rfl, rfl⟩ := h
            rw [hp] at hq
            injection hq with hq
            subst hq
            have : n = m := by omega
            subst this
            simp
          · have hne : ((n : Int) == (m : Int)) = false := by
              rw [beq_eq_false_iff_ne]
              intro e
              have e1 : p.1 = q.1 := by omega
              have e2 : x = y := by omega
              have hs' := actOf_some s p hp
              have ht' := actOf_some t q hq
              rw [e1] at hs'
              exact h ⟨hs'.trans ht'.symm, e2⟩
            rw [hne]
            by_cases hst : s = t
            · have hxy : x ≠ y := fun e => h ⟨hst, e⟩
              simp [hxy]
            · rw [ba_tne hst]; rfl
        · cases ht
      · cases hs

set_option maxHeartbeats 1000000 in
theorem walk (a0 a1 : ByteArray) (a2 a3 : Int) (w : World) (w0 : a0.size ≤ maxLen) (w1 : a1.size ≤ maxLen) (w2 : (Lit.int .u64 a2).wf = true) (w3 : (Lit.int .u64 a3).wf = true) :
    Calls Try.prog 8 #[.string a0, .string a1, .int .u64 a2, .int .u64 a3] w fun e w' => e = .returned (.bool true) ∧ Below w.heap.size w w' := by
  have h2 : 0 ≤ a2 ∧ a2 ≤ 18446744073709551615 := by simpa [Lit.wf, IntKind.min, IntKind.max, IntKind.signed, IntKind.bits] using w2
  have h3 : 0 ≤ a3 ∧ a3 ≤ 18446744073709551615 := by simpa [Lit.wf, IntKind.min, IntKind.max, IntKind.signed, IntKind.bits] using w3
  obtain ⟨h20, h21⟩ := h2
  obtain ⟨h30, h31⟩ := h3
  have hb0 := Below.refl w.heap.size w
  have hap := fun n m => actRes_apart (s := a0) (t := a1) (n := n) (m := m) h20 h30
  have HAP := Lib.hid hap
  clear w0 w1 w2 w3 hap
  have hc1 := fun u => callAction_any a0 a2 u h20 h21
  have hc2 := fun u => callAction_any a1 a3 u h30 h31
  generalize actRes a0 a2 = p at *
  generalize actRes a1 a3 = q at *
  have HC1 := Lib.hid hc1; have HC2 := Lib.hid hc2
  clear hc1 hc2
  cases p with
  | none =>
    cases q with
    | none =>
      go_enter Try.func8, Try.ntmps8
      go_wp2_with fail
      refine (keep hb0 (HC1.out _)).mono ?_
      rintro e w1 ⟨rfl, hb1⟩
      go_wp2_with fail
      refine (keep hb1 (HC2.out _)).mono ?_
      rintro e w2 ⟨rfl, hb2⟩
      go_wp2_with fail
      refine (keep hb2 (callAlive _)).mono ?_
      rintro e w3 ⟨rfl, hb3⟩
      go_wp2_with fail
      go_ret
      exact ⟨rfl, hb3⟩
    | some y =>
      go_enter Try.func8, Try.ntmps8
      go_wp2_with fail
      refine (keep hb0 (HC1.out _)).mono ?_
      rintro e w1 ⟨rfl, hb1⟩
      go_wp2_with fail
      refine (keep hb1 (HC2.out _)).mono ?_
      rintro e w2 ⟨rfl, hb2⟩
      go_wp2_with fail
      refine (keep hb2 (callAlive _)).mono ?_
      rintro e w3 ⟨rfl, hb3⟩
      go_wp2_with fail
      go_ret
      exact ⟨rfl, hb3⟩
  | some x =>
    cases q with
    | none =>
      go_enter Try.func8, Try.ntmps8
      go_wp2_with fail
      refine (keep hb0 (HC1.out _)).mono ?_
      rintro e w1 ⟨rfl, hb1⟩
      go_wp2_with fail
      refine (keep hb1 (HC2.out _)).mono ?_
      rintro e w2 ⟨rfl, hb2⟩
      go_wp2_with fail
      refine (keep hb2 (callAlive _)).mono ?_
      rintro e w3 ⟨rfl, hb3⟩
      go_wp2_with fail
      go_ret
      exact ⟨rfl, hb3⟩
    | some y =>
      have hxy := HAP.out x y rfl rfl
      by_cases hst : a0.toList == a1.toList
      all_goals
        go_enter Try.func8, Try.ntmps8
        go_wp2_with fail
        refine (keep hb0 (HC1.out _)).mono ?_
        rintro e w1 ⟨rfl, hb1⟩
        simp only [Option.getD_some, Option.isSome_some]
        go_wp2_with fail
        refine (keep hb1 (HC2.out _)).mono ?_
        rintro e w2 ⟨rfl, hb2⟩
        simp only [Option.getD_some, Option.isSome_some]
        go_wp2_with fail
        refine (keep hb2 (callAlive _)).mono ?_
        rintro e w3 ⟨rfl, hb3⟩
        go_wp2_with fail
        go_ret
        refine ⟨?_, hb3⟩
        simp
end Go.Proofs.Ytbndhegmfnfahab.lawCallActions
