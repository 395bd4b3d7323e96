/- The reference's sign. -/
import Derived.Test.YtpkpbohkdkmoiaaDoorRf16
namespace Go.Proofs.YtpkpbohkdkmoiaaDoor
open Go.RowKit
set_option linter.unusedVariables false

set_option maxRecDepth 100000 in
set_option maxHeartbeats 4000000 in
theorem rfSign (s : ByteArray) (p : Nat) (w : World) (hs : s.size ≤ 1000000) (hp : p < s.size) : Calls Tryd.prog 32 #[.string s, .int .i64 p] w fun e w' => e = .returned (.int .i64 (signN (s.extract p s.size) : Nat)) ∧ w = w' := by
  have hsI : (s.size : Int) ≤ 1000000 := by omega
  have hpI : (p : Int) < s.size := by omega
  have hidx : ∀ u : World, Sem.run Tryd.prog (Instr.index 9 (.string s) (.int .i64 (p : Int))) u = .ok (.int .u8 (s[p].toNat : Int)) u := fun u => lxIdxS s p hp u
  obtain ⟨N, hN⟩ : ∃ N, signN (s.extract p s.size) = N := ⟨_, rfl⟩
  rw [hN]
  have hcase : ∀ c : Nat, c = 61 ∨ c = 33 ∨ c = 60 ∨ c = 62 ∨ c = 38 ∨ c = 40 ∨ c = 41 ∨ (c ≠ 61 ∧ c ≠ 33 ∧ c ≠ 60 ∧ c ≠ 62 ∧ c ≠ 38 ∧ c ≠ 40 ∧ c ≠ 41) := fun c => by omega
  by_cases hp1 : p + 1 < s.size
  · have hp1I : (p : Int) + 1 < s.size := by omega
    have hidx1 : ∀ u : World, Sem.run Tryd.prog (Instr.index 9 (.string s) (.int .i64 ((p : Int) + 1))) u = .ok (.int .u8 (s[p + 1].toNat : Int)) u := fun u => by
      have := lxIdxS s (p + 1) hp1 u
      simpa using this
    by_cases h61 : s[p + 1].toNat = 61
    · rw [signN_cases s p hp true ⟨fun _ => ⟨hp1, h61⟩, fun _ => rfl⟩] at hN
      rw [h61] at hidx1
      generalize s[p].toNat = c at *
      have hc := hcase c
      clear hcase h61 hp1
      rcases hc with rfl | rfl | rfl | rfl | rfl | rfl | rfl | ⟨n1, n2, n3, n4, n5, n6, n7⟩
      all_goals first
        | (simp at hN
           subst hN
           go_enter Tryd.func32, Tryd.ntmps32
           go_wp2_with fail
           go_ret
           exact ⟨rfl, rfl⟩)
        | (rw [if_neg (by omega), if_neg (by omega)] at hN
           subst hN
           have m1 : ((c : Int) == 61) = false := by rw [beq_eq_false_iff_ne]; omega
           have m2 : ((c : Int) == 33) = false := by rw [beq_eq_false_iff_ne]; omega
           have m3 : ((c : Int) == 60) = false := by rw [beq_eq_false_iff_ne]; omega
           have m4 : ((c : Int) == 62) = false := by rw [beq_eq_false_iff_ne]; omega
           have m5 : ((c : Int) == 38) = false := by rw [beq_eq_false_iff_ne]; omega
           have m6 : ((c : Int) == 40) = false := by rw [beq_eq_false_iff_ne]; omega
           have m7 : ((c : Int) == 41) = false := by rw [beq_eq_false_iff_ne]; omega
           go_enter Tryd.func32, Tryd.ntmps32
           go_wp2_with fail
           go_ret
           exact ⟨rfl, rfl⟩)
    · rw [signN_cases s p hp false ⟨fun h => (by cases h), fun ⟨_, h⟩ => absurd h h61⟩] at hN
      have h61b : ((s[p + 1].toNat : Int) == 61) = false := by rw [beq_eq_false_iff_ne]; omega
      generalize s[p].toNat = c at *
      generalize (s[p + 1].toNat : Int) = c1 at *
      have hc := hcase c
      clear hcase h61 hp1
      rcases hc with rfl | rfl | rfl | rfl | rfl | rfl | rfl | ⟨n1, n2, n3, n4, n5, n6, n7⟩
      all_goals first
        | (simp at hN
           subst hN
           go_enter Tryd.func32, Tryd.ntmps32
           go_wp2_with fail
           go_ret
           exact ⟨rfl, rfl⟩)
        | (rw [if_neg (by simp), if_neg (by omega)] at hN
           subst hN
           have m1 : ((c : Int) == 61) = false := by rw [beq_eq_false_iff_ne]; omega
           have m2 : ((c : Int) == 33) = false := by rw [beq_eq_false_iff_ne]; omega
           have m3 : ((c : Int) == 60) = false := by rw [beq_eq_false_iff_ne]; omega
           have m4 : ((c : Int) == 62) = false := by rw [beq_eq_false_iff_ne]; omega
           have m5 : ((c : Int) == 38) = false := by rw [beq_eq_false_iff_ne]; omega
           have m6 : ((c : Int) == 40) = false := by rw [beq_eq_false_iff_ne]; omega
           have m7 : ((c : Int) == 41) = false := by rw [beq_eq_false_iff_ne]; omega
           go_enter Tryd.func32, Tryd.ntmps32
           go_wp2_with fail
           go_ret
           exact ⟨rfl, rfl⟩)
  · have hp1I : ¬ (p : Int) + 1 < s.size := by omega
    rw [signN_cases s p hp false ⟨fun h => (by cases h), fun ⟨h, _⟩ => absurd h hp1⟩] at hN
    generalize s[p].toNat = c at *
    have hc := hcase c
    clear hcase hp1
    rcases hc with rfl | rfl | rfl | rfl | rfl | rfl | rfl | ⟨n1, n2, n3, n4, n5, n6, n7⟩
    all_goals first
      | (simp at hN
         subst hN
         go_enter Tryd.func32, Tryd.ntmps32
         go_wp2_with fail
         go_ret
         exact ⟨rfl, rfl⟩)
      | (rw [if_neg (by simp), if_neg (by omega)] at hN
         subst hN
         have m1 : ((c : Int) == 61) = false := by rw [beq_eq_false_iff_ne]; omega
         have m2 : ((c : Int) == 33) = false := by rw [beq_eq_false_iff_ne]; omega
         have m3 : ((c : Int) == 60) = false := by rw [beq_eq_false_iff_ne]; omega
         have m4 : ((c : Int) == 62) = false := by rw [beq_eq_false_iff_ne]; omega
         have m5 : ((c : Int) == 38) = false := by rw [beq_eq_false_iff_ne]; omega
         have m6 : ((c : Int) == 40) = false := by rw [beq_eq_false_iff_ne]; omega
         have m7 : ((c : Int) == 41) = false := by rw [beq_eq_false_iff_ne]; omega
         go_enter Tryd.func32, Tryd.ntmps32
         go_wp2_with fail
         go_ret
         exact ⟨rfl, rfl⟩)
end Go.Proofs.YtpkpbohkdkmoiaaDoor
