/- The reference's Known. -/
import Derived.Test.YtpdfahlglalebaaKnown
namespace Go.Proofs.Ytpdfahlglalebaa
open Go.RowKit
set_option linter.unusedVariables false

theorem refKnown_out (c : Int) (w : World) (h : c < 0 ∨ 255 < c) :
    Calls Try.prog 34 #[.int .i64 c] w fun e w' => e = .returned (.bool false) ∧ w = w' := by
  rcases h with h | h
  all_goals
    go_enter Try.func34, Try.ntmps34
    go_wp2
    go_ret
    exact ⟨rfl, rfl⟩

def refKn (c : Nat) : Bool :=
  if c % 8 = 0 then c == 32 || c == 128 || c == 0 || c == 96
  else if c % 8 = 1 then c == 1 || c == 97 || c == 129
  else if c % 8 = 2 then c == 2
  else if c % 8 = 3 then c == 3
  else if c % 8 = 4 then (if c / 16 = 8 then c / 8 % 2 == 0 else decide (c / 16 ≤ 7) || c / 16 == 10)
  else if c % 8 = 5 then (if 1 ≤ c / 16 ∧ c / 16 ≤ 4 then true else if c / 16 = 0 then c / 8 % 2 == 0 else false)
  else if c % 8 = 6 then c == 6 || c == 22
  else c == 7 || c == 135
theorem refKn_all : ∀ c : Fin 256, codeList.contains c.val = refKn c.val := by decide +kernel
theorem refKn_eq (c : Nat) (h : c ≤ 255) : codeList.contains c = refKn c := refKn_all ⟨c, by omega⟩

set_option maxRecDepth 100000 in
set_option maxHeartbeats 1000000 in
theorem refKnown_in (c : Nat) (w : World) (h : c ≤ 255) :
    Calls Try.prog 34 #[.int .i64 c] w fun e w' => e = .returned (.bool (codeList.contains c)) ∧ w = w' := by
  have hI : (c : Int) ≤ 255 := by omega
  have HK := Lib.hid (refKn_eq c h)
  generalize codeList.contains c = B at *
  go_enter Try.func34, Try.ntmps34
  go_wp2
  all_goals go_ret
  all_goals refine ⟨?_, rfl⟩
  all_goals rw [HK.out]
  all_goals clear HK
  all_goals simp only [beq_iff_eq, beq_eq_false_iff_ne, ne_eq] at *
  all_goals unfold refKn
  all_goals repeat (first | rw [if_pos (by omega)] | rw [if_neg (by omega)])
  all_goals refine congrArg (fun b => Ending.returned (.bool b)) ?_
  all_goals first | rfl | (rw [Bool.eq_iff_iff]; simp; done) | (rw [Bool.eq_iff_iff]; simp; omega)

theorem refKnown_any (c : Int) (w : World) :
    Calls Try.prog 34 #[.int .i64 c] w fun e w' => e = .returned (.bool (insKnown c)) ∧ w = w' := by
  by_cases h : 0 ≤ c ∧ c ≤ 255
  · obtain ⟨n, rfl⟩ := Int.eq_ofNat_of_zero_le h.1
    have e1 : insKnown n = codeList.contains n := by unfold insKnown; rw [decide_eq_true h]; rfl
    rw [e1]
    exact refKnown_in n w (by omega)
  · have e1 : insKnown c = false := by unfold insKnown; rw [decide_eq_false h]; rfl
    rw [e1]
    exact refKnown_out c w (by omega)

end Go.Proofs.Ytpdfahlglalebaa
