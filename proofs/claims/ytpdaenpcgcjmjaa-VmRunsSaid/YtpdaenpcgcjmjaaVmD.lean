/- vm.Word of any record, at any place. -/
import Derived.Test.YtpdaenpcgcjmjaaVmC
namespace Go.Proofs.Ytpdaenpcgcjmjaa
open Go.RowKit
set_option linter.unusedVariables false

def wordV (s : ByteArray) (at' : Int) : Value :=
  if s.size = 64 then (if 0 ≤ at' ∧ at' ≤ 4294967295 then wordV4 s at'.toNat else .tuple #[.int .u32 0, .int .i64 51]) else .tuple #[.int .u32 0, .int .i64 52]
set_option maxRecDepth 100000 in
theorem vmWord_all (s : ByteArray) (at' : Int) (w : World) : Calls Try.prog 11 #[.string s, .int .i64 at'] w fun e w' => e = .returned (wordV s at') ∧ w = w' := by
  unfold wordV
  by_cases hs : s.size = 64
  · rw [if_pos hs]
    by_cases h : 0 ≤ at' ∧ at' ≤ 4294967295
    · rw [if_pos h]
      obtain ⟨k, rfl⟩ := Int.eq_ofNat_of_zero_le h.1
      exact vmWord_any s k w hs (by omega)
    · rw [if_neg h]
      have hsI : (s.size : Int) = 64 := by omega
      by_cases h0 : at' < 0
      · clear h
        go_enter Try.func11, Try.ntmps11
        go_wp2_with fail
        go_ret2
        exact ⟨rfl, rfl⟩
      · have h60 : 60 < at' := by omega
        clear h
        go_enter Try.func11, Try.ntmps11
        go_wp2_with fail
        go_ret2
        exact ⟨rfl, rfl⟩
  · rw [if_neg hs]
    have hsI : (s.size : Int) ≠ 64 := by omega
    go_enter Try.func11, Try.ntmps11
    go_wp2_with fail
    go_ret2
    exact ⟨rfl, rfl⟩
end Go.Proofs.Ytpdaenpcgcjmjaa
