/- The law's few. -/
import Derived.Test.YtbndhegmfnfahaaInsnMath
namespace Go.Proofs.Ytbndhegmfnfahaa
open Go.RowKit
set_option linter.unusedVariables false

def fewN (n : Nat) : Nat := if 300 < n ∧ n ≤ 4096 then 300 else min n 4100
theorem fewN_le (n : Nat) : fewN n ≤ n := by unfold fewN; split <;> omega
set_option maxHeartbeats 400000 in
theorem insnFew_at (a : Option Addr) (len cap : Nat) (w : World) (h1 : len ≤ cap) (h2 : cap ≤ 9223372036854775807) :
    Calls Try.prog 49 #[.slice a len cap] w fun e w' => e = .returned (.slice a (fewN len) cap) ∧ w = w' := by
  have hlI : (len : Int) ≤ cap := by omega
  have hcI : (cap : Int) ≤ 9223372036854775807 := by omega
  by_cases h1 : 300 < len ∧ len ≤ 4096
  · have e1 : fewN len = 300 := by unfold fewN; rw [if_pos h1]
    rw [e1]
    obtain ⟨ha, hb⟩ := h1
    have hx1 : (300 : Int) < len := by omega
    have hx2 : (len : Int) ≤ 4096 := by omega
    clear e1
    go_enter Try.func49, Try.ntmps49
    go_wp2_with fail
    go_ret
    exact ⟨rfl, rfl⟩
  · have e1 : fewN len = min len 4100 := by unfold fewN; rw [if_neg h1]
    rw [e1]
    obtain ⟨m, hm, hm1, hm2, hm3⟩ := min_if len 4100 (by omega)
    have hm4 : min len 4100 = m := by omega
    rw [hm4]
    have hmI : (m : Int) ≤ cap := by omega
    have hmi : min (len : Int) 4100 = m := by omega
    clear e1 hm3 hm4
    by_cases h2 : 300 < len
    · have hx1 : (300 : Int) < len := by omega
      have hx2 : (4096 : Int) < len := by omega
      clear h1
      go_enter Try.func49, Try.ntmps49
      go_wp2_with fail
      go_ret
      exact ⟨rfl, rfl⟩
    · have hx1 : (len : Int) ≤ 300 := by omega
      clear h1
      go_enter Try.func49, Try.ntmps49
      go_wp2_with fail
      go_ret
      exact ⟨rfl, rfl⟩
end Go.Proofs.Ytbndhegmfnfahaa
