/- A word of a record. -/
import Derived.Test.YtcejhfpdajbdcaaLeGet
import Derived.Test.YtcejhfpdajbdcaaGen
namespace Go.Proofs.Ytcejhfpdajbdcaa
open Go.RowKit
set_option linter.unusedVariables false

def wordOk (k : Nat) : Bool := decide (k ≤ 60) && decide (k % 4 = 0)
theorem wordL_le (s : ByteArray) (p : Nat) (hp : p + 4 ≤ s.size) : getL (cutL s p 4) ≤ 4294967295 := by
  have := getL_lt (cutL s p 4)
  have p4 : (256 : Nat) ^ 4 = 4294967296 := by decide
  rw [cutL_length _ _ _ hp, p4] at this
  omega
def wordV4 (s : ByteArray) (k : Nat) : Value := if wordOk k then .tuple #[.int .u32 (getL (cutL s k 4) : Nat), .int .i64 0] else .tuple #[.int .u32 0, .int .i64 51]
theorem wordOk_iff (k : Nat) : wordOk k = true ↔ k ≤ 60 ∧ k % 4 = 0 := by simp [wordOk]

set_option maxRecDepth 100000 in
set_option maxHeartbeats 400000 in
theorem vmWord_any (s : ByteArray) (k : Nat) (w : World) (hs : s.size = 64) (hk : k ≤ 4294967295) :
    Calls Try.prog 37 #[.string s, .int .i64 (k : Nat)] w fun e w' => e = .returned (wordV4 s k) ∧ w = w' := by
  have hsz : ((s.size : Int) != 64) = false := by rw [bne_eq_false_iff_eq]; omega
  have hkI : (k : Int) ≤ 4294967295 := by omega
  by_cases h60 : k ≤ 60
  · by_cases h4 : k % 4 = 0
    · have hv : wordV4 s k = .tuple #[.int .u32 (getL (cutL s k 4) : Nat), .int .i64 0] := by unfold wordV4; rw [if_pos ((wordOk_iff k).2 ⟨h60, h4⟩)]
      have hx := wordL_le s k (by omega)
      have HC := Lib.hid (fun u => leGet_ok s k 4 u (by omega) (by omega) (by omega) (by omega))
      rw [hv]
      generalize getL (cutL s k 4) = x at *
      have hxI : (x : Int) ≤ 4294967295 := by omega
      have h4b : ((k : Int) % 4 != 0) = false := by rw [bne_eq_false_iff_eq]; omega
      have h60I : (k : Int) ≤ 60 := by omega
      clear hv hx h4 hs hk h60
      go_enter Try.func37, Try.ntmps37
      go_wp2_with fail
      refine (HC.out _).mono ?_
      rintro e w' ⟨rfl, rfl⟩
      go_wp2_with fail
      go_ret2
      exact ⟨rfl, rfl⟩
    · have hv : wordV4 s k = .tuple #[.int .u32 0, .int .i64 51] := by unfold wordV4; rw [if_neg (fun h => h4 ((wordOk_iff k).1 h).2)]
      rw [hv]
      have h4b : ((k : Int) % 4 != 0) = true := by rw [bne_iff_ne]; omega
      have h60I : (k : Int) ≤ 60 := by omega
      clear hv h4 hs hk h60
      go_enter Try.func37, Try.ntmps37
      go_wp2_with fail
      go_ret2
      exact ⟨rfl, rfl⟩
  · have hv : wordV4 s k = .tuple #[.int .u32 0, .int .i64 51] := by unfold wordV4; rw [if_neg (fun h => h60 ((wordOk_iff k).1 h).1)]
    rw [hv]
    have h60I : (60 : Int) < k := by omega
    clear hv hs hk h60
    go_enter Try.func37, Try.ntmps37
    go_wp2_with fail
    go_ret2
    exact ⟨rfl, rfl⟩
end Go.Proofs.Ytcejhfpdajbdcaa
