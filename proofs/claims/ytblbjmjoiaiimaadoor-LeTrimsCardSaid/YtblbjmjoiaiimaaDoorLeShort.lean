/- short of the laws of layer 1. -/
import Derived.Test.YtblbjmjoiaiimaaDoorLePut
namespace Go.Proofs.YtblbjmjoiaiimaaDoor
open Go.RowKit
set_option linter.unusedVariables false

def shortS (s : ByteArray) : ByteArray := s.extract 0 (min s.size 70000)
theorem shortS_size (s : ByteArray) : (shortS s).size ≤ 70000 := by
  rw [shortS, ByteArray.size_extract]; omega
theorem leShort (s : ByteArray) (w : World) (hs : s.size ≤ 9223372036854775807) :
    Calls Tryd.prog 6 #[.string s] w fun e w' => e = .returned (.string (shortS s)) ∧ w = w' := by
  by_cases h : (s.size : Int) ≤ 70000
  · have e : shortS s = s := by
      rw [shortS, show min s.size 70000 = s.size from by omega]; simp
    have E := Lib.hid e; clear e
    go_enter Tryd.func6, Tryd.ntmps6
    go_wp2
    go_ret
    exact ⟨by rw [E.out]; rfl, rfl⟩
  · have e : shortS s = s.extract 0 70000 := by
      rw [shortS, show min s.size 70000 = 70000 from by omega]
    have E := Lib.hid e; clear e
    go_enter Tryd.func6, Tryd.ntmps6
    go_wp2
    go_ret
    exact ⟨by rw [E.out]; rfl, rfl⟩
end Go.Proofs.YtblbjmjoiaiimaaDoor
