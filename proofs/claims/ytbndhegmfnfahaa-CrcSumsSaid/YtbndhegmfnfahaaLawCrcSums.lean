/- The walk of CrcSums. -/
import Derived.Test.YtbndhegmfnfahaaCrcLaw
import Derived.Test.YtbndhegmfnfahaaRef02
import Derived.Deep.QuietTactic
import Derived.BigQuiet
namespace Go.Proofs.Ytbndhegmfnfahaa.lawCrcSums
open Go.RowKit
set_option linter.unusedVariables false

theorem walk (a0 a1 : ByteArray) (w : World) (w0 : a0.size ≤ maxLen) (w1 : a1.size ≤ maxLen) :
    Calls Try.prog 3 #[.string a0, .string a1] w fun e w' => e = .returned (.bool true) ∧ Below w.heap.size w w' := by
  have hs0 : a0.size ≤ 9223372036854775807 := w0
  have hs1 : a1.size ≤ 9223372036854775807 := w1
  have z0 := shortC_size a0
  have z1 := shortC_size a1
  clear w0 w1
  go_enter Try.func3, Try.ntmps3
  go_wp2_with fail
  refine (crcShort a0 _ hs0).mono ?_
  rintro e w1 ⟨rfl, rfl⟩
  go_wp2_with fail
  refine (crcShort a1 _ hs1).mono ?_
  rintro e w1 ⟨rfl, rfl⟩
  generalize shortC a0 = s at *
  generalize shortC a1 = t at *
  go_wp2_with fail
  refine (crcOpen_any t _ (by omega)).mono ?_
  rintro e w1 ⟨rfl, hb1⟩
  go_wp2_with fail
  refine (ref02Open_any t _ (by omega)).mono ?_
  rintro e w2 ⟨rfl, hb2⟩
  have hb2 := hb1.trans (hb2.mono hb1.size)
  clear hb1
  go_wp2_with fail
  refine (crcAlive _).mono ?_
  rintro e w3 ⟨rfl, hb3⟩
  have hb3 := hb2.trans (hb3.mono hb2.size)
  clear hb2
  go_wp2_with fail
  refine (crcOf_any s _ (by omega)).mono ?_
  rintro e w4 ⟨rfl, hb4⟩
  have hb4 := hb3.trans (hb4.mono hb3.size)
  clear hb3
  go_wp2_with fail
  refine (ref02Of_any s _ (by omega)).mono ?_
  rintro e w5 ⟨rfl, rfl⟩
  go_wp2_with fail
  refine (crcSeal_any s _ (by omega)).mono ?_
  rintro e w5 ⟨rfl, hb5⟩
  have hb5 := hb4.trans (hb5.mono hb4.size)
  clear hb4
  go_wp2_with fail
  refine (ref02Seal_any s _ (by omega)).mono ?_
  rintro e w6 ⟨rfl, hb6⟩
  have hb6 := hb5.trans (hb6.mono hb5.size)
  clear hb5
  go_wp2
  go_ret
  exact ⟨rfl, hb6⟩
end Go.Proofs.Ytbndhegmfnfahaa.lawCrcSums
