/- The walk of LePuts. -/
import Derived.Test.YtblbjmjoiaiimaaLeAlive
import Derived.Test.YtblbjmjoiaiimaaLeShort
import Derived.Test.YtblbjmjoiaiimaaRef01Put
import Derived.Test.YtblbjmjoiaiimaaRef01Get
namespace Go.Proofs.Ytblbjmjoiaiimaa.lawLePuts
open Go.RowKit
set_option linter.unusedVariables false

theorem walk (a0 a1 : Int) (a2 : ByteArray) (a3 : Int) (w : World) (w0 : (Lit.int .u64 a0).wf = true) (w1 : (Lit.int .i64 a1).wf = true) (w2 : a2.size ≤ maxLen) (w3 : (Lit.int .i64 a3).wf = true) :
    Calls Try.prog 3 #[.int .u64 a0, .int .i64 a1, .string a2, .int .i64 a3] w fun e w' => e = .returned (.bool true) ∧ Below w.heap.size w w' := by
  have hs : a2.size ≤ 9223372036854775807 := w2
  have h0 : 0 ≤ a0 ∧ a0 ≤ 18446744073709551615 := by simpa [Lit.wf, IntKind.min, IntKind.max, IntKind.signed, IntKind.bits] using w0
  have h3 : -9223372036854775808 ≤ a3 ∧ a3 ≤ 9223372036854775807 := by simpa [Lit.wf, IntKind.min, IntKind.max, IntKind.signed, IntKind.bits] using w3
  obtain ⟨h00, h01⟩ := h0
  obtain ⟨h30, h31⟩ := h3
  have hsh := shortS_size a2
  clear w0 w1 w2 w3
  go_enter Try.func3, Try.ntmps3
  go_wp2_with fail
  refine (leShort a2 _ hs).mono ?_
  rintro e w' ⟨rfl, rfl⟩
  go_wp2_with fail
  refine (lePut_any a0 a1 _ h00 h01).mono ?_
  rintro e w1 ⟨rfl, hb1⟩
  go_wp2_with fail
  refine (refPut_any a0 a1 _ h00 h01).mono ?_
  rintro e w2 ⟨rfl, hb2⟩
  go_wp2_with fail
  refine (leGet_any _ a3 a1 _ (by omega) h31).mono ?_
  rintro e w3 ⟨rfl, rfl⟩
  go_wp2_with fail
  refine (refGet_any _ a3 a1 _ (by omega) h31).mono ?_
  rintro e w3 ⟨rfl, rfl⟩
  go_wp2_with fail
  refine (leAlive _).mono ?_
  rintro e w3 ⟨rfl, hb3⟩
  go_wp2
  go_ret
  exact ⟨rfl, (hb1.trans (hb2.mono hb1.size)).trans (hb3.mono (Nat.le_trans hb1.size hb2.size))⟩
end Go.Proofs.Ytblbjmjoiaiimaa.lawLePuts
