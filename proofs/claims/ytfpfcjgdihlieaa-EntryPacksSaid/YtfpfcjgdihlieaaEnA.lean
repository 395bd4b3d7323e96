/- doorwardlaw08.alive. -/
import Derived.Test.YtfpfcjgdihlieaaEnK
namespace Go.Proofs.Ytfpfcjgdihlieaa
open Go.RowKit
set_option linter.unusedVariables false

theorem isEns_nil (w : World) : IsEns w (.slice none 0 0) [] := ⟨none, 0, 0, rfl, rfl, Nat.le_refl _, by omega, fun _ => rfl, .inl rfl⟩
set_option maxRecDepth 100000 in
theorem enAlive (w : World) : Calls Try.prog 14 #[] w fun e' w' => e' = .returned (.bool true) ∧ Below w.heap.size w w' := by
  have HP := Lib.hid (fun u => enPack_ok [] (.slice none 0 0) u (isEns_nil u) (by decide))
  have HR := Lib.hid (fun u => enRight [] (.slice none 0 0) u (isEns_nil u))
  rw [show (ByteArray.mk (packB []).toArray) = ⟨#[0]⟩ from by decide] at HP
  rw [show rightE [] = true from by decide] at HR
  go_enter Try.func14, Try.ntmps14
  go_wp2_with fail
  refine (HP.out _).mono ?_
  rintro e w2 ⟨rfl, hb2⟩
  go_wp2_with fail
  refine (HR.out _).mono ?_
  rintro e w3 ⟨rfl, hb3⟩
  go_wp2_with fail
  go_ret
  exact ⟨rfl, hb2.trans (hb3.mono hb2.size)⟩
end Go.Proofs.Ytfpfcjgdihlieaa
