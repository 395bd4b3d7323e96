/- Layer 7's alive. -/
import Derived.Test.YtgglejicbojiaaaDoorBl3
import Derived.Test.YtgglejicbojiaaaDoorRefNew
namespace Go.Proofs.YtgglejicbojiaaaDoor
open Go.RowKit
set_option linter.unusedVariables false

def abcB : ByteArray := ⟨#[97, 98, 99]⟩
theorem alive7 : layE (newL 64) abcB = 0 ∧ (layT (newL 64) abcB).2 = [54] ∧ wrtsL [54] abcB = [⟨54, ⟨#[0, 0, 3, 0, 97, 98, 99]⟩⟩] := by
  refine ⟨by decide +kernel, by decide +kernel, by decide +kernel⟩
set_option maxRecDepth 100000 in
set_option maxHeartbeats 400000 in
theorem blobAlive (w : World) : Calls Tryd.prog 7 #[] w fun e w' => e = .returned (.bool true) ∧ Below w.heap.size w w' := by
  have HN := Lib.hid (fun u => refNew_any 64 u (by omega))
  have HL := Lib.hid (fun v u hu => blobLay_any v (newL 64) abcB u hu (by decide))
  rw [alive7.1] at HL
  go_enter Tryd.func7, Tryd.ntmps7
  go_upto_region 2 with (first | (go_at_call 12; refine (HN.out _).mono ?_; rintro e w1 ⟨v, rfl, hv, hb1⟩) | (go_at_call 5; refine (HL.out _ _ hv).mono ?_; rintro e w2 ⟨v1, v2, rfl, hv1, hv2, hb2⟩))
  rw [alive7.2.1] at hv2 ⊢
  rw [alive7.2.2] at hv2
  obtain ⟨a, len, cap, rfl, hlen, hc1, hc2, hbd, hat⟩ := hv2
  obtain rfl : len = 1 := by simpa using hlen.symm
  obtain ⟨b, off, rfl, hb, hat⟩ := hat.resolve_left (by omega)
  obtain ⟨h0, h1⟩ := hat 0 (by omega)
  have h1' : w2.cell? ⟨b, off + 1, none⟩ = some (.string ⟨#[0, 0, 3, 0, 97, 98, 99]⟩) := by simpa using h1
  have hb3 := hb1.trans (hb2.mono hb1.size)
  clear hat h0 h1 HN HL hv hbd hv1 hlen
  go_wp2_with fail
  go_ret
  exact ⟨rfl, hb3⟩
end Go.Proofs.YtgglejicbojiaaaDoor
