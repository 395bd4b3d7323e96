/- alive, short of the laws of layer 2. -/
import Derived.Test.YtbndhegmfnfahaaCrcSeal
namespace Go.Proofs.Ytbndhegmfnfahaa
open Go.RowKit
set_option linter.unusedVariables false

theorem sum_known : sumL [49, 50, 51, 52, 53, 54, 55, 56, 57] = 3421780262 := by decide +kernel
theorem crcAlive (w : World) : Calls Try.prog 18 #[] w fun e w' => e = .returned (.bool true) ∧ Below w.heap.size w w' := by
  have h := fun (u : World) => crcOf_any ⟨#[49, 50, 51, 52, 53, 54, 55, 56, 57]⟩ u (by simp [ByteArray.size])
  have e : (ByteArray.mk #[49, 50, 51, 52, 53, 54, 55, 56, 57]).data.toList = [49, 50, 51, 52, 53, 54, 55, 56, 57] := rfl
  rw [e, sum_known] at h
  have H := Lib.hid h
  clear h e
  go_enter Try.func18, Try.ntmps18
  go_wp2_with fail
  refine (H.out _).mono ?_
  rintro e w' ⟨rfl, hb⟩
  go_wp2
  go_ret
  exact ⟨rfl, hb⟩

def shortC (s : ByteArray) : ByteArray := s.extract 0 (min s.size 4000)
theorem shortC_size (s : ByteArray) : (shortC s).size ≤ 4000 := by
  rw [shortC, ByteArray.size_extract]; omega
theorem crcShort (s : ByteArray) (w : World) (hs : s.size ≤ 9223372036854775807) :
    Calls Try.prog 15 #[.string s] w fun e w' => e = .returned (.string (shortC s)) ∧ w = w' := by
  by_cases h : (s.size : Int) ≤ 4000
  · have e : shortC s = s := by
      rw [shortC, show min s.size 4000 = s.size from by omega]; simp
    have E := Lib.hid e; clear e
    go_enter Try.func15, Try.ntmps15
    go_wp2
    go_ret
    exact ⟨by rw [E.out]; rfl, rfl⟩
  · have e : shortC s = s.extract 0 4000 := by
      rw [shortC, show min s.size 4000 = 4000 from by omega]
    have E := Lib.hid e; clear e
    go_enter Try.func15, Try.ntmps15
    go_wp2
    go_ret
    exact ⟨by rw [E.out]; rfl, rfl⟩
end Go.Proofs.Ytbndhegmfnfahaa
