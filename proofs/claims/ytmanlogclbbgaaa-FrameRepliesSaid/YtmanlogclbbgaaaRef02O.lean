/- ref.Open of layer 2. -/
import Derived.Test.YtmanlogclbbgaaaRef02
import Derived.Test.YtmanlogclbbgaaaCrcOpen
namespace Go.Proofs.Ytmanlogclbbgaaa
open Go.RowKit
set_option linter.unusedVariables false

theorem ref02Open_any (t : ByteArray) (w : World) (hs : t.size ≤ 140737488355328) :
    Calls Try.prog 31 #[.string t] w fun e w' => e = .returned (.tuple #[.string (openS t), .int .i64 (openE t)]) ∧ Below w.heap.size w w' := by
  by_cases h : t.size < 4
  · have hE : openE t = 3 := by unfold openE; rw [if_pos h]
    have hS : openS t = ⟨#[]⟩ := by unfold openS; rw [hE, if_neg (by omega)]
    have HE := Lib.hid hE; have HS := Lib.hid hS; clear hE hS
    have hI : (t.size : Int) - 4 < 0 := by omega
    go_enter Try.func31, Try.ntmps31
    go_wp2_with fail
    go_ret2
    exact ⟨by rw [HE.out, HS.out]; rfl, Below.refl _ _⟩
  · obtain ⟨n, hn⟩ : ∃ n : Nat, n = t.size - 4 := ⟨_, rfl⟩
    have hI : (t.size : Int) - 4 = (n : Int) := by omega
    have hE0 : openE t = if sealL (t.extract 0 n) = t then 0 else 4 := by unfold openE; rw [if_neg h, ← hn]
    have hS0 : openS t = if openE t = 0 then t.extract 0 n else ⟨#[]⟩ := by unfold openS; rw [← hn]
    have hnI : (n : Int) ≤ t.size := by omega
    have hex : (t.extract 0 n).size ≤ 140737488355328 := by rw [ByteArray.size_extract]; omega
    have HE0 := Lib.hid hE0; have HS0 := Lib.hid hS0; have HX := Lib.hid hex
    clear hn hE0 hS0 hex
    by_cases heq : sealL (t.extract 0 n) = t
    · have HEQ := Lib.hid heq
      clear heq
      go_enter Try.func31, Try.ntmps31
      go_wp2_with fail
      refine (ref02Seal_any _ _ HX.out).mono ?_
      rintro e w1 ⟨rfl, hb⟩
      rw [HEQ.out]
      go_wp2_with fail
      go_ret2
      exact ⟨by rw [HS0.out, HE0.out, if_pos HEQ.out, if_pos rfl]; rfl, hb⟩
    · have HEQ := Lib.hid heq
      have hq := ba_tne heq
      generalize hse : sealL (t.extract 0 n) = se at *
      have HSE := Lib.hid hse
      clear heq hse
      go_enter Try.func31, Try.ntmps31
      go_wp2_with fail
      refine (ref02Seal_any _ _ HX.out).mono ?_
      rintro e w1 ⟨rfl, hb⟩
      rw [HSE.out]
      go_wp2_with fail
      go_ret2
      exact ⟨by rw [HS0.out, HE0.out, if_neg HEQ.out, if_neg (by omega)]; rfl, hb⟩
end Go.Proofs.Ytmanlogclbbgaaa
