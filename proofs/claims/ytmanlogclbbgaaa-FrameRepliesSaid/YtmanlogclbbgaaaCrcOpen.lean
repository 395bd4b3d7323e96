/- crc.Open. -/
import Derived.Test.YtmanlogclbbgaaaCrcSeal
namespace Go.Proofs.Ytmanlogclbbgaaa
open Go.RowKit
set_option linter.unusedVariables false

theorem crcOpen_any (t : ByteArray) (w : World) (hs : t.size ≤ 140737488355328) :
    Calls Try.prog 48 #[.string t] w fun e w' => e = .returned (.tuple #[.string (openS t), .int .i64 (openE t)]) ∧ Below w.heap.size w w' := by
  by_cases h : t.size < 4
  · have hE : openE t = 3 := by unfold openE; rw [if_pos h]
    have hS : openS t = ⟨#[]⟩ := by unfold openS; rw [hE, if_neg (by omega)]
    have HE := Lib.hid hE; have HS := Lib.hid hS; clear hE hS
    have hI : (t.size : Int) - 4 < 0 := by omega
    go_enter Try.func48, Try.ntmps48
    go_wp2_with fail
    go_ret2
    exact ⟨by rw [HE.out, HS.out]; rfl, Below.refl _ _⟩
  · obtain ⟨n, hn⟩ : ∃ n : Nat, n = t.size - 4 := ⟨_, rfl⟩
    have hI : (t.size : Int) - 4 = (n : Int) := by omega
    have hle := open_iff t (by omega)
    have hget := leGet_ok t n 4 w (by omega) (by omega) (by omega) (by omega)
    have hgl := getL_lt (cutL t n 4)
    rw [cutL_length t n 4 (by omega)] at hgl
    have hgI : ((getL (cutL t n 4) : Nat) : Int) ≤ 4294967295 := by omega
    have hE0 : openE t = if sealL (t.extract 0 n) = t then 0 else 4 := by unfold openE; rw [if_neg h, ← hn]
    have hS0 : openS t = if openE t = 0 then t.extract 0 n else ⟨#[]⟩ := by unfold openS; rw [← hn]
    rw [← hn] at hle
    have hnI : (n : Int) ≤ t.size := by omega
    have hex : (t.extract 0 n).size ≤ 9223372036854775807 := by rw [ByteArray.size_extract]; omega
    have HN := Lib.hid hn; have HG := Lib.hid hget; have HE0 := Lib.hid hE0; have HS0 := Lib.hid hS0; have HX := Lib.hid hex
    clear hn hget hE0 hS0 hgl hex
    by_cases heq : sealL (t.extract 0 n) = t
    · have hq := hle.2 heq
      have HEQ := Lib.hid heq
      clear heq hle
      generalize getL (cutL t n 4) = g at *
      generalize hsl : sumL (t.extract 0 n).data.toList = sl at *
      have HSL := Lib.hid hsl
      clear hsl
      subst hq
      go_enter Try.func48, Try.ntmps48
      go_wp2_with fail
      refine HG.out.mono ?_
      rintro e w1 ⟨rfl, rfl⟩
      go_wp2_with fail
      refine (crcOf_any _ _ HX.out).mono ?_
      rintro e w1 ⟨rfl, hb⟩
      rw [HSL.out]
      go_wp2_with fail
      go_ret2
      exact ⟨by rw [HS0.out, HE0.out, if_pos HEQ.out, if_pos rfl]; rfl, hb⟩
    · have hq : ¬ _ := fun hh => heq (hle.1 hh)
      have hsum := sumL_lt (t.extract 0 n).data.toList
      have hne : ((getL (cutL t n 4) : Nat) : Int) ≠ (sumL (t.extract 0 n).data.toList : Nat) := by omega
      have HEQ := Lib.hid heq
      clear hq heq hle
      generalize getL (cutL t n 4) = g at *
      generalize hsl : sumL (t.extract 0 n).data.toList = sl at *
      have HSL := Lib.hid hsl
      have hneb : ((g : Int) != (sl : Int)) = true := bne_iff_ne.2 hne
      clear hsl hne
      go_enter Try.func48, Try.ntmps48
      go_wp2_with fail
      refine HG.out.mono ?_
      rintro e w1 ⟨rfl, rfl⟩
      go_wp2_with fail
      refine (crcOf_any _ _ HX.out).mono ?_
      rintro e w1 ⟨rfl, hb⟩
      rw [HSL.out]
      go_wp2_with fail
      go_ret2
      exact ⟨by rw [HS0.out, HE0.out, if_neg HEQ.out, if_neg (by omega)]; rfl, hb⟩
end Go.Proofs.Ytmanlogclbbgaaa
