/- The walk of InsnAll. -/
import Derived.Test.YtbndhegmfnfahaaInsnFew
import Derived.Test.YtbndhegmfnfahaaRef10All
import Derived.Test.YtbndhegmfnfahaaRef10Read
namespace Go.Proofs.Ytbndhegmfnfahaa.lawInsnAll
open Go.RowKit
set_option linter.unusedVariables false

set_option maxRecDepth 100000 in
set_option maxHeartbeats 1000000 in
theorem walk (v0 : Value) (l0 : List Ins) (s : ByteArray) (w : World) (w0 : IsInsns w v0 l0) (w1 : s.size ≤ maxLen) :
    Calls Try.prog 13 #[v0, .string s] w fun e w' => e = .returned (.bool true) ∧ Below w.heap.size w w' := by
  obtain ⟨a, len, cap, rfl, hlen, hc1, hc2, htk⟩ := w0.take
  have hl := htk (fewN len) (fewN_le len)
  have HF := Lib.hid (fun u => insnFew_at a len cap u hc1 hc2)
  have hn1 := fewN_le len
  unfold maxLen at w1
  have hsI : (s.size : Int) ≤ 9223372036854775807 := by omega
  generalize fewN len = n at *
  generalize l0.take n = l at *
  have HL := Lib.hid hl
  obtain ⟨m, hm, hms, hm3, hmm⟩ := min_if s.size 32780 (by omega)
  have hmi : min (s.size : Int) 32780 = m := by omega
  have hmI : (m : Int) ≤ s.size := by omega
  clear hl htk w0 hlen hm hmm
  by_cases h1 : 3000 < s.size
  · by_cases h2 : s.size ≤ 32768
    · have g1 : (3000 : Int) < s.size := by omega
      have g2 : (s.size : Int) ≤ 32768 := by omega
      have g3 : (s.extract 0 3000).size = 3000 := by rw [ByteArray.size_extract]; omega
      have g4 : ((s.extract 0 3000).size : Int) = 3000 := by omega
      clear hmi hmI hms hm3
      go_enter Try.func13, Try.ntmps13
      go_wp2_with fail
      refine (HF.out _).mono ?_
      rintro e w' ⟨rfl, rfl⟩
      go_wp2_with fail
      refine (insnAll_any _ _ _ HL.out).mono ?_
      rintro e w2 ⟨rfl, hw2⟩
      have HL2 := Lib.hid (HL.out.below hw2)
      go_wp2_with fail
      refine (keep hw2 (refAll_any _ _ _ HL2.out)).mono ?_
      rintro e w3 ⟨rfl, hw3⟩
      clear hw2 HL2
      generalize insAllS l = S at *
      generalize insAllE l = E at *
      go_wp2_with fail
      refine (insnRead_any _ _ (by first | omega | (rw [ByteArray.size_extract]; omega))).mono ?_
      rintro e w4 ⟨v4, rfl, hown4, hb4⟩
      have hw4 := hw3.trans (hb4.mono hw3.size)
      have hi4 := Lib.hid (hown4.reads (insReadL_bounded _))
      clear hown4 hb4 hw3
      go_wp2_with fail
      refine (refRead_any _ _ (by first | omega | (rw [ByteArray.size_extract]; omega))).mono ?_
      rintro e w5 ⟨v5, rfl, hown5, hb5⟩
      have hw5 := hw4.trans (hb5.mono hw4.size)
      have hi5 := Lib.hid (hown5.reads (insReadL_bounded _))
      have hi4' := Lib.hid (hi4.out.below hb5)
      clear hown5 hb5 hw4 hi4
      go_wp2_with fail
      refine (insnAlive _).mono ?_
      rintro e w6 ⟨rfl, hb6⟩
      have hw6 := hw5.trans (hb6.mono hw5.size)
      have hlk := refLike_any _ _ _ _ w6 (hi4'.out.below hb6) (hi5.out.below hb6)
      rw [decide_eq_true rfl] at hlk
      have HLK := Lib.hid hlk
      clear hlk hb6 hw5 hi4' hi5
      go_wp2_with fail
      refine (keep hw6 HLK.out).mono ?_
      rintro e w7 ⟨rfl, hw7⟩
      go_wp2_with fail
      go_ret
      exact ⟨rfl, hw7⟩
    · have g1 : (32768 : Int) < s.size := by omega
      have g3 : (3000 : Int) < s.size := by omega
      go_enter Try.func13, Try.ntmps13
      go_wp2_with fail
      refine (HF.out _).mono ?_
      rintro e w' ⟨rfl, rfl⟩
      go_wp2_with fail
      refine (insnAll_any _ _ _ HL.out).mono ?_
      rintro e w2 ⟨rfl, hw2⟩
      have HL2 := Lib.hid (HL.out.below hw2)
      go_wp2_with fail
      refine (keep hw2 (refAll_any _ _ _ HL2.out)).mono ?_
      rintro e w3 ⟨rfl, hw3⟩
      clear hw2 HL2
      generalize insAllS l = S at *
      generalize insAllE l = E at *
      go_wp2_with fail
      refine (insnRead_any _ _ (by first | omega | (rw [ByteArray.size_extract]; omega))).mono ?_
      rintro e w4 ⟨v4, rfl, hown4, hb4⟩
      have hw4 := hw3.trans (hb4.mono hw3.size)
      have hi4 := Lib.hid (hown4.reads (insReadL_bounded _))
      clear hown4 hb4 hw3
      go_wp2_with fail
      refine (refRead_any _ _ (by first | omega | (rw [ByteArray.size_extract]; omega))).mono ?_
      rintro e w5 ⟨v5, rfl, hown5, hb5⟩
      have hw5 := hw4.trans (hb5.mono hw4.size)
      have hi5 := Lib.hid (hown5.reads (insReadL_bounded _))
      have hi4' := Lib.hid (hi4.out.below hb5)
      clear hown5 hb5 hw4 hi4
      go_wp2_with fail
      refine (insnAlive _).mono ?_
      rintro e w6 ⟨rfl, hb6⟩
      have hw6 := hw5.trans (hb6.mono hw5.size)
      have hlk := refLike_any _ _ _ _ w6 (hi4'.out.below hb6) (hi5.out.below hb6)
      rw [decide_eq_true rfl] at hlk
      have HLK := Lib.hid hlk
      clear hlk hb6 hw5 hi4' hi5
      go_wp2_with fail
      refine (keep hw6 HLK.out).mono ?_
      rintro e w7 ⟨rfl, hw7⟩
      go_wp2_with fail
      go_ret
      exact ⟨rfl, hw7⟩
  · have g1 : (s.size : Int) ≤ 3000 := by omega
    go_enter Try.func13, Try.ntmps13
    go_wp2_with fail
    refine (HF.out _).mono ?_
    rintro e w' ⟨rfl, rfl⟩
    go_wp2_with fail
    refine (insnAll_any _ _ _ HL.out).mono ?_
    rintro e w2 ⟨rfl, hw2⟩
    have HL2 := Lib.hid (HL.out.below hw2)
    go_wp2_with fail
    refine (keep hw2 (refAll_any _ _ _ HL2.out)).mono ?_
    rintro e w3 ⟨rfl, hw3⟩
    clear hw2 HL2
    generalize insAllS l = S at *
    generalize insAllE l = E at *
    go_wp2_with fail
    refine (insnRead_any _ _ (by first | omega | (rw [ByteArray.size_extract]; omega))).mono ?_
    rintro e w4 ⟨v4, rfl, hown4, hb4⟩
    have hw4 := hw3.trans (hb4.mono hw3.size)
    have hi4 := Lib.hid (hown4.reads (insReadL_bounded _))
    clear hown4 hb4 hw3
    go_wp2_with fail
    refine (refRead_any _ _ (by first | omega | (rw [ByteArray.size_extract]; omega))).mono ?_
    rintro e w5 ⟨v5, rfl, hown5, hb5⟩
    have hw5 := hw4.trans (hb5.mono hw4.size)
    have hi5 := Lib.hid (hown5.reads (insReadL_bounded _))
    have hi4' := Lib.hid (hi4.out.below hb5)
    clear hown5 hb5 hw4 hi4
    go_wp2_with fail
    refine (insnAlive _).mono ?_
    rintro e w6 ⟨rfl, hb6⟩
    have hw6 := hw5.trans (hb6.mono hw5.size)
    have hlk := refLike_any _ _ _ _ w6 (hi4'.out.below hb6) (hi5.out.below hb6)
    rw [decide_eq_true rfl] at hlk
    have HLK := Lib.hid hlk
    clear hlk hb6 hw5 hi4' hi5
    go_wp2_with fail
    refine (keep hw6 HLK.out).mono ?_
    rintro e w7 ⟨rfl, hw7⟩
    go_wp2_with fail
    go_ret
    exact ⟨rfl, hw7⟩
end Go.Proofs.Ytbndhegmfnfahaa.lawInsnAll
