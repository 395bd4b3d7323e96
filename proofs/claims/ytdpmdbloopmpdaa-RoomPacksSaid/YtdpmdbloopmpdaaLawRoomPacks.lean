/- The walk of RoomPacks. -/
import Derived.Test.YtdpmdbloopmpdaaRoomU
import Derived.Test.YtdpmdbloopmpdaaRoomT
import Derived.Outline
namespace Go.Proofs.Ytdpmdbloopmpdaa.lawRoomPacks
open Go.RowKit
set_option linter.unusedVariables false

set_option maxRecDepth 100000 in
set_option maxHeartbeats 1000000 in
theorem walk (v0 : Value) (l0 : List Bool) (s0 : ByteArray) (n : Int) (w : World) (w0 : IsBools w v0 l0) (w1 : s0.size ≤ maxLen) (w2 : (Lit.int .i64 n).wf = true) :
    Calls Try.prog 3 #[v0, .string s0, .int .i64 n] w fun e w' => e = .returned (.bool true) ∧ Below w.heap.size w w' := by
  have hwf := wf_i64 w2
  obtain ⟨p, len, cap, rfl, hlen, hc1, hc2, htk⟩ := w0.take
  have hl := htk (min len 300) (Nat.min_le_left _ _)
  have HF := Lib.hid (fun u => roomFew_at p len cap u hc1 hc2)
  have hm1 : min len 300 ≤ 300 := Nat.min_le_right _ _
  generalize min len 300 = k at *
  have hll : (l0.take k).length ≤ 300 := by rw [List.length_take]; omega
  generalize l0.take k = l at *
  have HL := Lib.hid hl
  have hsI : (s0.size : Int) ≤ 9223372036854775807 := by unfold maxLen at w1; omega
  obtain ⟨m, hm, hm1, hm3, hm4⟩ := min_if s0.size 60 (by omega)
  have hmm : min (s0.size : Int) 60 = m := by omega
  have hss : (s0.extract 0 m).size ≤ 1000 := by rw [ByteArray.size_extract]; omega
  have hmI : (m : Int) ≤ s0.size := by omega
  have HU := Lib.hid (fun u => roomUnpack_any (s0.extract 0 m) n u hss hwf.1 hwf.2)
  have HU' := Lib.hid (fun u => refRoomUnpack_any (s0.extract 0 m) n u hss hwf.1 hwf.2)
  have HP := Lib.hid (fun u hu => roomPack_any (.slice p k cap) l u hu (by omega))
  have HP' := Lib.hid (fun u hu => refRoomPack_any (.slice p k cap) l u hu (by omega))
  clear hl htk w0 w1 w2 hlen hwf hll hm1 hss hm4
  generalize unpE06 (s0.extract 0 m) n = E at *
  generalize unpL06 (s0.extract 0 m) n = L at *
  go_enter Try.func3, Try.ntmps3
  go_wp2_with fail
  refine wp_region_keep (w0 := w) (by kernel_rfl) (by kernel_rfl) (Below.refl _ _) ?_
  repeat (go_big_quiet_step ((first | (go_at_call 5; exact keepSame (HF.out _)))))
  refine wpQuiet_nil ?_
  intro _ hw'
  obtain ⟨x, rfl⟩ := hw'
  have hz := x.below
  generalize x.val = wz at *
  clear x
  have HLz := Lib.hid (HL.out.below hz)
  clear HL
  go_wp2_with fail
  refine (HU.out _).mono ?_
  rintro e w2 ⟨⟨v1, rfl, hx⟩, hb2⟩
  have hw2 := hz.trans (hb2.mono hz.size)
  have HX := Lib.hid hx
  have HL2 := Lib.hid (HLz.out.below hb2)
  clear hx hz hb2 HLz HU
  go_wp2_with fail
  refine (HU'.out _).mono ?_
  rintro e w3 ⟨⟨v2, rfl, hx⟩, hb3⟩
  have hw3 := hw2.trans (hb3.mono hw2.size)
  have HX3 := Lib.hid (HX.out.below hb3); have HY3 := Lib.hid hx
  have HL3 := Lib.hid (HL2.out.below hb3)
  clear hx hw2 hb3 HL2 HU' HX
  go_wp2_with fail
  refine (roomAlive _).mono ?_
  rintro e w4 ⟨rfl, hb4⟩
  have hw4 := hw3.trans (hb4.mono hw3.size)
  have HX4 := Lib.hid (HX3.out.below hb4); have HY4 := Lib.hid (HY3.out.below hb4)
  have HL4 := Lib.hid (HL3.out.below hb4)
  clear hw3 hb4 HL3 HX3 HY3
  go_wp2_with fail
  refine (HP.out _ HL4.out).mono ?_
  rintro e w5 ⟨rfl, hb5⟩
  have hw5 := hw4.trans (hb5.mono hw4.size)
  have HX5 := Lib.hid (HX4.out.below hb5); have HY5 := Lib.hid (HY4.out.below hb5)
  have HL5 := Lib.hid (HL4.out.below hb5)
  clear hw4 hb5 HL4 HX4 HY4
  go_wp2_with fail
  refine (HP'.out _ HL5.out).mono ?_
  rintro e w6 ⟨rfl, hb6⟩
  have hw6 := hw5.trans (hb6.mono hw5.size)
  have HX6 := Lib.hid (HX5.out.below hb6); have HY6 := Lib.hid (HY5.out.below hb6)
  clear hw5 hb6 HL5 HX5 HY5
  generalize packB l = S at *
  go_wp2_with fail
  refine (refSame_any _ _ _ _ _ HX6.out HY6.out).mono ?_
  rintro e w7 ⟨rfl, hb7⟩
  rw [decide_eq_true rfl]
  have hw7 := hw6.trans (hb7.mono hw6.size)
  go_wp2_with fail
  go_ret
  exact ⟨rfl, hw7⟩
end Go.Proofs.Ytdpmdbloopmpdaa.lawRoomPacks
