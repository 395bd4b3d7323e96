/- The walk of RoomCalls. -/
import Derived.Test.YtbndhegmfnfahaaRef06G
import Derived.Test.YtbndhegmfnfahaaRoomI
import Derived.Outline
namespace Go.Proofs.Ytbndhegmfnfahaa.lawRoomCalls
open Go.RowKit
set_option linter.unusedVariables false

set_option maxRecDepth 100000 in
set_option maxHeartbeats 1000000 in
theorem walk (v0 : Value) (l0 : List Bool) (m : Int) (v2 : Value) (s0 : List Int) (w : World) (w0 : IsBools w v0 l0) (w1 : (Lit.int .i64 m).wf = true) (w2 : IsInts w v2 s0) :
    Calls Try.prog 8 #[v0, .int .i64 m, v2] w fun e w' => e = .returned (.bool true) ∧ Below w.heap.size w w' := by
  obtain ⟨p, len, cap, rfl, hlen, hc1, hc2, htk⟩ := w0.take
  have hl := htk (min len 300) (Nat.min_le_left _ _)
  have HF := Lib.hid (fun u => roomFew_at p len cap u hc1 hc2)
  generalize min len 300 = n at *
  generalize l0.take n = l at *
  have HL := Lib.hid hl
  obtain ⟨hi, hbd⟩ := w2
  obtain ⟨q, len2, cap2, rfl, hlen2, hc12, hc22, htk2⟩ := hi.take
  obtain ⟨k, hk, hk1, hk3, hk4⟩ := min_if len2 30 (by omega)
  have hkm : min (len2 : Int) 30 = k := by omega
  have hs2 := htk2 k hk1
  have HS : Hid (IsInts w (.slice q k cap2) (s0.take k)) := ⟨hs2, fun i hi => hbd i (List.mem_of_mem_take hi)⟩
  generalize s0.take k = secs at *
  have hkI : (k : Int) ≤ cap2 := by omega
  have hc2I : (cap2 : Int) ≤ 9223372036854775807 := by omega
  have hl2I : (len2 : Int) ≤ 9223372036854775807 := by omega
  have HT := Lib.hid (fun u hu => roomTake_any (.slice p n cap) l m u hu)
  have HT' := Lib.hid (fun u hu => refTake_any (.slice p n cap) l m u hu)
  have HG := Lib.hid (fun u hu hu2 => roomGive_any (.slice p n cap) (.slice q k cap2) l secs u hu hu2)
  have HG' := Lib.hid (fun u hu hu2 => refGive_any (.slice p n cap) (.slice q k cap2) l secs u hu hu2)
  clear hl htk w0 w1 hlen hi hbd hlen2 htk2 hs2 hk4
  generalize takeE l m = E at *
  generalize takeR l m = R at *
  generalize giveE l secs = E2 at *
  generalize giveL l secs = L2 at *
  go_enter Try.func8, Try.ntmps8
  go_wp2_with fail
  refine wp_region_keep (w0 := w) (by kernel_rfl) (by kernel_rfl) (Below.refl _ _) ?_
  repeat (go_big_quiet_step ((first | (go_at_call 24; exact keepSame (HF.out _)))))
  refine wpQuiet_nil ?_
  intro _ hw'
  obtain ⟨x, rfl⟩ := hw'
  have hz := x.below
  generalize x.val = wz at *
  clear x
  have HLz := Lib.hid (HL.out.below hz); have HSz := Lib.hid (show IsInts wz (.slice q k cap2) secs from ⟨HS.out.1.below hz, HS.out.2⟩)
  clear HL HS
  go_wp2_with fail
  refine (HT.out _ HLz.out).mono ?_
  rintro e w2 ⟨v1, v2, rfl, hx, hy, hb2, _⟩
  have hw2 := hz.trans (hb2.mono hz.size)
  have HX := Lib.hid hx; have HY := Lib.hid hy
  have HL2 := Lib.hid (HLz.out.below hb2); have HS2 := Lib.hid (show IsInts w2 (.slice q k cap2) secs from ⟨HSz.out.1.below hb2, HSz.out.2⟩)
  clear hx hy hz hb2 HLz HSz HT
  go_wp2_with fail
  refine (HT'.out _ HL2.out).mono ?_
  rintro e w3 ⟨v3, v4, rfl, hx, hy, hb3, _⟩
  have hw3 := hw2.trans (hb3.mono hw2.size)
  have HX3 := Lib.hid (HX.out.below hb3); have HY3 := Lib.hid (HY.out.below hb3); have HA3 := Lib.hid hx; have HB3 := Lib.hid hy
  have HL3 := Lib.hid (HL2.out.below hb3); have HS3 := Lib.hid (show IsInts w3 (.slice q k cap2) secs from ⟨HS2.out.1.below hb3, HS2.out.2⟩)
  clear hx hy hw2 hb3 HL2 HS2 HT' HX HY
  go_wp2_with fail
  refine (HG.out _ HL3.out HS3.out).mono ?_
  rintro e w4 ⟨v5, rfl, hc, hb4⟩
  have hw4 := hw3.trans (hb4.mono hw3.size)
  have HX4 := Lib.hid (HX3.out.below hb4); have HY4 := Lib.hid (HY3.out.below hb4); have HA4 := Lib.hid (HA3.out.below hb4); have HB4 := Lib.hid (HB3.out.below hb4); have HC4 := Lib.hid hc
  have HL4 := Lib.hid (HL3.out.below hb4); have HS4 := Lib.hid (show IsInts w4 (.slice q k cap2) secs from ⟨HS3.out.1.below hb4, HS3.out.2⟩)
  clear hc hw3 hb4 HL3 HS3 HG HX3 HY3 HA3 HB3
  go_wp2_with fail
  refine (HG'.out _ HL4.out HS4.out).mono ?_
  rintro e w5 ⟨v6, rfl, hd, hb5⟩
  have hw5 := hw4.trans (hb5.mono hw4.size)
  have HX5 := Lib.hid (HX4.out.below hb5); have HY5 := Lib.hid (HY4.out.below hb5); have HA5 := Lib.hid (HA4.out.below hb5); have HB5 := Lib.hid (HB4.out.below hb5); have HC5 := Lib.hid (HC4.out.below hb5); have HD5 := Lib.hid hd
  clear hd hw4 hb5 HL4 HS4 HG' HX4 HY4 HA4 HB4 HC4
  go_wp2_with fail
  refine (roomAlive _).mono ?_
  rintro e w6 ⟨rfl, hb6⟩
  have hw6 := hw5.trans (hb6.mono hw5.size)
  have HX6 := Lib.hid (HX5.out.below hb6); have HY6 := Lib.hid (HY5.out.below hb6); have HA6 := Lib.hid (HA5.out.below hb6); have HB6 := Lib.hid (HB5.out.below hb6); have HC6 := Lib.hid (HC5.out.below hb6); have HD6 := Lib.hid (HD5.out.below hb6)
  clear hw5 hb6 HX5 HY5 HA5 HB5 HC5 HD5
  go_wp2_with fail
  refine (refSame_any _ _ _ _ _ HX6.out HA6.out).mono ?_
  rintro e w7 ⟨rfl, hb7⟩
  rw [decide_eq_true rfl]
  have hw7 := hw6.trans (hb7.mono hw6.size)
  have HY7 := Lib.hid (HY6.out.below hb7); have HB7 := Lib.hid (HB6.out.below hb7); have HC7 := Lib.hid (HC6.out.below hb7); have HD7 := Lib.hid (HD6.out.below hb7)
  clear hw6 hb7 HX6 HY6 HA6 HB6 HC6 HD6
  go_wp2_with fail
  refine (refSameInts_any _ _ _ _ _ HY7.out HB7.out).mono ?_
  rintro e w8 ⟨rfl, hb8⟩
  rw [decide_eq_true rfl]
  have hw8 := hw7.trans (hb8.mono hw7.size)
  have HC8 := Lib.hid (HC7.out.below hb8); have HD8 := Lib.hid (HD7.out.below hb8)
  clear hw7 hb8 HY7 HB7 HC7 HD7
  go_wp2_with fail
  refine (refSame_any _ _ _ _ _ HC8.out HD8.out).mono ?_
  rintro e w9 ⟨rfl, hb9⟩
  rw [decide_eq_true rfl]
  have hw9 := hw8.trans (hb9.mono hw8.size)
  go_wp2_with fail
  go_ret
  exact ⟨rfl, hw9⟩
end Go.Proofs.Ytbndhegmfnfahaa.lawRoomCalls
