/- The walk of LexCuts. -/
import Derived.Test.YtpkpbohkdkmoiaaDoorRf19
import Derived.Test.YtpkpbohkdkmoiaaDoorLxD
namespace Go.Proofs.YtpkpbohkdkmoiaaDoor.lawLexCuts
open Go.RowKit
set_option linter.unusedVariables false

set_option maxRecDepth 100000 in
set_option maxHeartbeats 4000000 in
theorem walk (s0 t0 : ByteArray) (w : World) (w0 : s0.size ≤ maxLen) (w1 : t0.size ≤ maxLen) (hE : Errs w) :
    Calls Tryd.prog 3 #[.string s0, .string t0] w fun e w' => e = .returned (.bool true) ∧ Below w.heap.size w w' := by
  have hs0 : s0.size ≤ 9223372036854775807 := w0
  have ht0 : t0.size ≤ 9223372036854775807 := w1
  have hss := lxShortS_size s0
  have hts := lxShortS_size t0
  have HSH := Lib.hid (fun u => lxShort s0 u hs0)
  have HTH := Lib.hid (fun u => lxShort t0 u ht0)
  generalize lxShortS s0 = s at *
  generalize lxShortS t0 = t at *
  have HL := Lib.hid (fun u hu => lxGot s u (by omega) hu)
  have HR := Lib.hid (fun u => rfLex s u (by omega))
  have HN := Lib.hid (fun u hu => lxNumber t u (by omega) hu)
  have HM := Lib.hid (fun u => rfNumber t u (by omega))
  unfold LexGot at HL
  unfold LexPost at HR
  generalize hx : ((numS' t).getD 0) = X at *
  generalize hy : (numS' t).isSome = Y at *
  generalize lexE s = RE at *
  generalize lexAt s = RA at *
  generalize lexToks s = RT at *
  clear hx hy w0 w1
  go_enter Tryd.func3, Tryd.ntmps3
  go_upto_region 2 with (first
    | (go_at_call_of 8 (Value.string s0); refine (HSH.out _).mono ?_; rintro e w2 ⟨rfl, rfl⟩)
    | (go_at_call_of 8 (Value.string t0); refine (HTH.out _).mono ?_; rintro e w2 ⟨rfl, rfl⟩))
  go_wp2_with fail
  refine (HL.out _ hE).mono ?_
  rintro e w1 ⟨v1, rfl, h1, hb1⟩
  go_wp2_with fail
  refine (HR.out _).mono ?_
  rintro e w2 ⟨v2, rfl, h2, hb2⟩
  have hbb2 := hb1.trans (hb2.mono hb1.size)
  have g1 := h1.below hb2
  have g2 := own_tks h2
  go_wp2_with fail
  refine (HN.out _ (hE.keep hbb2)).mono ?_
  rintro e w3 ⟨rfl, hb3⟩
  have hbb3 := hbb2.trans (hb3.mono hbb2.size)
  go_wp2_with fail
  refine (HM.out _).mono ?_
  rintro e w4 ⟨rfl, rfl⟩
  go_wp2_with fail
  refine (lxAlive _ (hE.keep hbb3)).mono ?_
  rintro e w5 ⟨rfl, hb5⟩
  have hbb5 := hbb3.trans (hb5.mono hbb3.size)
  have k1 := (g1.below hb3).below hb5
  have k2 := (g2.below hb3).below hb5
  have hf1 := k1
  have hf2 := k2
  obtain ⟨a1, c1, rfl, _⟩ := k1
  obtain ⟨a2, c2, rfl, _⟩ := k2
  go_wp2_with fail
  refine (rfLike _ _ _ _ hf1 hf2).mono ?_
  rintro e w6 ⟨rfl, hb6⟩
  have HB6 := Lib.hid (hbb5.trans (hb6.mono hbb5.size))
  go_wp2_with fail
  go_ret
  exact ⟨rfl, HB6.out⟩
end Go.Proofs.YtpkpbohkdkmoiaaDoor.lawLexCuts
