/- The walk of LeBack. -/
import Derived.Test.YtblbjmjoiaiimaaLeAlive
import Derived.Test.YtblbjmjoiaiimaaLePlain
import Derived.Deep.QuietTactic
import Derived.BigQuiet
import Derived.Deep.DeepCutAuto
namespace Go.Proofs.Ytblbjmjoiaiimaa.lawLeBack
open Go.RowKit
set_option linter.unusedVariables false

theorem lt_extract0 (s : ByteArray) (k : Int) (h0 : 0 ≤ k) (h : k.toNat ≤ s.size) : (s.extract 0 k.toNat).size = k.toNat := by
  rw [ByteArray.size_extract]; omega

set_option maxHeartbeats 1000000 in
set_option maxRecDepth 100000 in
theorem walk (a0 a1 : Int) (a2 a3 : ByteArray) (w : World) (w0 : (Lit.int .u64 a0).wf = true) (w1 : (Lit.int .i64 a1).wf = true) (w2 : a2.size ≤ maxLen) (w3 : a3.size ≤ maxLen) :
    Calls Try.prog 5 #[.int .u64 a0, .int .i64 a1, .string a2, .string a3] w fun e w' => e = .returned (.bool true) ∧ Below w.heap.size w w' := by
  have hs2 : a2.size ≤ 9223372036854775807 := w2
  have hs3 : a3.size ≤ 9223372036854775807 := w3
  have h0 : 0 ≤ a0 ∧ a0 ≤ 18446744073709551615 := by simpa [Lit.wf, IntKind.min, IntKind.max, IntKind.signed, IntKind.bits] using w0
  have h3 : -9223372036854775808 ≤ a1 ∧ a1 ≤ 9223372036854775807 := by simpa [Lit.wf, IntKind.min, IntKind.max, IntKind.signed, IntKind.bits] using w1
  obtain ⟨h00, h01⟩ := h0
  obtain ⟨h30, h31⟩ := h3
  clear w0 w1 w2 w3
  go_enter Try.func5, Try.ntmps5
  go_upto_region 1 with fail
  go_cut [2, 3] (fun x y wx => ∃ s t : ByteArray, x = .string s ∧ y = .string t ∧ s.size ≤ 3000 ∧ t.size ≤ 3000 ∧ Below w.heap.size w wx)
  case first =>
    go_quiet (fail)
    go_wp2_with fail
    all_goals go_meet
    all_goals exact ⟨_, _, rfl, rfl, by first | omega | (rw [ByteArray.size_extract]; omega), by first | omega | (rw [ByteArray.size_extract]; omega), below_drewN (Below.refl _ _) _⟩
  case rest =>
  obtain ⟨s, t, rfl, rfl, k2, k3, hb0⟩ := hcut
  have k2i : (s.size : Int) ≤ 3000 := by omega
  have k3i : (t.size : Int) ≤ 3000 := by omega
  have q8 := putS_size_le a0 a1
  have q8i : ((putS a0 a1).size : Int) ≤ 8 := by omega
  have q9 := putS_size_le (getN s 0 a1) a1
  have q9i : ((putS (getN s 0 a1) a1).size : Int) ≤ 8 := by omega
  have HT := Lib.hid (cut_text (textL s ++ textL t) s [] (textL t).data.toList (by omega) (by simp))
  have HU := Lib.hid (cut_text (textL s ++ textL t) t (textL s).data.toList [] (by omega) (by simp))
  have x2 := textL_size s
  have x3 := textL_size t
  have X2 := Lib.hid x2; have X3 := Lib.hid x3
  have x2i : ((textL s).size : Int) ≤ 3002 := by omega
  have x3i : ((textL t).size : Int) ≤ 3002 := by omega
  clear x2 x3
  have hEs : textS s = textL s ∧ textE s = 0 := by simp [textS, textE, show s.size ≤ 65535 from by omega]
  have hEt : textS t = textL t ∧ textE t = 0 := by simp [textS, textE, show t.size ≤ 65535 from by omega]
  have HS := Lib.hid hEs; have HEt := Lib.hid hEt
  clear hEs hEt
  go_wp2_with fail
  refine (lePut_any a0 a1 _ h00 h01).mono ?_
  rintro e w1 ⟨rfl, hb1⟩
  have hb1 := hb0.trans (hb1.mono hb0.size)
  clear hb0
  generalize hE : putE a0 a1 = E
  have HE := Lib.hid hE
  clear hE
  go_upto_if 46 with fail
  go_cut [] (fun wx => Below w.heap.size w wx)
  case first =>
    cases hp : putOk a0 a1
    case true =>
      obtain ⟨hge, hgn, hgt⟩ := get_put t a0 a1 hp h00
      have hpe : E = 0 := by rw [← HE.out]; simp [putE, hp]
      have hps := putS_size hp
      obtain ⟨p1, p8, -⟩ := putOk_parts hp
      have hpsi : ((putS a0 a1).size : Int) = a1 := by omega
      subst hpe
      have HGE := Lib.hid hge; have HGN := Lib.hid hgn; have HGT := Lib.hid hgt; have HPS := Lib.hid hpsi
      clear hge hgn hgt hps hp hpsi HE
      go_wp2_with fail
      refine (leGet_any _ _ _ _ (by rw [ByteArray.size_append]; omega) (by omega)).mono ?_
      rintro e w2 ⟨rfl, rfl⟩
      rw [HGE.out, HGN.out, HGT.out]
      have hpsi := HPS.out
      clear HGE HGN HGT HPS
      go_wp2_with fail
      go_meet
      exact hb1
    case false =>
      have hpe : E = 1 := by rw [← HE.out]; simp [putE, hp]
      subst hpe
      clear hp HE
      go_wp2_with fail
      go_meet
      exact hb1
  case rest =>
  clear hb1
  go_wp2_with fail
  refine (leGet_any s 0 a1 _ (by omega) (by omega)).mono ?_
  rintro e w2 ⟨rfl, rfl⟩
  generalize hE : getE s 0 a1 = G
  have HG := Lib.hid hE
  clear hE HE
  go_upto_if 87 with fail
  go_cut [] (fun wx => Below w.heap.size w wx)
  case first =>
    by_cases hg : getE s 0 a1 = 0
    case pos =>
      have hg0 : G = 0 := by rw [← HG.out]; exact hg
      subst hg0
      obtain ⟨hok, hps, hle⟩ := put_get s a1 hg
      have hpe : putE (getN s 0 a1) a1 = 0 := by simp [putE, hok]
      have n0 := getN_nonneg s 0 a1
      have n1 := getN_le s 0 a1
      obtain ⟨g1, g8, -, gk⟩ := getE_ok hg
      have hsz := putS_size hok
      have hA : s.extract 0 a1.toNat = putS (getN s 0 a1) a1 := hps.symm
      have hAi : ((putS (getN s 0 a1) a1).size : Int) = a1 := by omega
      have n2 := fun u : World => lePut_any _ a1 u n0 n1
      rw [hpe] at n2
      have N2 := Lib.hid n2
      have HA := Lib.hid hA
      have HAi := Lib.hid hAi
      clear hg hok hps hpe hsz hle HG n2 hA hAi
      generalize putS (getN s 0 a1) a1 = A at *
      go_wp2_with fail
      refine (N2.out _).mono ?_
      rintro e w3 ⟨rfl, hb3⟩
      clear N2
      have hA := HA.out
      have hAi := HAi.out
      go_wp2_with fail
      go_meet
      exact hcut.trans (hb3.mono hcut.size)
    case neg =>
      have hgq : (G == 0) = false := by rw [← HG.out]; simpa using hg
      clear hg HG
      go_wp2_with fail
      go_meet
      exact hcut
  case rest =>
  clear HG
  go_wp2_with fail
  refine (leText_any s _ (by omega)).mono ?_
  rintro e w3 ⟨rfl, hb3⟩
  rw [HS.out.1, HS.out.2]
  go_wp2_with fail
  refine (leText_any t _ (by omega)).mono ?_
  rintro e w4 ⟨rfl, hb4⟩
  rw [HEt.out.1, HEt.out.2]
  have hbA : Below w.heap.size w w4 := (hcut.trans (hb3.mono hcut.size)).trans (hb4.mono (Nat.le_trans hcut.size hb3.size))
  clear hcut hb3 hb4
  go_wp2_with fail
  refine (leCut_any _ 0 _ (by rw [ByteArray.size_append]; omega) (by omega)).mono ?_
  rintro e w5 ⟨rfl, rfl⟩
  have t0 := HT.out
  simp only [List.length_nil, Int.natCast_zero, Int.zero_add] at t0
  rw [t0.1, t0.2.1, t0.2.2]
  have u0 := HU.out
  rw [ba_len, X2.out] at u0
  have u1 : (((2 + s.size : Nat) : Int)) = 2 + (s.size : Int) := by omega
  rw [u1] at u0
  have U0 := Lib.hid u0
  clear t0 u0 u1 HT HU
  go_wp2_with fail
  refine (leCut_any _ (2 + (s.size : Int)) _ (by rw [ByteArray.size_append]; omega) (by omega)).mono ?_
  rintro e w5 ⟨rfl, rfl⟩
  rw [U0.out.1, U0.out.2.1, U0.out.2.2]
  go_wp2_with fail
  refine (leAlive _).mono ?_
  rintro e w6 ⟨rfl, hb6⟩
  have x2 := X2.out
  have x3 := X3.out
  have y2 : ((textL s).size : Int) = 2 + s.size := by omega
  have y3 : ((textL t).size : Int) = 2 + t.size := by omega
  clear x2 x3 X2 X3
  go_wp2
  go_ret
  refine ⟨?_, hbA.trans (hb6.mono hbA.size)⟩
  have e : (2 + (s.size : Int) + 2 + (t.size : Int) == 2 + (s.size : Int) + (2 + (t.size : Int))) = true := beq_iff_eq.2 (by omega)
  exact congrArg (fun b => Ending.returned (Value.bool b)) e
end Go.Proofs.Ytblbjmjoiaiimaa.lawLeBack
