/- The walk of LeFills. -/
import Derived.Test.YtblbjmjoiaiimaaDoorTrimMath
import Derived.Test.YtblbjmjoiaiimaaDoorLeAlive
import Derived.Test.YtblbjmjoiaiimaaDoorRowOpen
import Derived.Deep.DeepCutAuto
namespace Go.Proofs.YtblbjmjoiaiimaaDoor.lawLeFills
open Go.RowKit
set_option linter.unusedVariables false

set_option maxRecDepth 100000 in
set_option maxHeartbeats 1000000 in
theorem walk (s0 : ByteArray) (more : Int) (w : World) (w0 : s0.size ≤ maxLen) (w1 : (Lit.int .i64 more).wf = true) :
    Calls Tryd.prog 4 #[.string s0, .int .i64 more] w fun e w' => e = .returned (.bool true) ∧ Below w.heap.size w w' := by
  have hwf := wf_i64 w1
  have hsI : (s0.size : Int) ≤ 9223372036854775807 := by unfold maxLen at w0; omega
  obtain ⟨m, hm, hm1, hm3, hm4⟩ := min_if s0.size 3000 (by omega)
  have hmI : (m : Int) ≤ s0.size := by omega
  have hmm : min (s0.size : Int) 3000 = m := by omega
  have hSz := extract0_size s0 m hm1
  clear w0 w1 hm4
  go_enter Tryd.func4, Tryd.ntmps4
  go_upto_region 2 with fail
  generalize s0.extract 0 m = S at *
  go_cut [1] (fun v wx => ∃ r : Nat, v = .int .i64 r ∧ r ≤ 3000 ∧ w = wx)
  case first =>
    go_wp2_with fail
    all_goals go_meet
    all_goals first
      | exact ⟨(min (max more 0) 3000).toNat, by rw [Int.toNat_of_nonneg (by omega)], by omega, rfl⟩
      | exact ⟨0, rfl, by omega, rfl⟩
      | exact ⟨3000, rfl, by omega, rfl⟩
      | exact ⟨more.toNat, by rw [show (more.toNat : Int) = more from by omega], by omega, rfl⟩
  case rest =>
  obtain ⟨r, rfl, hr, rfl⟩ := hcut
  have hrI : (r : Int) ≤ 3000 := by omega
  have hSI : (S.size : Int) = m := by omega
  have hle := trimS_le S
  have hpre := trimS_pre S
  have hlast := trimS_last S
  have htw := trimS_twice S
  have hfill := trimS_fill S
  have hzs := trimS_zeros S r
  have H1 := Lib.hid (fun u => leTrim_any S u (by omega))
  have H2 := Lib.hid (fun u => leTrim_any (trimS S) u (by omega))
  rw [htw] at H2
  have H3 := Lib.hid (fun u => leFill_any (trimS S) (m : Nat) u (by omega) (by omega) (by omega))
  obtain ⟨g1, g2⟩ := fillS_ok (trimS S) m (by omega)
  rw [g1, g2, ← hSz, hfill, hSz] at H3
  have H4 := Lib.hid (fun u => leFill_any S (m + r : Nat) u (by omega) (by omega) (by omega))
  obtain ⟨g3, g4⟩ := fillS_ok S (m + r) (by omega)
  rw [g3, g4, show m + r - S.size = r from by omega, show ((m + r : Nat) : Int) = (m : Int) + r from by omega] at H4
  have hBz : (S ++ zerosB r).size = m + r := by rw [ByteArray.size_append, zerosB_size]; omega
  have H5 := Lib.hid (fun u => leTrim_any (S ++ zerosB r) u (by omega))
  rw [hzs] at H5
  obtain ⟨X, hX⟩ : ∃ X, X = S ++ ⟨#[120]⟩ := ⟨_, rfl⟩
  have hXz : X.size = m + 1 := by rw [hX, ByteArray.size_append, hSz]; rfl
  have hadd := fun u => add_run (P := Tryd.prog) S ⟨#[120]⟩ X hX (by show S.size + 1 ≤ _; omega) u
  have H6 := Lib.hid (fun u => leFill_any X (m : Nat) u (by omega) (by omega) (by omega))
  obtain ⟨g5, g6⟩ := fillS_bad X (m : Nat) (by omega)
  rw [g5, g6] at H6
  clear hm hm1 hm3 htw hfill hzs g1 g2 g3 g4 g5 g6 hX hXz hwf
  generalize S ++ zerosB r = B at *
  have hBI : (B.size : Int) = (m : Int) + r := by omega
  generalize trimS S = T at *
  have hTI : (T.size : Int) ≤ m := by omega
  clear hBz
  go_wp2_with fail
  refine (H1.out _).mono ?_
  rintro e w2 ⟨rfl, rfl⟩
  go_wp2_with fail
  refine (H3.out _).mono ?_
  rintro e w2 ⟨rfl, hw2⟩
  go_wp2_with fail
  refine (keep hw2 (H4.out _)).mono ?_
  rintro e w3 ⟨rfl, hw3⟩
  clear hw2
  go_wp2_with fail
  refine (H5.out _).mono ?_
  rintro e w4 ⟨rfl, rfl⟩
  go_wp2_with fail
  refine (H2.out _).mono ?_
  rintro e w4 ⟨rfl, rfl⟩
  go_wp2_with fail
  refine (keep hw3 (H6.out _)).mono ?_
  rintro e w4 ⟨rfl, hw4⟩
  clear hw3
  go_wp2_with fail
  refine (keep hw4 (leAlive _)).mono ?_
  rintro e w5 ⟨rfl, hw5⟩
  clear hw4
  clear H1 H2 H3 H4 H5 H6 hadd hBI
  rcases Nat.eq_zero_or_pos T.size with h0 | h0
  · obtain rfl : T = ⟨#[]⟩ := by apply ba_ext; exact List.eq_nil_of_length_eq_zero (by rw [ba_len]; exact h0)
    have hp : S.extract 0 0 = ⟨#[]⟩ := hpre
    clear hpre hlast hle h0
    go_wp2_with fail
    go_ret
    exact ⟨rfl, hw5⟩
  · obtain ⟨k, hk⟩ : ∃ k, T.size = k + 1 := ⟨T.size - 1, by omega⟩
    have hkl : k < T.size := by omega
    have hb := hlast.resolve_left (by omega)
    rw [hk, show k + 1 - 1 = k from rfl, show at0 T k = T[k] from getB T k hkl] at hb
    have hbn : (T[k]'hkl).toNat ≠ 0 := fun h => hb (UInt8.toNat_inj.1 h)
    have hbb : (((T[k]'hkl).toNat : Int) != 0) = true := by simp; exact fun h => hbn h
    have hne1 : ¬ T.toList = [] := fun h => by
      rw [ByteArray.toList_eq] at h
      have := ba_len T
      rw [h] at this
      simp at this
      omega
    have hne2 : T.toList.isEmpty = false := by cases h : T.toList with | nil => exact absurd h hne1 | cons _ _ => rfl
    have hTk : (T.size : Int) = (k : Int) + 1 := by omega
    have hkm : (k : Int) + 1 ≤ m := by omega
    rw [hk] at hpre
    have hpI : S.extract 0 (k + 1) = T := hpre
    clear hlast hle h0 hb hpre
    go_wp2_with fail
    go_ret
    exact ⟨rfl, hw5⟩
end Go.Proofs.YtblbjmjoiaiimaaDoor.lawLeFills
