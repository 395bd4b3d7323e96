/- The walk of LeWide. -/
import Derived.Test.YtblbjmjoiaiimaaDoorTrimMath
import Derived.Test.YtblbjmjoiaiimaaDoorLeAlive
import Derived.Test.YtblbjmjoiaiimaaDoorLeGet
import Derived.Test.YtblbjmjoiaiimaaDoorRowOpen
import Derived.Deep.DeepCutAuto
namespace Go.Proofs.YtblbjmjoiaiimaaDoor.lawLeWide
open Go.RowKit
set_option linter.unusedVariables false

theorem putL_none (b : Nat) : putL 0 b = List.replicate b 0 := by
  induction b with
  | zero => rfl
  | succ b ih => rw [putL, Nat.zero_div, ih]; rfl
theorem putL_more : ∀ (a b n : Nat), a ≤ b → n < 256 ^ a → putL n b = putL n a ++ List.replicate (b - a) 0
  | 0, b, n, _, h => by
    obtain rfl : n = 0 := by simpa using h
    rw [putL_none]; rfl
  | a + 1, 0, n, h, _ => by omega
  | a + 1, b + 1, n, h, hn => by
    have : n / 256 < 256 ^ a := by rw [Nat.pow_succ] at hn; omega
    rw [putL, putL, putL_more a b (n / 256) (by omega) this, Nat.add_sub_add_right]
    rfl
theorem put_wide (n a b : Nat) (h1 : 1 ≤ a) (h2 : a ≤ b) (h3 : b ≤ 8) (h : putOk n a = true) :
    putE n a = 0 ∧ putE n b = 0 ∧ putS n b = putS n a ++ zerosB (b - a) ∧ (putS n b).size = b := by
  have hp : n < 256 ^ a := by have := (of_decide_eq_true h).2.2; simpa using this
  have hb : putOk n b = true := by
    refine decide_eq_true ⟨by omega, by omega, ?_⟩
    simp only [Int.toNat_natCast]
    exact Nat.lt_of_lt_of_le hp (Nat.pow_le_pow_right (by omega) h2)
  have e1 : putS n a = ⟨(putL n a).toArray⟩ := by simp [putS, h]
  have e2 : putS n b = ⟨(putL n b).toArray⟩ := by simp [putS, hb]
  refine ⟨by simp [putE, h], by simp [putE, hb], ?_, ?_⟩
  · apply ba_ext
    rw [ba_append_list, zerosB_list, e1, e2]
    exact putL_more a b n h2 hp
  · rw [e2, ba_size, putL_length]
theorem get_suffix (s : ByteArray) (p k : Nat) (hp : p ≤ s.size) (h1 : 1 ≤ k) (h8 : k ≤ 8) :
    getE (s.extract p s.size) 0 k = getE s p k ∧ getN (s.extract p s.size) 0 k = getN s p k ∧ (getE s p k = 0 → getT s p k = getT (s.extract p s.size) 0 k + p) := by
  have hsz : (s.extract p s.size).size = s.size - p := by rw [ByteArray.size_extract]; omega
  have hE : getE (s.extract p s.size) 0 k = getE s p k := by
    unfold getE
    have c1 : 1 ≤ (k : Int) ∧ (k : Int) ≤ 8 ∧ (0 : Int) ≤ 0 := by omega
    have c2 : 1 ≤ (k : Int) ∧ (k : Int) ≤ 8 ∧ (0 : Int) ≤ p := by omega
    rw [if_pos c1, if_pos c2]
    by_cases h : (p : Int) + k ≤ s.size
    · rw [if_pos h, if_pos (by omega)]
    · rw [if_neg h, if_neg (by omega)]
  refine ⟨hE, ?_, fun h => ?_⟩
  · unfold getN
    rw [hE]
    by_cases h : getE s p k = 0
    · rw [if_pos h, if_pos h]
      congr 2
      unfold cutL
      rw [ba_extract_list]
      simp only [Int.toNat_natCast, Int.toNat_zero, List.drop_zero]
      have ht : (s.data.toList.drop p).take (s.size - p) = s.data.toList.drop p := List.take_of_length_le (by rw [List.length_drop, ba_len]; exact Nat.le_refl _)
      rw [ht]
    · rw [if_neg h, if_neg h]
  · unfold getT
    rw [hE, if_pos h, if_pos h]
    omega

set_option maxRecDepth 100000 in
set_option maxHeartbeats 400000 in
theorem walk (n size more : Int) (s0 : ByteArray) (at1 : Int) (w : World) (w0 : (Lit.int .u64 n).wf = true) (w1 : (Lit.int .i64 size).wf = true) (w2 : (Lit.int .i64 more).wf = true) (w3 : s0.size ≤ maxLen) (w4 : (Lit.int .i64 at1).wf = true) :
    Calls Tryd.prog 5 #[.int .u64 n, .int .i64 size, .int .i64 more, .string s0, .int .i64 at1] w fun e w' => e = .returned (.bool true) ∧ Below w.heap.size w w' := by
  have hn := wf_u64 w0
  have hwa := wf_i64 w1; have hwb := wf_i64 w2; have hwc := wf_i64 w4
  obtain ⟨N, rfl⟩ := Int.eq_ofNat_of_zero_le hn.1
  have hsI : (s0.size : Int) ≤ 9223372036854775807 := by unfold maxLen at w3; omega
  obtain ⟨m, hm, hm1, hm3, hm4⟩ := min_if s0.size 3000 (by omega)
  have hmI : (m : Int) ≤ s0.size := by omega
  have hmm : min (s0.size : Int) 3000 = m := by omega
  have hSz := extract0_size s0 m hm1
  clear w0 w1 w2 w3 w4 hm4
  go_enter Tryd.func5, Tryd.ntmps5
  go_upto_region 2 with fail
  generalize s0.extract 0 m = S at *
  go_cut [1, 2] (fun a b wx => ∃ A R : Nat, a = .int .i64 A ∧ 1 ≤ A ∧ A ≤ 8 ∧ b = .int .i64 R ∧ R ≤ 8 ∧ w = wx)
  case first =>
    go_wp2_with fail
    all_goals go_meet
    all_goals exact ⟨(min (max size 1) 8).toNat, (min (max more 0) 8).toNat, by rw [Int.toNat_of_nonneg (by omega)], by omega, by omega, by rw [Int.toNat_of_nonneg (by omega)], by omega, rfl⟩
  case rest =>
  obtain ⟨A, R, rfl, hA1, hA8, rfl, hR, rfl⟩ := hcut
  have hAI : (A : Int) ≤ 8 := by omega
  have hRI : (R : Int) ≤ 8 := by omega
  have hSI : (S.size : Int) ≤ 3000 := by omega
  obtain ⟨B, hB, hB1, hB2, hB3⟩ := min_if (A + R) 8 (by omega)
  rw [show ((A + R : Nat) : Int) = (A : Int) + R from by omega] at hB
  have hBm : min ((A : Int) + R) 8 = B := by omega
  have hAB : A ≤ B := by omega
  have HP := Lib.hid (fun u => lePut_any N (A : Nat) u hn.1 hn.2)
  have HQ := Lib.hid (fun u => lePut_any N (B : Nat) u hn.1 hn.2)
  clear hm hmm hwa hwb
  cases hok : putOk (N : Int) (A : Nat)
  · have he : putE (N : Int) (A : Nat) = 1 := by simp [putE, hok]
    rw [he] at HP
    generalize putE (N : Int) (B : Nat) = E at *
    generalize putS (N : Int) (B : Nat) = X at *
    generalize putS (N : Int) (A : Nat) = Y at *
    clear hok he hB3
    go_wp2_with fail
    refine (HP.out _).mono ?_
    rintro e w2 ⟨rfl, hw2⟩
    go_wp2_with fail
    refine (keep hw2 (HQ.out _)).mono ?_
    rintro e w3 ⟨rfl, hw3⟩
    clear hw2
    go_wp2_with fail
    refine (keep hw3 (leAlive _)).mono ?_
    rintro e w5 ⟨rfl, hw5⟩
    clear hw3
    go_upto_region 7 with fail
    go_cut [4] (fun v wx => ∃ p : Nat, v = .int .i64 p ∧ p ≤ S.size ∧ w5 = wx)
    case first =>
      go_wp2_with fail
      all_goals go_meet
      all_goals exact ⟨(min (max at1 0) m).toNat, by rw [Int.toNat_of_nonneg (by omega)], by omega, rfl⟩
    case rest =>
    obtain ⟨p, rfl, hp, rfl⟩ := hcut
    have hpI : (p : Int) ≤ S.size := by omega
    have hpm : (p : Int) ≤ m := by omega
    have hSm : (S.size : Int) = m := by omega
    obtain ⟨f1, f2, f3⟩ := get_suffix S p A (by omega) hA1 hA8
    rw [hSz] at f1 f2 f3
    have hxs : (S.extract p m).size ≤ 3000 := by rw [ByteArray.size_extract]; omega
    have HG := Lib.hid (fun u => leGet_any S (p : Nat) (A : Nat) u (by omega) (by omega))
    have HH := Lib.hid (fun u => leGet_any (S.extract p m) 0 (A : Nat) u (by omega) (by omega))
    rw [f1, f2] at HH
    have hTb : getE S (p : Nat) (A : Nat) = 0 → (0 : Int) ≤ getT (S.extract p m) 0 (A : Nat) ∧ getT (S.extract p m) 0 (A : Nat) ≤ 3008 := fun h => by
      unfold getT; split <;> omega
    generalize getE S (p : Nat) (A : Nat) = F at *
    generalize getN S (p : Nat) (A : Nat) = G at *
    generalize getT S (p : Nat) (A : Nat) = U at *
    generalize getT (S.extract p m) 0 (A : Nat) = V at *
    clear f1 f2 HP HQ hxs
    by_cases hF : F = 0
    · have hU := f3 hF
      obtain ⟨b1, b2⟩ := hTb hF
      subst hF
      clear f3 hTb
      subst hU
      go_wp2_with fail
      refine (HG.out _).mono ?_
      rintro e w6 ⟨rfl, rfl⟩
      go_wp2_with fail
      refine (HH.out _).mono ?_
      rintro e w6 ⟨rfl, rfl⟩
      go_wp2_with fail
      go_ret
      exact ⟨by simp, hw5⟩
    · clear f3 hTb
      go_wp2_with fail
      refine (HG.out _).mono ?_
      rintro e w6 ⟨rfl, rfl⟩
      go_wp2_with fail
      refine (HH.out _).mono ?_
      rintro e w6 ⟨rfl, rfl⟩
      go_wp2_with fail
      go_ret
      exact ⟨by simp, hw5⟩
  · obtain ⟨g1, g2, g3, g4⟩ := put_wide N A B hA1 hAB (by omega) hok
    rw [g1] at HP
    rw [g2] at HQ
    have htz := trimS_zeros (putS (N : Int) (A : Nat)) (B - A)
    rw [← g3] at htz
    have hsY : (putS (N : Int) (A : Nat)).size ≤ B := by
      have := congrArg ByteArray.size g3
      rw [ByteArray.size_append, g4] at this
      omega
    generalize putS (N : Int) (B : Nat) = X at *
    generalize putS (N : Int) (A : Nat) = Y at *
    have HX := Lib.hid (fun u => leTrim_any X u (by omega))
    have HY := Lib.hid (fun u => leTrim_any Y u (by omega))
    rw [htz] at HX
    generalize trimS Y = T at *
    have hXI : (X.size : Int) = B := by omega
    clear hok g1 g2 g3 g4 htz hsY hB3
    go_wp2_with fail
    refine (HP.out _).mono ?_
    rintro e w2 ⟨rfl, hw2⟩
    go_wp2_with fail
    refine (keep hw2 (HQ.out _)).mono ?_
    rintro e w3 ⟨rfl, hw3⟩
    clear hw2
    go_wp2_with fail
    refine (HY.out _).mono ?_
    rintro e w4 ⟨rfl, rfl⟩
    go_wp2_with fail
    refine (HX.out _).mono ?_
    rintro e w4 ⟨rfl, rfl⟩
    go_wp2_with fail
    refine (keep hw3 (leAlive _)).mono ?_
    rintro e w5 ⟨rfl, hw5⟩
    clear hw3
    go_upto_region 7 with fail
    go_cut [4] (fun v wx => ∃ p : Nat, v = .int .i64 p ∧ p ≤ S.size ∧ w5 = wx)
    case first =>
      go_wp2_with fail
      all_goals go_meet
      all_goals exact ⟨(min (max at1 0) m).toNat, by rw [Int.toNat_of_nonneg (by omega)], by omega, rfl⟩
    case rest =>
    obtain ⟨p, rfl, hp, rfl⟩ := hcut
    have hpI : (p : Int) ≤ S.size := by omega
    have hpm : (p : Int) ≤ m := by omega
    have hSm : (S.size : Int) = m := by omega
    obtain ⟨f1, f2, f3⟩ := get_suffix S p A (by omega) hA1 hA8
    rw [hSz] at f1 f2 f3
    have hxs : (S.extract p m).size ≤ 3000 := by rw [ByteArray.size_extract]; omega
    have HG := Lib.hid (fun u => leGet_any S (p : Nat) (A : Nat) u (by omega) (by omega))
    have HH := Lib.hid (fun u => leGet_any (S.extract p m) 0 (A : Nat) u (by omega) (by omega))
    rw [f1, f2] at HH
    have hTb : getE S (p : Nat) (A : Nat) = 0 → (0 : Int) ≤ getT (S.extract p m) 0 (A : Nat) ∧ getT (S.extract p m) 0 (A : Nat) ≤ 3008 := fun h => by
      unfold getT; split <;> omega
    generalize getE S (p : Nat) (A : Nat) = F at *
    generalize getN S (p : Nat) (A : Nat) = G at *
    generalize getT S (p : Nat) (A : Nat) = U at *
    generalize getT (S.extract p m) 0 (A : Nat) = V at *
    clear f1 f2 HP HQ hxs
    by_cases hF : F = 0
    · have hU := f3 hF
      obtain ⟨b1, b2⟩ := hTb hF
      subst hF
      clear f3 hTb
      subst hU
      go_wp2_with fail
      refine (HG.out _).mono ?_
      rintro e w6 ⟨rfl, rfl⟩
      go_wp2_with fail
      refine (HH.out _).mono ?_
      rintro e w6 ⟨rfl, rfl⟩
      go_wp2_with fail
      go_ret
      exact ⟨by simp, hw5⟩
    · clear f3 hTb
      go_wp2_with fail
      refine (HG.out _).mono ?_
      rintro e w6 ⟨rfl, rfl⟩
      go_wp2_with fail
      refine (HH.out _).mono ?_
      rintro e w6 ⟨rfl, rfl⟩
      go_wp2_with fail
      go_ret
      exact ⟨by simp, hw5⟩
end Go.Proofs.YtblbjmjoiaiimaaDoor.lawLeWide
