/- doorwardref07.part, doorwardref07.Load. -/
import Derived.Test.YtimiooiaohfelaaDoorBd2
import Derived.Test.YtimiooiaohfelaaDoorRef05R
import Derived.Test.YtimiooiaohfelaaDoorRef01Fill
import Derived.Test.YtimiooiaohfelaaDoorRef01Num
namespace Go.Proofs.YtimiooiaohfelaaDoor
open Go.RowKit
set_option linter.unusedVariables false
set_option linter.unusedSimpArgs false

theorem cut_ext (s : ByteArray) (p k : Nat) : getL (s.extract p (p + k)).data.toList = getL (cutL s p k) := by
  rw [ba_extract_list, Nat.add_sub_cancel_left]; rfl
theorem body_ext (s : ByteArray) (m : Nat) : s.extract 4 (4 + m) = ⟨(cutL s 4 m).toArray⟩ := by
  rw [ba_extract, Nat.add_sub_cancel_left]; rfl
def RPart (s : ByteArray) (w : World) (e : Ending) (w' : World) : Prop :=
  (∃ a b, e = .returned (.tuple #[.int .i64 a, .string b, .bool (isP s)]) ∧ (isP s = true → a = nextP s ∧ b = bodyP s)) ∧ Below w.heap.size w w'
set_option maxRecDepth 100000 in
set_option maxHeartbeats 8000000 in
theorem refPart7 (S : ByteArray) (w : World) (hsz : S.size ≤ 512) : Calls Tryd.prog 13 #[.string S] w (RPart S w) := by
  have hfs := fullP_size S hsz
  have hfl : ∀ u, Calls Tryd.prog 31 #[.string S, .int .i64 512] u fun e w' => e = .returned (.tuple #[.string (fullP S), .int .i64 0]) ∧ Below u.heap.size u w' := fun u => by
    have := refFill_any S ((512 : Nat) : Int) u (by omega) (by decide) (by decide)
    rw [(fillS_ok S 512 hsz).1, (fillS_ok S 512 hsz).2] at this
    exact this
  have hn1 : ∀ u, Calls Tryd.prog 32 #[.string ((fullP S).extract 0 2)] u fun e w' => e = .returned (.int .u64 (nextP S : Nat)) ∧ u = w' := fun u => by
    have := refNumber_any ((fullP S).extract 0 2) u (by rw [ByteArray.size_extract, hfs]; decide)
    rw [show getL ((fullP S).extract 0 2).data.toList = nextP S from cut_ext (fullP S) 0 2] at this
    exact this
  have hn2 : ∀ u, Calls Tryd.prog 32 #[.string ((fullP S).extract 2 4)] u fun e w' => e = .returned (.int .u64 (manyP S : Nat)) ∧ u = w' := fun u => by
    have := refNumber_any ((fullP S).extract 2 4) u (by rw [ByteArray.size_extract, hfs]; decide)
    rw [show getL ((fullP S).extract 2 4).data.toList = manyP S from cut_ext (fullP S) 2 2] at this
    exact this
  have hnl := nextP_le S hsz
  have hml := manyP_le S hsz
  obtain ⟨N, hN⟩ : ∃ N, nextP S = N := ⟨_, rfl⟩
  obtain ⟨M, hM⟩ : ∃ M, manyP S = M := ⟨_, rfl⟩
  have hisP : isP S = (decide (M ≤ 500 ∧ (N = 0 ∨ 500 ≤ M)) && decide (secS N (bodyP S) = S)) := by
    unfold isP
    rw [hN]
    congr 1
    rw [decide_eq_decide, ← hM, ← hN]
    rfl
  unfold RPart
  rw [hN] at hn1 hnl ⊢
  rw [hM] at hn2 hml
  have hbd : bodyP S = (fullP S).extract 4 (4 + M) := by rw [body_ext, ← hM]; rfl
  have hsl : (((fullP S).size : Nat) : Int) = 512 := by rw [hfs]; rfl
  have hN0 : (0 : Int) ≤ N := by omega
  have hN1 : (N : Int) ≤ 65535 := by omega
  have hM1 : (M : Int) ≤ 65535 := by omega
  have HF := Lib.hid hfl; have H1 := Lib.hid hn1; have H2 := Lib.hid hn2
  have hdis : ((fullP S).extract 0 2).size = 2 := by rw [ByteArray.size_extract, hfs]; rfl
  generalize fullP S = FSZ at *
  by_cases hk : M ≤ 500 ∧ (N = 0 ∨ 500 ≤ M)
  · have hbs : (FSZ.extract 4 (4 + M)).size ≤ 500 := by rw [ByteArray.size_extract]; omega
    rw [hbd] at hisP ⊢
    have h4M : (4 : Int) + M ≤ 512 := by omega
    have hwt : ∀ u, Calls Tryd.prog 33 #[.int .i64 (N : Nat), .string (FSZ.extract 4 (4 + M))] u fun e w' => e = .returned (.string (secS N (FSZ.extract 4 (4 + M)))) ∧ Below u.heap.size u w' := fun u => refSector_ok _ _ u (by omega) hbs
    rw [decide_eq_true hk, Bool.true_and] at hisP
    obtain ⟨BP, hBP⟩ : ∃ BP, FSZ.extract 4 (4 + M) = BP := ⟨_, rfl⟩
    rw [hBP] at hwt hisP ⊢
    obtain ⟨SE, hSE⟩ : ∃ SE, secS N BP = SE := ⟨_, rfl⟩
    rw [hSE] at hwt hisP
    have hz : N = 0 ∨ (¬ N = 0 ∧ 500 ≤ M) := by omega
    have hM5 : (M : Int) ≤ 500 := by omega
    have HW := Lib.hid hwt
    have HBP := hBP
    by_cases hse : SE = S
    · have hip : isP S = true := by rw [hisP]; exact decide_eq_true hse
      rw [hip]
      subst hse
      clear hisP hip hfl hn1 hn2 hk hbd hN hM hnl hml hwt hSE hBP hbs hdis hsz
      rcases hz with rfl | ⟨hz1, hz2⟩
      · rw [show ((0 : Nat) : Int) = 0 from rfl] at HW H1
        go_enter Tryd.func13, Tryd.ntmps13
        go_wp2_with (first
          | (go_at_call 31; refine (HF.out _).mono ?_; rintro e w2 ⟨rfl, hb2⟩)
          | (go_at_call_of 32 (FSZ.extract 0 2); refine (H1.out _).mono ?_; rintro e w3 ⟨rfl, rfl⟩)
          | (go_at_call_of 32 (FSZ.extract 2 4); refine (H2.out _).mono ?_; rintro e w4 ⟨rfl, rfl⟩)
          | (go_at_call 33; refine (HW.out _).mono ?_; rintro e w5 ⟨rfl, hb5⟩))
        go_ret3
        exact ⟨⟨_, _, rfl, fun _ => ⟨rfl, rfl⟩⟩, hb2.trans (hb5.mono hb2.size)⟩
      · have hz3 : ((N : Int) == 0) = false := by simpa using hz1
        have hz3a : ((N : Int) != 0) = true := by simpa using hz1
        have hz3b : (N != 0) = true := by simpa using hz1
        have hz3c : (N == 0) = false := by simpa using hz1
        have hz4 : ¬ (M : Int) < 500 := by omega
        go_enter Tryd.func13, Tryd.ntmps13
        go_wp2_with (first
          | (go_at_call 31; refine (HF.out _).mono ?_; rintro e w2 ⟨rfl, hb2⟩)
          | (go_at_call_of 32 (FSZ.extract 0 2); refine (H1.out _).mono ?_; rintro e w3 ⟨rfl, rfl⟩)
          | (go_at_call_of 32 (FSZ.extract 2 4); refine (H2.out _).mono ?_; rintro e w4 ⟨rfl, rfl⟩)
          | (go_at_call 33; refine (HW.out _).mono ?_; rintro e w5 ⟨rfl, hb5⟩))
        go_ret3
        exact ⟨⟨_, _, rfl, fun _ => ⟨rfl, rfl⟩⟩, hb2.trans (hb5.mono hb2.size)⟩
    · have hip : isP S = false := by rw [hisP]; exact decide_eq_false hse
      rw [hip]
      have hts := ba_tne hse
      clear hisP hip hfl hn1 hn2 hk hbd hN hM hnl hml hwt hSE hBP hbs hdis hsz hse
      rcases hz with rfl | ⟨hz1, hz2⟩
      · rw [show ((0 : Nat) : Int) = 0 from rfl] at HW H1
        go_enter Tryd.func13, Tryd.ntmps13
        go_wp2_with (first
          | (go_at_call 31; refine (HF.out _).mono ?_; rintro e w2 ⟨rfl, hb2⟩)
          | (go_at_call_of 32 (FSZ.extract 0 2); refine (H1.out _).mono ?_; rintro e w3 ⟨rfl, rfl⟩)
          | (go_at_call_of 32 (FSZ.extract 2 4); refine (H2.out _).mono ?_; rintro e w4 ⟨rfl, rfl⟩)
          | (go_at_call 33; refine (HW.out _).mono ?_; rintro e w5 ⟨rfl, hb5⟩))
        go_ret3
        exact ⟨⟨_, _, rfl, fun h => absurd h (by decide)⟩, hb2.trans (hb5.mono hb2.size)⟩
      · have hz3 : ((N : Int) == 0) = false := by simpa using hz1
        have hz3a : ((N : Int) != 0) = true := by simpa using hz1
        have hz3b : (N != 0) = true := by simpa using hz1
        have hz3c : (N == 0) = false := by simpa using hz1
        have hz4 : ¬ (M : Int) < 500 := by omega
        go_enter Tryd.func13, Tryd.ntmps13
        go_wp2_with (first
          | (go_at_call 31; refine (HF.out _).mono ?_; rintro e w2 ⟨rfl, hb2⟩)
          | (go_at_call_of 32 (FSZ.extract 0 2); refine (H1.out _).mono ?_; rintro e w3 ⟨rfl, rfl⟩)
          | (go_at_call_of 32 (FSZ.extract 2 4); refine (H2.out _).mono ?_; rintro e w4 ⟨rfl, rfl⟩)
          | (go_at_call 33; refine (HW.out _).mono ?_; rintro e w5 ⟨rfl, hb5⟩))
        go_ret3
        exact ⟨⟨_, _, rfl, fun h => absurd h (by decide)⟩, hb2.trans (hb5.mono hb2.size)⟩
  · have hip : isP S = false := by rw [hisP, decide_eq_false hk]; rfl
    rw [hip]
    clear hisP hip hbd hN hM hfl hn1 hn2
    have hz : 500 < M ∨ (M ≤ 500 ∧ ¬ N = 0 ∧ M < 500) := by omega
    clear hk hnl hml hsz
    rcases hz with hz | ⟨hz0, hz1, hz2⟩
    · have hzI : (500 : Int) < M := by omega
      go_enter Tryd.func13, Tryd.ntmps13
      go_wp2_with (first
        | (go_at_call 31; refine (HF.out _).mono ?_; rintro e w2 ⟨rfl, hb2⟩)
        | (go_at_call_of 32 (FSZ.extract 0 2); refine (H1.out _).mono ?_; rintro e w3 ⟨rfl, rfl⟩)
        | (go_at_call_of 32 (FSZ.extract 2 4); refine (H2.out _).mono ?_; rintro e w4 ⟨rfl, rfl⟩))
      go_ret3
      exact ⟨⟨_, _, rfl, fun h => absurd h (by decide)⟩, hb2⟩
    · have hz3 : ((N : Int) == 0) = false := by simpa using hz1
      have hz3a : ((N : Int) != 0) = true := by simpa using hz1
      have hz3b : (N != 0) = true := by simpa using hz1
      have hz3c : (N == 0) = false := by simpa using hz1
      have hz4 : (M : Int) < 500 := by omega
      have hz5 : ¬ (500 : Int) < M := by omega
      go_enter Tryd.func13, Tryd.ntmps13
      go_wp2_with (first
        | (go_at_call 31; refine (HF.out _).mono ?_; rintro e w2 ⟨rfl, hb2⟩)
        | (go_at_call_of 32 (FSZ.extract 0 2); refine (H1.out _).mono ?_; rintro e w3 ⟨rfl, rfl⟩)
        | (go_at_call_of 32 (FSZ.extract 2 4); refine (H2.out _).mono ?_; rintro e w4 ⟨rfl, rfl⟩))
      go_ret3
      exact ⟨⟨_, _, rfl, fun h => absurd h (by decide)⟩, hb2⟩
end Go.Proofs.YtimiooiaohfelaaDoor
