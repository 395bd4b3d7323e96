/- lex.first. -/
import Derived.Test.YtpkpbohkdkmoiaaDoorLx7
namespace Go.Proofs.YtpkpbohkdkmoiaaDoor
open Go.RowKit
set_option linter.unusedVariables false

theorem head_at (s : ByteArray) (h : 0 < s.size) : headN s = s[0].toNat := by
  have hl := ba_len s
  unfold headN
  cases hx : s.data.toList with
  | nil => rw [hx] at hl; simp at hl; omega
  | cons x t =>
    have : s[0] = x := by
      have h1 : s.data.toList[0]'(by omega) = x := by simp only [hx]; rfl
      rw [← h1]; simp [ByteArray.getElem_eq_getElem_data]
    rw [this]; rfl
theorem ne_b {c k : Nat} (h : c ≠ k) : ((c : Int) == (k : Int)) = false := by rw [beq_eq_false_iff_ne]; omega
theorem cut_run (s : ByteArray) (p : Nat → Bool) : (s.extract 0 (runN s p)).size = runN s p := by
  have := runN_le s p
  rw [ByteArray.size_extract]; omega
set_option maxRecDepth 100000 in
set_option maxHeartbeats 2000000 in
theorem lxFirst (s : ByteArray) (w : World) (h0 : 0 < s.size) (hs : s.size ≤ 1000000) (hE : Errs w) :
    Calls Tryd.prog 16 #[.string s] w fun e w' => e = .returned (.tuple #[.int .i64 (fstL s).1, .int .i64 ((fstL s).2 : Nat)]) ∧ Below w.heap.size w w' := by
  have hsI : (s.size : Int) ≤ 1000000 := by omega
  have h0I : (0 : Int) < s.size := by omega
  obtain ⟨R, hR⟩ : ∃ R, fstL s = R := ⟨_, rfl⟩
  rw [hR]
  unfold fstL at hR
  have hi0 : ∀ u : World, Sem.run Tryd.prog (Instr.index 9 (.string s) (.int .i64 0)) u = .ok (.int .u8 (s[0].toNat : Int)) u := fun u => lxIdxS s 0 h0 u
  have h255 : s[0].toNat ≤ 255 := by have := UInt8.toNat_lt s[0]; omega
  rw [head_at s h0] at hR
  generalize s[0].toNat = c at *
  have hcI : (c : Int) ≤ 255 := by omega
  have HL := Lib.hid (fun u => lxLetter c u h255)
  have HD := Lib.hid (fun u => lxDigit c u h255)
  have HRL := Lib.hid (fun u => lxRunL s u hs)
  have HRW := Lib.hid (fun u => lxRunW s u hs)
  have HS := Lib.hid (fun u => lxSign s u h0 hs)
  unfold fst0 at hR
  clear h255
  by_cases e32 : c = 32
  · rw [if_pos (Or.inl e32)] at hR
    subst e32 hR
    clear HL HD HRL HRW HS hE
    go_enter Tryd.func16, Tryd.ntmps16
    go_wp2_with fail
    go_ret2
    exact ⟨rfl, Below.refl _ _⟩
  have n32 : ((c : Int) == 32) = false := by rw [beq_eq_false_iff_ne]; omega
  by_cases e9 : c = 9
  · rw [if_pos (Or.inr (Or.inl e9))] at hR
    subst e9 hR
    clear HL HD HRL HRW HS hE
    go_enter Tryd.func16, Tryd.ntmps16
    go_wp2_with fail
    go_ret2
    exact ⟨rfl, Below.refl _ _⟩
  have n9 : ((c : Int) == 9) = false := by rw [beq_eq_false_iff_ne]; omega
  by_cases e13 : c = 13
  · rw [if_pos (Or.inr (Or.inr e13))] at hR
    subst e13 hR
    clear HL HD HRL HRW HS hE
    go_enter Tryd.func16, Tryd.ntmps16
    go_wp2_with fail
    go_ret2
    exact ⟨rfl, Below.refl _ _⟩
  have n13 : ((c : Int) == 13) = false := by rw [beq_eq_false_iff_ne]; omega
  rw [if_neg (by omega)] at hR
  by_cases e35 : c = 35
  · rw [if_pos e35] at hR
    subst e35 hR
    generalize runN s notLine = n at *
    clear HL HD HRW HS hE
    go_enter Tryd.func16, Tryd.ntmps16
    go_wp2_with fail
    refine (HRL.out _).mono ?_
    rintro e w2 ⟨rfl, rfl⟩
    go_wp2_with fail
    go_ret2
    exact ⟨rfl, Below.refl _ _⟩
  have n35 : ((c : Int) == 35) = false := by rw [beq_eq_false_iff_ne]; omega
  rw [if_neg e35] at hR
  by_cases e10 : c = 10
  · rw [if_pos e10] at hR
    subst e10 hR
    clear HL HD HRL HRW HS hE
    go_enter Tryd.func16, Tryd.ntmps16
    go_wp2_with fail
    go_ret2
    exact ⟨rfl, Below.refl _ _⟩
  have n10 : ((c : Int) == 10) = false := by rw [beq_eq_false_iff_ne]; omega
  rw [if_neg e10] at hR
  clear e32 e9 e13 e35 e10
  generalize letB c = LB at *
  generalize digB c = DB at *
  cases LB with
  | true =>
    rw [if_pos rfl] at hR
    subst hR
    generalize runN s wrdB = n at *
    clear HD HRL HS hE
    go_enter Tryd.func16, Tryd.ntmps16
    go_wp2_with fail
    refine (HL.out _).mono ?_
    rintro e w2 ⟨rfl, rfl⟩
    go_wp2_with fail
    refine (HRW.out _).mono ?_
    rintro e w2 ⟨rfl, rfl⟩
    go_wp2_with fail
    go_ret2
    exact ⟨rfl, Below.refl _ _⟩
  | false =>
    rw [if_neg (by decide)] at hR
    cases DB with
    | false =>
      rw [if_neg (by decide)] at hR
      subst hR
      generalize signN s = n at *
      clear HRW HRL hE
      go_enter Tryd.func16, Tryd.ntmps16
      go_wp2_with fail
      refine (HL.out _).mono ?_
      rintro e w2 ⟨rfl, rfl⟩
      go_wp2_with fail
      refine (HD.out _).mono ?_
      rintro e w2 ⟨rfl, rfl⟩
      go_wp2_with fail
      refine (HS.out _).mono ?_
      rintro e w2 ⟨rfl, hb⟩
      go_wp2_with fail
      go_ret2
      exact ⟨rfl, hb⟩
    | true =>
      rw [if_pos rfl] at hR
      have hn := runN_le s wrdB
      have hc := cut_run s wrdB
      generalize runN s wrdB = n at *
      have hnI : (n : Int) ≤ s.size := by omega
      have HN := Lib.hid (lxNumber (s.extract 0 n) w (by omega) hE)
      clear HRL HS hE hc
      generalize hX : numS' (s.extract 0 n) = X at *
      cases X with
      | some x =>
        rw [if_pos (show (some x).isSome = true from rfl)] at hR
        subst hR
        have HX := Lib.hid hX
        clear hX
        go_enter Tryd.func16, Tryd.ntmps16
        go_wp2_with fail
        refine (HL.out _).mono ?_
        rintro e w2 ⟨rfl, rfl⟩
        go_wp2_with fail
        refine (HD.out _).mono ?_
        rintro e w2 ⟨rfl, rfl⟩
        go_wp2_with fail
        refine (HRW.out _).mono ?_
        rintro e w2 ⟨rfl, rfl⟩
        go_wp2_with fail
        refine HN.out.mono ?_
        rintro e w2 ⟨rfl, hb⟩
        go_wp2_with fail
        go_ret2
        exact ⟨rfl, hb⟩
      | none =>
        rw [if_neg (show ¬ (none : Option Nat).isSome = true by decide)] at hR
        subst hR
        have HX := Lib.hid hX
        clear hX
        go_enter Tryd.func16, Tryd.ntmps16
        go_wp2_with fail
        refine (HL.out _).mono ?_
        rintro e w2 ⟨rfl, rfl⟩
        go_wp2_with fail
        refine (HD.out _).mono ?_
        rintro e w2 ⟨rfl, rfl⟩
        go_wp2_with fail
        refine (HRW.out _).mono ?_
        rintro e w2 ⟨rfl, rfl⟩
        go_wp2_with fail
        refine HN.out.mono ?_
        rintro e w2 ⟨rfl, hb⟩
        go_wp2_with fail
        go_ret2
        exact ⟨rfl, hb⟩
end Go.Proofs.YtpkpbohkdkmoiaaDoor
