/- The reference's letters, digits and numbers. -/
import Derived.Test.YtpkpbohkdkmoiaaDoorLxP
namespace Go.Proofs.YtpkpbohkdkmoiaaDoor
open Go.RowKit
set_option linter.unusedVariables false

theorem rfLetter (c : Nat) (u : World) (h : c ≤ 255) : Calls Tryd.prog 29 #[.int .u8 (c : Int)] u fun e u' => e = .returned (.bool (letB c)) ∧ u = u' := by
  have hI : (c : Int) ≤ 255 := by omega
  by_cases h1 : 97 ≤ c
  · have h1I : (97 : Int) ≤ c := by omega
    by_cases h2 : c ≤ 122
    · have h2I : (c : Int) ≤ 122 := by omega
      have hr : letB c = true := by unfold letB; rw [decide_eq_true ⟨h1, h2⟩]; rfl
      rw [hr]
      clear hr h1 h2
      go_enter Tryd.func29, Tryd.ntmps29
      go_wp2_with fail
      go_ret
      exact ⟨rfl, rfl⟩
    · have h2I : (122 : Int) < c := by omega
      have h3 : ((c : Int) == 95) = false := by rw [beq_eq_false_iff_ne]; omega
      have hr : letB c = false := by unfold letB; rw [decide_eq_false (by omega), decide_eq_false (by omega)]; rfl
      rw [hr]
      clear hr h1 h2
      go_enter Tryd.func29, Tryd.ntmps29
      go_wp2_with fail
      go_ret
      exact ⟨congrArg (fun b => Ending.returned (.bool b)) (decide_eq_false (by omega)), rfl⟩
  · have h1I : (c : Int) < 97 := by omega
    by_cases h3 : c = 95
    · subst h3
      go_enter Tryd.func29, Tryd.ntmps29
      go_wp2_with fail
      go_ret
      exact ⟨rfl, rfl⟩
    · have h4 : ((c : Int) == 95) = false := by rw [beq_eq_false_iff_ne]; omega
      have hr : letB c = false := by unfold letB; rw [decide_eq_false (by omega), decide_eq_false h3]; rfl
      rw [hr]
      clear hr h1 h3
      go_enter Tryd.func29, Tryd.ntmps29
      go_wp2_with fail
      go_ret
      exact ⟨rfl, rfl⟩
theorem rfDigit (c : Nat) (u : World) (h : c ≤ 255) : Calls Tryd.prog 31 #[.int .u8 (c : Int)] u fun e u' => e = .returned (.bool (digB c)) ∧ u = u' := by
  have hI : (c : Int) ≤ 255 := by omega
  by_cases h1 : 48 ≤ c
  · have h1I : (48 : Int) ≤ c := by omega
    by_cases h2 : c ≤ 57
    · have h2I : (c : Int) ≤ 57 := by omega
      have hr : digB c = true := by unfold digB; rw [decide_eq_true ⟨h1, h2⟩]
      rw [hr]
      clear hr h1 h2
      go_enter Tryd.func31, Tryd.ntmps31
      go_wp2_with fail
      go_ret
      exact ⟨rfl, rfl⟩
    · have h2I : (57 : Int) < c := by omega
      have h3 : decide ((c : Int) ≤ 57) = false := decide_eq_false (by omega)
      have hr : digB c = false := by unfold digB; rw [decide_eq_false (by omega)]
      rw [hr]
      clear hr h1 h2
      go_enter Tryd.func31, Tryd.ntmps31
      go_wp2_with fail
      go_ret
      first | exact ⟨rfl, rfl⟩ | exact ⟨congrArg (fun b => Ending.returned (.bool b)) h3, rfl⟩
  · have h1I : (c : Int) < 48 := by omega
    have hr : digB c = false := by unfold digB; rw [decide_eq_false (by omega)]
    rw [hr]
    clear hr h1
    go_enter Tryd.func31, Tryd.ntmps31
    go_wp2_with fail
    go_ret
    exact ⟨rfl, rfl⟩
def valN (c : Nat) : Nat := if digB c = true then c - 48 else if 97 ≤ c ∧ c ≤ 102 then c - 87 else 99
theorem rfValue (c : Nat) (u : World) (h : c ≤ 255) : Calls Tryd.prog 21 #[.int .u8 (c : Int)] u fun e u' => e = .returned (.int .u64 (valN c : Nat)) ∧ u = u' := by
  have hI : (c : Int) ≤ 255 := by omega
  have HD := Lib.hid (fun u => rfDigit c u h)
  obtain ⟨R, hR⟩ : ∃ R, valN c = R := ⟨_, rfl⟩
  rw [hR]
  unfold valN at hR
  by_cases h1 : digB c = true
  · rw [if_pos h1] at hR
    rw [h1] at HD
    unfold digB at h1
    simp only [decide_eq_true_eq] at h1
    have e1 : (c : Int) - 48 = (R : Int) := by omega
    have e2 : IntKind.u8.wrap (R : Int) = (R : Int) := IntWalk.u8_in _ ⟨by omega, by omega⟩
    have e3 : IntKind.u64.wrap (R : Int) = (R : Int) := IntWalk.u64_in _ ⟨by omega, by omega⟩
    clear h1 hR h
    go_enter Tryd.func21, Tryd.ntmps21
    go_wp2_with fail
    refine (HD.out _).mono ?_
    rintro e w1 ⟨rfl, rfl⟩
    go_wp2_with fail
    go_ret
    exact ⟨rfl, rfl⟩
  rw [if_neg h1] at hR
  rw [show digB c = false by simpa using h1] at HD
  by_cases h2 : 97 ≤ c
  · have h2I : (97 : Int) ≤ c := by omega
    by_cases h3 : c ≤ 102
    · rw [if_pos ⟨h2, h3⟩] at hR
      have h3I : (c : Int) ≤ 102 := by omega
      obtain ⟨q, hq⟩ : ∃ q, c - 97 = q := ⟨_, rfl⟩
      have e1 : (c : Int) - 97 = (q : Int) := by omega
      have e2 : IntKind.u8.wrap (q : Int) = (q : Int) := IntWalk.u8_in _ ⟨by omega, by omega⟩
      have e3 : IntKind.u64.wrap (q : Int) = (q : Int) := IntWalk.u64_in _ ⟨by omega, by omega⟩
      have e4 : (q : Int) + 10 = (R : Int) := by omega
      have e5 : IntKind.u64.wrap (R : Int) = (R : Int) := IntWalk.u64_in _ ⟨by omega, by omega⟩
      clear h1 hR h h2 h3 hq
      go_enter Tryd.func21, Tryd.ntmps21
      go_wp2_with fail
      refine (HD.out _).mono ?_
      rintro e w1 ⟨rfl, rfl⟩
      go_wp2_with fail
      go_ret
      exact ⟨rfl, rfl⟩
    · rw [if_neg (by omega)] at hR
      subst hR
      have h3I : (102 : Int) < c := by omega
      clear h1 h h2 h3
      go_enter Tryd.func21, Tryd.ntmps21
      go_wp2_with fail
      refine (HD.out _).mono ?_
      rintro e w1 ⟨rfl, rfl⟩
      go_wp2_with fail
      go_ret
      exact ⟨rfl, rfl⟩
  · rw [if_neg (by omega)] at hR
    subst hR
    have h2I : (c : Int) < 97 := by omega
    clear h1 h h2
    go_enter Tryd.func21, Tryd.ntmps21
    go_wp2_with fail
    refine (HD.out _).mono ?_
    rintro e w1 ⟨rfl, rfl⟩
    go_wp2_with fail
    go_ret
    exact ⟨rfl, rfl⟩
/-- a number's digits, one by one -/
def numG (B : Nat) : List UInt8 → Nat → Option Nat
  | [], n => some n
  | c :: r, n => if B ≤ valN c.toNat then none else if (18446744073709551615 - valN c.toNat) / B < n then none else numG B r (B * n + valN c.toNat)
theorem dig_val (c : Nat) : (valN c < 10 ↔ digB c = true) ∧ (digB c = true → valN c = c - 48) := by
  unfold valN
  by_cases h : digB c = true
  · rw [if_pos h]
    refine ⟨⟨fun _ => h, fun _ => ?_⟩, fun _ => rfl⟩
    unfold digB at h
    simp only [decide_eq_true_eq] at h
    omega
  · rw [if_neg h]
    refine ⟨⟨fun hh => ?_, fun hh => absurd hh h⟩, fun hh => absurd hh h⟩
    split at hh <;> omega
theorem hex_val (c : Nat) : (valN c < 16 ↔ hexB c = true) ∧ (hexB c = true → valN c = hexD c) := by
  unfold valN hexB hexD digB
  by_cases h : 48 ≤ c ∧ c ≤ 57
  · rw [if_pos (by simpa using h)]
    refine ⟨⟨fun _ => by simp [h], fun _ => by omega⟩, fun _ => by rw [if_pos h.2]⟩
  · rw [if_neg (by simpa using h)]
    by_cases h2 : 97 ≤ c ∧ c ≤ 102
    · rw [if_pos h2]
      refine ⟨⟨fun _ => by simp [h2], fun _ => by omega⟩, fun _ => by rw [if_neg (by omega)]⟩
    · rw [if_neg h2]
      refine ⟨⟨fun hh => by omega, fun hh => ?_⟩, fun hh => ?_⟩
      · simp only [Bool.or_eq_true, decide_eq_true_eq] at hh; omega
      · simp only [Bool.or_eq_true, decide_eq_true_eq] at hh; omega
theorem over_iff (B n d : Nat) (hB : 0 < B) (hd : d ≤ 18446744073709551615) : (18446744073709551615 - d) / B < n ↔ 18446744073709551615 < B * n + d := by
  rw [Nat.div_lt_iff_lt_mul hB, Nat.mul_comm n B]
  omega
theorem numG_dec (l : List UInt8) : ∀ n F, n ≤ 18446744073709551615 → l.foldl (fun n c => 10 * n + (c.toNat - 48)) n = F → numG 10 l n = if (l.all fun c => digB c.toNat) = true ∧ F ≤ 18446744073709551615 then some F else none := by
  have mono : ∀ (l : List UInt8) acc, acc ≤ l.foldl (fun n c => 10 * n + (c.toNat - 48)) acc := by
    intro l
    induction l with
    | nil => intro acc; exact Nat.le_refl _
    | cons a l ih => intro acc; rw [List.foldl_cons]; have := ih (10 * acc + (a.toNat - 48)); omega
  induction l with
  | nil => intro n F h hF; rw [List.foldl_nil] at hF; subst hF; rw [if_pos ⟨rfl, h⟩]; rfl
  | cons c r ih =>
    intro n F h hF
    obtain ⟨h1, h2⟩ := dig_val c.toNat
    unfold numG
    by_cases hd : digB c.toNat = true
    · have h3 := h1.2 hd
      have h4 := h2 hd
      have hc := UInt8.toNat_lt c
      rw [if_neg (by omega)]
      rw [List.foldl_cons, ← h4] at hF
      have hm := mono r (10 * n + valN c.toNat)
      rw [hF] at hm
      by_cases ho : (18446744073709551615 - valN c.toNat) / 10 < n
      · rw [if_pos ho]
        have := (over_iff 10 n (valN c.toNat) (by decide) (by omega)).1 ho
        rw [if_neg (fun hh => by have := hh.2; omega)]
      · rw [if_neg ho]
        have h5 : 10 * n + valN c.toNat ≤ 18446744073709551615 := by
          have := fun hh => ho ((over_iff 10 n (valN c.toNat) (by decide) (by omega)).2 hh)
          omega
        rw [ih _ F h5 hF, List.all_cons, hd, Bool.true_and]
    · rw [if_pos (Nat.le_of_not_lt fun hh => hd (h1.1 hh))]
      rw [if_neg (fun hh => hd (by have := hh.1; rw [List.all_cons, Bool.and_eq_true] at this; exact this.1))]
theorem numG_hex (l : List UInt8) : ∀ n F k, n < 16 ^ k → k + l.length ≤ 16 → l.foldl (fun n c => 16 * n + hexD c.toNat) n = F → numG 16 l n = if (l.all fun c => hexB c.toNat) = true then some F else none := by
  induction l with
  | nil => intro n F k _ _ hF; rw [List.foldl_nil] at hF; subst hF; simp [numG]
  | cons c r ih =>
    intro n F k h hk hF
    obtain ⟨h1, h2⟩ := hex_val c.toNat
    rw [List.length_cons] at hk
    unfold numG
    by_cases hd : hexB c.toNat = true
    · have h3 := h1.2 hd
      have h4 := h2 hd
      rw [if_neg (by omega)]
      rw [List.foldl_cons, ← h4] at hF
      have h5 : 16 * n + valN c.toNat < 16 ^ (k + 1) := by rw [Nat.pow_succ]; omega
      have h6 : (16 : Nat) ^ (k + 1) ≤ 16 ^ 16 := Nat.pow_le_pow_right (by decide) (by omega)
      have h7 : (16 : Nat) ^ 16 = 18446744073709551616 := by decide
      rw [if_neg (fun ho => by have := (over_iff 16 n (valN c.toNat) (by decide) (by omega)).1 ho; omega)]
      rw [ih _ F (k + 1) h5 (by omega) hF, List.all_cons, hd, Bool.true_and]
    · rw [if_pos (Nat.le_of_not_lt fun hh => hd (h1.1 hh))]
      rw [if_neg (fun hh => hd (by rw [List.all_cons, Bool.and_eq_true] at hh; exact hh.1))]
end Go.Proofs.YtpkpbohkdkmoiaaDoor
