/- lex.letter, digit, wordly, run. -/
import Derived.Test.YtpkpbohkdkmoiaaDoorGen
import Derived.Test.YtpkpbohkdkmoiaaDoorRows
namespace Go.Proofs.YtpkpbohkdkmoiaaDoor
open Go.RowKit
set_option linter.unusedVariables false

def letB (c : Nat) : Bool := decide (97 ≤ c ∧ c ≤ 122) || decide (c = 95)
def digB (c : Nat) : Bool := decide (48 ≤ c ∧ c ≤ 57)
def wrdB (c : Nat) : Bool := letB c || digB c
def notLine (c : Nat) : Bool := decide (c ≠ 10)
theorem lxLetter (c : Nat) (u : World) (h : c ≤ 255) : Calls Tryd.prog 25 #[.int .u8 (c : Int)] u fun e u' => e = .returned (.bool (letB c)) ∧ u = u' := by
  have hI : (c : Int) ≤ 255 := by omega
  by_cases h1 : 97 ≤ c
  · have h1I : (97 : Int) ≤ c := by omega
    by_cases h2 : c ≤ 122
    · have h2I : (c : Int) ≤ 122 := by omega
      have hr : letB c = true := by unfold letB; rw [decide_eq_true ⟨h1, h2⟩]; rfl
      rw [hr]
      clear hr h1 h2
      go_enter Tryd.func25, Tryd.ntmps25
      go_wp2_with fail
      go_ret
      exact ⟨rfl, rfl⟩
    · have h2I : (122 : Int) < c := by omega
      have h3 : ((c : Int) == 95) = false := by rw [beq_eq_false_iff_ne]; omega
      have hr : letB c = false := by unfold letB; rw [decide_eq_false (by omega), decide_eq_false (by omega)]; rfl
      rw [hr]
      clear hr h1 h2
      go_enter Tryd.func25, Tryd.ntmps25
      go_wp2_with fail
      go_ret
      exact ⟨congrArg (fun b => Ending.returned (.bool b)) (decide_eq_false (by omega)), rfl⟩
  · have h1I : (c : Int) < 97 := by omega
    by_cases h3 : c = 95
    · subst h3
      go_enter Tryd.func25, Tryd.ntmps25
      go_wp2_with fail
      go_ret
      exact ⟨rfl, rfl⟩
    · have h4 : ((c : Int) == 95) = false := by rw [beq_eq_false_iff_ne]; omega
      have hr : letB c = false := by unfold letB; rw [decide_eq_false (by omega), decide_eq_false h3]; rfl
      rw [hr]
      clear hr h1 h3
      go_enter Tryd.func25, Tryd.ntmps25
      go_wp2_with fail
      go_ret
      exact ⟨rfl, rfl⟩
theorem lxDigit (c : Nat) (u : World) (h : c ≤ 255) : Calls Tryd.prog 27 #[.int .u8 (c : Int)] u fun e u' => e = .returned (.bool (digB c)) ∧ u = u' := by
  have hI : (c : Int) ≤ 255 := by omega
  by_cases h1 : 48 ≤ c
  · have h1I : (48 : Int) ≤ c := by omega
    by_cases h2 : c ≤ 57
    · have h2I : (c : Int) ≤ 57 := by omega
      have hr : digB c = true := by unfold digB; rw [decide_eq_true ⟨h1, h2⟩]
      rw [hr]
      clear hr h1 h2
      go_enter Tryd.func27, Tryd.ntmps27
      go_wp2_with fail
      go_ret
      exact ⟨rfl, rfl⟩
    · have h2I : (57 : Int) < c := by omega
      have h3 : decide ((c : Int) ≤ 57) = false := decide_eq_false (by omega)
      have hr : digB c = false := by unfold digB; rw [decide_eq_false (by omega)]
      rw [hr]
      clear hr h1 h2
      go_enter Tryd.func27, Tryd.ntmps27
      go_wp2_with fail
      go_ret
      first | exact ⟨rfl, rfl⟩ | exact ⟨congrArg (fun b => Ending.returned (.bool b)) h3, rfl⟩
  · have h1I : (c : Int) < 48 := by omega
    have hr : digB c = false := by unfold digB; rw [decide_eq_false (by omega)]
    rw [hr]
    clear hr h1
    go_enter Tryd.func27, Tryd.ntmps27
    go_wp2_with fail
    go_ret
    exact ⟨rfl, rfl⟩
theorem lxWordly (c : Nat) (u : World) (h : c ≤ 255) : Calls Tryd.prog 26 #[.int .u8 (c : Int)] u fun e u' => e = .returned (.bool (wrdB c)) ∧ u = u' := by
  have HL := Lib.hid (fun u => lxLetter c u h)
  have HD := Lib.hid (fun u => lxDigit c u h)
  unfold wrdB
  generalize letB c = L at *
  generalize digB c = D at *
  have hI : (c : Int) ≤ 255 := by omega
  clear h
  cases L with
  | true =>
    go_enter Tryd.func26, Tryd.ntmps26
    go_wp2_with fail
    refine (HL.out _).mono ?_
    rintro e w1 ⟨rfl, rfl⟩
    go_wp2_with fail
    go_ret
    exact ⟨rfl, rfl⟩
  | false =>
    go_enter Tryd.func26, Tryd.ntmps26
    go_wp2_with fail
    refine (HL.out _).mono ?_
    rintro e w1 ⟨rfl, rfl⟩
    go_wp2_with fail
    refine (HD.out _).mono ?_
    rintro e w1 ⟨rfl, rfl⟩
    go_wp2_with fail
    go_ret
    exact ⟨rfl, rfl⟩
theorem lxNotLine (c : Nat) (u : World) (h : c ≤ 255) : Calls Tryd.prog 24 #[.int .u8 (c : Int)] u fun e u' => e = .returned (.bool (notLine c)) ∧ u = u' := by
  have hI : (c : Int) ≤ 255 := by omega
  have hr : notLine c = ((c : Int) != 10) := by unfold notLine; rw [Bool.eq_iff_iff]; simp; omega
  rw [hr]
  clear hr h
  go_enter Tryd.func24, Tryd.ntmps24
  go_wp2_with fail
  go_ret
  exact ⟨rfl, rfl⟩
/-- how many bytes from the beginning on are so -/
def runN (s : ByteArray) (p : Nat → Bool) : Nat := (s.data.toList.takeWhile fun c => p c.toNat).length
theorem takeWhile_len (l : List UInt8) (p : UInt8 → Bool) (n : Nat) (hn : n ≤ l.length) (h1 : ∀ j (h : j < n), p (l[j]'(by omega)) = true) (h2 : ∀ h : n < l.length, p l[n] = false) : (l.takeWhile p).length = n := by
  induction l generalizing n with
  | nil => simp at hn ⊢; omega
  | cons a l ih =>
    cases n with
    | zero =>
      have := h2 (by simp)
      rw [List.takeWhile_cons]
      simp at this
      simp [this]
    | succ n =>
      have h0 := h1 0 (by omega)
      rw [List.takeWhile_cons]
      simp at h0
      simp only [h0, if_true, List.length_cons]
      rw [ih n (by simpa using hn) (fun j hj => by simpa using h1 (j + 1) (by omega)) (fun hh => by have := h2 (by simp; omega); rwa [List.getElem_cons_succ] at this)]
theorem runN_is {s : ByteArray} {p : Nat → Bool} {n : Nat} (hn : n ≤ s.size) (h1 : ∀ j (h : j < s.size), j < n → p s[j].toNat = true) (h2 : ∀ h : n < s.size, p s[n].toNat = false) : runN s p = n := by
  have hl := ba_len s
  refine takeWhile_len _ _ n (by omega) (fun j hj => ?_) (fun hh => ?_)
  · have := h1 j (by omega) hj
    simpa [ByteArray.getElem_eq_getElem_data] using this
  · have := h2 (by omega)
    simpa [ByteArray.getElem_eq_getElem_data] using this
theorem runN_le (s : ByteArray) (p : Nat → Bool) : runN s p ≤ s.size := by
  have hl := ba_len s
  unfold runN
  have := (List.takeWhile_sublist (l := s.data.toList) (fun c : UInt8 => p c.toNat)).length_le
  omega
theorem lxRunW (s : ByteArray) (w : World) (hs : s.size ≤ 1000000) : Calls Tryd.prog 23 #[.string s, .func (.func 26) #[] #[]] w fun e w' => e = .returned (.int .i64 (runN s wrdB : Nat)) ∧ w = w' := by
  have hsI : (s.size : Int) ≤ 1000000 := by omega
  obtain ⟨R, hR⟩ : ∃ R, runN s wrdB = R := ⟨_, rfl⟩
  rw [hR]
  have HR := Lib.hid hR
  have HF := Lib.hid (fun c u h => lxWordly c u h)
  clear hR
  go_enter Tryd.func23, Tryd.ntmps23
  go_wp2_with fail
  go_loop [8] (fun z => ∃ i : Nat, z = .int .i64 i ∧ i ≤ s.size ∧ Hid (∀ j (h : j < s.size), j < i → wrdB s[j].toNat = true)) (fun z => s.size - (intOf z).toNat)
  case atStart => exact ⟨0, rfl, by omega, Lib.hid (fun j h hj => by omega)⟩
  case round =>
    obtain ⟨i, rfl, hi, HA⟩ := hrel
    by_cases hlt : i < s.size
    · have hltI : (i : Int) < s.size := by omega
      have h255 : s[i].toNat ≤ 255 := by have := UInt8.toNat_lt s[i]; omega
      have hf := fun u => HF.out s[i].toNat u h255
      obtain ⟨B, hB⟩ : ∃ B, wrdB s[i].toNat = B := ⟨_, rfl⟩
      rw [hB] at hf
      have HB := Lib.hid hB; have HFI := Lib.hid hf
      clear hB hf h255
      go_wp2_with fail
      refine (HFI.out _).mono ?_
      rintro e w1 ⟨rfl, rfl⟩
      cases B with
      | true =>
        have HA2 := Lib.hid (show ∀ j (h : j < s.size), j < i + 1 → wrdB s[j].toNat = true from fun j h hj => by
          by_cases e : j = i
          · subst e; exact HB.out
          · exact HA.out j h (by omega))
        go_wp2_with fail
        go_round
        case rel => exact ⟨i + 1, by go_num, by omega, HA2⟩
        case measure => simp [intOf]; omega
      | false =>
        have hres : R = i := by rw [← HR.out]; exact runN_is (by omega) HA.out (fun _ => HB.out)
        subst hres
        go_wp2_with fail
        go_ret
        exact ⟨rfl, rfl⟩
    · obtain rfl : i = s.size := by omega
      have hres : R = s.size := by rw [← HR.out]; exact runN_is (Nat.le_refl _) HA.out (fun h => absurd h (by omega))
      have hnl : ¬ (s.size : Int) < s.size := by omega
      subst hres
      go_wp2_with fail
      go_ret
      exact ⟨rfl, rfl⟩
theorem lxRunL (s : ByteArray) (w : World) (hs : s.size ≤ 1000000) : Calls Tryd.prog 23 #[.string s, .func (.func 24) #[] #[]] w fun e w' => e = .returned (.int .i64 (runN s notLine : Nat)) ∧ w = w' := by
  have hsI : (s.size : Int) ≤ 1000000 := by omega
  obtain ⟨R, hR⟩ : ∃ R, runN s notLine = R := ⟨_, rfl⟩
  rw [hR]
  have HR := Lib.hid hR
  have HF := Lib.hid (fun c u h => lxNotLine c u h)
  clear hR
  go_enter Tryd.func23, Tryd.ntmps23
  go_wp2_with fail
  go_loop [8] (fun z => ∃ i : Nat, z = .int .i64 i ∧ i ≤ s.size ∧ Hid (∀ j (h : j < s.size), j < i → notLine s[j].toNat = true)) (fun z => s.size - (intOf z).toNat)
  case atStart => exact ⟨0, rfl, by omega, Lib.hid (fun j h hj => by omega)⟩
  case round =>
    obtain ⟨i, rfl, hi, HA⟩ := hrel
    by_cases hlt : i < s.size
    · have hltI : (i : Int) < s.size := by omega
      have h255 : s[i].toNat ≤ 255 := by have := UInt8.toNat_lt s[i]; omega
      have hf := fun u => HF.out s[i].toNat u h255
      obtain ⟨B, hB⟩ : ∃ B, notLine s[i].toNat = B := ⟨_, rfl⟩
      rw [hB] at hf
      have HB := Lib.hid hB; have HFI := Lib.hid hf
      clear hB hf h255
      go_wp2_with fail
      refine (HFI.out _).mono ?_
      rintro e w1 ⟨rfl, rfl⟩
      cases B with
      | true =>
        have HA2 := Lib.hid (show ∀ j (h : j < s.size), j < i + 1 → notLine s[j].toNat = true from fun j h hj => by
          by_cases e : j = i
          · subst e; exact HB.out
          · exact HA.out j h (by omega))
        go_wp2_with fail
        go_round
        case rel => exact ⟨i + 1, by go_num, by omega, HA2⟩
        case measure => simp [intOf]; omega
      | false =>
        have hres : R = i := by rw [← HR.out]; exact runN_is (by omega) HA.out (fun _ => HB.out)
        subst hres
        go_wp2_with fail
        go_ret
        exact ⟨rfl, rfl⟩
    · obtain rfl : i = s.size := by omega
      have hres : R = s.size := by rw [← HR.out]; exact runN_is (Nat.le_refl _) HA.out (fun h => absurd h (by omega))
      have hnl : ¬ (s.size : Int) < s.size := by omega
      subst hres
      go_wp2_with fail
      go_ret
      exact ⟨rfl, rfl⟩
end Go.Proofs.YtpkpbohkdkmoiaaDoor
