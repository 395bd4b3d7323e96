/- le.Trim, and the reference's: zero bytes off the end. -/
import Derived.Test.YtimiooiaohfelaaDoorGen
import Derived.Test.YtimiooiaohfelaaDoorRows
namespace Go.Proofs.YtimiooiaohfelaaDoor
open Go.RowKit
set_option linter.unusedVariables false

/-- how many bytes are left of the first k -/
def trimK (s : ByteArray) : Nat → Nat
  | 0 => 0
  | k + 1 => if s.data.toList.getD k 0 = 0 then trimK s k else k + 1
def trimS (s : ByteArray) : ByteArray := s.extract 0 (trimK s s.size)
theorem trimK_le (s : ByteArray) : ∀ k, trimK s k ≤ k
  | 0 => Nat.le_refl _
  | k + 1 => by
    have := trimK_le s k
    unfold trimK
    split <;> omega
theorem getB (s : ByteArray) (i : Nat) (h : i < s.size) : s.data.toList.getD i 0 = s[i] := by
  have : i < s.data.toList.length := by rw [ba_len]; exact h
  show (s.data.toList[i]?).getD 0 = s[i]
  rw [List.getElem?_eq_getElem this]
  rfl
theorem trimS_size (s : ByteArray) : (trimS s).size = trimK s s.size := by
  have := trimK_le s s.size
  rw [trimS, ByteArray.size_extract]; omega
theorem extract_extract0 (s : ByteArray) (a b : Nat) (h : b ≤ a) : (s.extract 0 a).extract 0 b = s.extract 0 b := by
  apply ba_ext
  rw [ba_extract_list, ba_extract_list, ba_extract_list]
  simp only [List.drop_zero, Nat.sub_zero]
  rw [List.take_take, Nat.min_eq_left h]
theorem extract00 (s : ByteArray) : s.extract 0 0 = ⟨#[]⟩ := by
  apply ba_ext
  rw [ba_extract_list]
  simp
theorem extract_all (s : ByteArray) : s.extract 0 s.size = s := by
  apply ba_ext
  rw [ba_extract_list]
  simp only [List.drop_zero, Nat.sub_zero]
  rw [← ba_len, List.take_length]

def strLen : Value → Nat
  | .string t => t.size
  | _ => 0
set_option maxHeartbeats 400000 in
theorem trimRightByte_any (s : ByteArray) (w : World) (hs : s.size ≤ 9223372036854775807) :
    Calls Tryd.prog 54 #[.string s, .int .u8 0] w fun e w' => e = .returned (.string (trimS s)) ∧ w = w' := by
  have hsI : (s.size : Int) ≤ 9223372036854775807 := by omega
  have hst := extract_all s
  go_enter Tryd.func54, Tryd.ntmps54
  go_wp2
  go_loop [0] (fun v => ∃ k : Nat, v = .string (s.extract 0 k) ∧ k ≤ s.size ∧ trimK s k = trimK s s.size) (fun v => strLen v)
  case atStart => exact ⟨s.size, by rw [hst], Nat.le_refl _, rfl⟩
  case round =>
    obtain ⟨k, rfl, hk, ht⟩ := hrel
    have hz : (s.extract 0 k).size = k := by rw [ByteArray.size_extract]; omega
    cases k with
    | zero =>
      have hT : trimS s = s.extract 0 0 := by unfold trimS; rw [← ht]; rfl
      have HT := Lib.hid hT
      generalize s.extract 0 0 = T at *
      have hzI : (T.size : Int) = 0 := by omega
      clear hT ht
      go_wp2
      go_ret
      exact ⟨by rw [HT.out]; rfl, rfl⟩
    | succ k =>
      have hzI : ((s.extract 0 (k + 1)).size : Int) = (k : Int) + 1 := by omega
      have hlt : k < (s.extract 0 (k + 1)).size := by omega
      have hg : (s.extract 0 (k + 1))[k]'hlt = s[k]'(by omega) := by
        rw [← getB _ k hlt, ← getB s k (by omega), ba_extract_list]
        simp [List.getD]
      have hB := getB s k (by omega)
      have hex := extract_extract0 s (k + 1) k (by omega)
      have hkI : (k : Int) ≤ 9223372036854775806 := by omega
      by_cases h0 : s[k]'(by omega) = 0
      · have hn : trimK s k = trimK s s.size := by rw [← ht, trimK, if_pos (by rw [hB]; exact h0)]
        rw [h0] at hg
        have HN := Lib.hid hn; have HEX := Lib.hid hex
        clear hn hB hex ht h0
        generalize s.extract 0 (k + 1) = T at *
        go_wp2
        go_round
        case rel => exact ⟨k, by rw [HEX.out], by omega, HN.out⟩
        case measure => simp only [strLen, ByteArray.size_extract]; omega
      · have hn : trimS s = s.extract 0 (k + 1) := by unfold trimS; rw [← ht, trimK, if_neg (by rw [hB]; exact h0)]
        have h0n : (s[k]'(by omega)).toNat ≠ 0 := fun h => h0 (UInt8.toNat_inj.1 h)
        rw [← hg] at h0n
        have HN := Lib.hid hn
        clear hn hB hex ht h0 hg
        generalize s.extract 0 (k + 1) = T at *
        go_wp2
        go_ret
        exact ⟨by rw [HN.out]; rfl, rfl⟩
theorem refTrim_any (s : ByteArray) (w : World) (hs : s.size ≤ 9223372036854775807) :
    Calls Tryd.prog 48 #[.string s] w fun e w' => e = .returned (.string (trimS s)) ∧ w = w' := by
  have hsI : (s.size : Int) ≤ 9223372036854775807 := by omega
  go_enter Tryd.func48, Tryd.ntmps48
  go_wp2
  go_loop [3] (fun x => ∃ k : Nat, x = .int .i64 k ∧ k ≤ s.size ∧ trimK s k = trimK s s.size) (fun x => (intOf x).toNat)
  case atStart => exact ⟨s.size, rfl, Nat.le_refl _, rfl⟩
  case round =>
    obtain ⟨k, rfl, hk, ht⟩ := hrel
    cases k with
    | zero =>
      have hT : trimS s = s.extract 0 0 := by unfold trimS; rw [← ht]; rfl
      have HT := Lib.hid hT
      clear hT ht
      go_wp2
      go_ret
      exact ⟨by rw [HT.out, extract00]; rfl, rfl⟩
    | succ k =>
      have hB := getB s k (by omega)
      have hkI : ((k + 1 : Nat) : Int) = (k : Int) + 1 := by omega
      have hkI2 : (k : Int) + 1 ≤ s.size := by omega
      have hks : k < s.size := by omega
      by_cases h0 : s[k]'(by omega) = 0
      · have hn : trimK s k = trimK s s.size := by rw [← ht, trimK, if_pos (by rw [hB]; exact h0)]
        have HN := Lib.hid hn
        clear hn hB ht
        go_wp2
        go_round
        case rel => exact ⟨k, by go_num, by omega, HN.out⟩
        case measure => first | (simp [intOf]; done) | (simp [intOf]; omega)
      · have hn : trimS s = s.extract 0 (k + 1) := by unfold trimS; rw [← ht, trimK, if_neg (by rw [hB]; exact h0)]
        have h0n : (s[k]'(by omega)).toNat ≠ 0 := fun h => h0 (UInt8.toNat_inj.1 h)
        have HN := Lib.hid hn
        clear hn hB ht h0
        go_wp2
        go_ret
        exact ⟨by rw [HN.out]; rfl, rfl⟩
set_option maxRecDepth 100000 in
theorem trimRight_any (s : ByteArray) (w : World) (hs : s.size ≤ 9223372036854775807) :
    Calls Tryd.prog 41 #[.string s, .string ⟨#[0]⟩] w fun e w' => e = .returned (.string (trimS s)) ∧ w = w' := by
  have H := Lib.hid (fun u => trimRightByte_any s u hs)
  by_cases h0 : s = ⟨#[]⟩
  · subst h0
    have hT : trimS ⟨#[]⟩ = ⟨#[]⟩ := by decide
    rw [hT]
    clear H
    go_enter Tryd.func41, Tryd.ntmps41
    go_wp2_with fail
    go_ret
    exact ⟨rfl, rfl⟩
  · have hne := ba_tne h0
    rw [show (⟨#[]⟩ : ByteArray).toList = [] from by rw [ByteArray.toList_eq]] at hne
    have hne1 : ¬ s.toList = [] := fun h => by rw [h] at hne; cases hne
    have hne2 : s.toList.isEmpty = false := by cases h : s.toList with | nil => exact absurd h hne1 | cons _ _ => rfl
    clear h0 hne
    go_enter Tryd.func41, Tryd.ntmps41
    go_wp2_with (first | (go_at_call 54; refine (H.out _).mono ?_; rintro e w' ⟨rfl, rfl⟩))
    go_ret
    exact ⟨rfl, rfl⟩
set_option maxRecDepth 100000 in
theorem leTrim_any (s : ByteArray) (w : World) (hs : s.size ≤ 9223372036854775807) :
    Calls Tryd.prog 20 #[.string s] w fun e w' => e = .returned (.string (trimS s)) ∧ w = w' := by
  have H := Lib.hid (fun u => trimRight_any s u hs)
  go_enter Tryd.func20, Tryd.ntmps20
  go_wp2_with (first | (go_at_call 41; refine (H.out _).mono ?_; rintro e w' ⟨rfl, rfl⟩))
  go_ret
  exact ⟨rfl, rfl⟩
end Go.Proofs.YtimiooiaohfelaaDoor
