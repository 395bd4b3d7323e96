/- ref.Number, ref.Get. -/
import Derived.Test.YtmanlogclbbgaaaLeGet
import Derived.Test.YtmanlogclbbgaaaLePut
namespace Go.Proofs.Ytmanlogclbbgaaa
open Go.RowKit
set_option linter.unusedVariables false

theorem drop_getL (s : ByteArray) (j : Nat) (h : j < s.size) : getL (s.data.toList.drop j) = s[j].toNat + 256 * getL (s.data.toList.drop (j + 1)) := by
  rw [List.drop_eq_getElem_cons (by rw [ba_len]; exact h)]
  rfl
theorem step256 (x b : Nat) : (256 * x + b) = b + 256 * x := by omega

theorem refNumber_any (s : ByteArray) (w : World) (hs : s.size ≤ 8) :
    Calls Try.prog 64 #[.string s] w fun e w' => e = .returned (.int .u64 (getL s.data.toList : Nat)) ∧ w = w' := by
  go_enter Try.func64, Try.ntmps64
  go_wp2
  go_loop [3, 4] (fun n c => ∃ j : Nat, j ≤ s.size ∧ c = .int .i64 ((j : Int) - 1) ∧ n = .int .u64 (getL (s.data.toList.drop j) : Nat)) (fun _ c => (intOf c + 1).toNat)
  case atStart => exact ⟨s.size, Nat.le_refl _, rfl, by rw [List.drop_of_length_le (by rw [ba_len]; omega)]; rfl⟩
  case round =>
    obtain ⟨j, hj, rfl, rfl⟩ := hrel
    by_cases hlt : 0 < j
    · obtain ⟨i, rfl⟩ : ∃ i, j = i + 1 := ⟨j - 1, by omega⟩
      have hidx : i < s.size := by omega
      have hb : s[i].toNat ≤ 255 := by have := UInt8.toNat_lt s[i]; omega
      have hd := drop_getL s i hidx
      have hle := getL_lt (s.data.toList.drop i)
      have hpw : 256 ^ (s.data.toList.drop i).length ≤ 256 ^ 8 := Nat.pow_le_pow_right (by omega) (by rw [List.length_drop, ba_len]; omega)
      rw [pow256_8] at hpw
      have hle2 : s[i].toNat + 256 * getL (s.data.toList.drop (i + 1)) ≤ 18446744073709551615 := by omega
      have HD := Lib.hid hd
      clear hd hle hpw
      have hii : ((i + 1 : Nat) : Int) - 1 = i := by omega
      go_wp2
      go_round
      case rel => exact ⟨i, by omega, rfl, by rw [HD.out, ← step256]; rfl⟩
      case measure => simp [intOf]
    · obtain rfl : j = 0 := by omega
      go_wp2
      go_ret
      exact ⟨rfl, rfl⟩

theorem refGet_any (s : ByteArray) (p k : Int) (w : World) (hs : s.size ≤ 9223372036854775807) (hp2 : p ≤ 9223372036854775807) :
    Calls Try.prog 54 #[.string s, .int .i64 p, .int .i64 k] w fun e w' => e = .returned (.tuple #[.int .u64 (getN s p k), .int .i64 (getT s p k), .int .i64 (getE s p k)]) ∧ w = w' := by
  by_cases h : 1 ≤ k ∧ k ≤ 8 ∧ 0 ≤ p
  · obtain ⟨h1, h8, h0⟩ := h
    obtain ⟨j, rfl⟩ := Int.eq_ofNat_of_zero_le (show 0 ≤ k by omega)
    obtain ⟨m, rfl⟩ := Int.eq_ofNat_of_zero_le h0
    by_cases hp : (m : Int) + j ≤ s.size
    · have he : getE s m j = 0 := by simp only [getE]; rw [if_pos ⟨h1, h8, h0⟩, if_pos hp]
      have hN : getN s m j = (getL (cutL s m j) : Nat) := by simp [getN, he]
      have hT : getT s m j = m + j := by simp [getT, he]
      have hx : (s.extract m (m + j)).data.toList = cutL s m j := by rw [ba_extract_list]; simp only [cutL]; congr 1; omega
      have hxs : (s.extract m (m + j)).size ≤ 8 := by rw [← ba_len, hx, cutL_length s m j (by omega)]; omega
      have e1 : ((m : Int) + (j : Int)).toNat = m + j := by omega
      have e2 : ((m : Int)).toNat = m := by omega
      have hm1 : (m : Int) ≤ s.size := by omega
      have HE := Lib.hid he; have HN := Lib.hid hN; have HT := Lib.hid hT; have HX := Lib.hid hx; have HXS := Lib.hid hxs; have H1 := Lib.hid e1; have H2 := Lib.hid e2
      clear he hN hT hx hxs e1 e2
      go_enter Try.func54, Try.ntmps54
      go_wp2_with fail
      refine (refNumber_any _ _ HXS.out).mono ?_
      rintro e w' ⟨rfl, rfl⟩
      rw [HX.out]
      go_wp2
      go_ret3
      exact ⟨by rw [HN.out, HT.out, HE.out]; rfl, rfl⟩
    · have he : getE s m j = 3 := by simp only [getE]; rw [if_pos ⟨h1, h8, h0⟩, if_neg hp]
      have hN : getN s m j = 0 := by simp [getN, he]
      have hT : getT s m j = 0 := by simp [getT, he]
      have HE := Lib.hid he; have HN := Lib.hid hN; have HT := Lib.hid hT
      clear he hN hT
      by_cases hm : (s.size : Int) < m
      all_goals
        first | (have hm3 : (s.size : Int) - m < j := by omega) | skip
        go_enter Try.func54, Try.ntmps54
        go_wp2
        go_ret3
        exact ⟨by rw [HN.out, HT.out, HE.out]; rfl, rfl⟩
  · have he : getE s p k = 1 := by simp only [getE]; rw [if_neg h]
    have hN : getN s p k = 0 := by simp [getN, he]
    have hT : getT s p k = 0 := by simp [getT, he]
    have HE := Lib.hid he; have HN := Lib.hid hN; have HT := Lib.hid hT
    clear he hN hT
    by_cases hk1 : k < 1
    · clear h
      go_enter Try.func54, Try.ntmps54
      go_wp2
      go_ret3
      exact ⟨by rw [HN.out, HT.out, HE.out]; rfl, rfl⟩
    · by_cases hk8 : 8 < k
      · clear h
        go_enter Try.func54, Try.ntmps54
        go_wp2
        go_ret3
        exact ⟨by rw [HN.out, HT.out, HE.out]; rfl, rfl⟩
      · have hp : p < 0 := by omega
        clear h
        go_enter Try.func54, Try.ntmps54
        go_wp2
        go_ret3
        exact ⟨by rw [HN.out, HT.out, HE.out]; rfl, rfl⟩
end Go.Proofs.Ytmanlogclbbgaaa
