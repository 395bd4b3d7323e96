/- ref.Number, ref.Get. -/
import Derived.Test.YtimiooiaohfelaaDoorLeGet
namespace Go.Proofs.YtimiooiaohfelaaDoor
open Go.RowKit
set_option linter.unusedVariables false

theorem drop_getL (s : ByteArray) (j : Nat) (h : j < s.size) : getL (s.data.toList.drop j) = s[j].toNat + 256 * getL (s.data.toList.drop (j + 1)) := by
  rw [List.drop_eq_getElem_cons (by rw [ba_len]; exact h)]
  rfl
theorem step256 (x b : Nat) : (256 * x + b) = b + 256 * x := by omega

theorem refNumber_any (s : ByteArray) (w : World) (hs : s.size ≤ 8) :
    Calls Tryd.prog 32 #[.string s] w fun e w' => e = .returned (.int .u64 (getL s.data.toList : Nat)) ∧ w = w' := by
  go_enter Tryd.func32, Tryd.ntmps32
  go_wp2
  go_loop [3, 4] (fun n c => ∃ j : Nat, j ≤ s.size ∧ c = .int .i64 ((j : Int) - 1) ∧ n = .int .u64 (getL (s.data.toList.drop j) : Nat)) (fun _ c => (intOf c + 1).toNat)
  case atStart => exact ⟨s.size, Nat.le_refl _, rfl, by rw [List.drop_of_length_le (by rw [ba_len]; omega)]; rfl⟩
  case round =>
    obtain ⟨j, hj, rfl, rfl⟩ := hrel
    by_cases hlt : 0 < j
    · obtain ⟨i, rfl⟩ : ∃ i, j = i + 1 := ⟨j - 1, by omega⟩
      have hidx : i < s.size := by omega
      have hb : s[i].toNat ≤ 255 := by have := UInt8.toNat_lt s[i]; omega
      have hd := drop_getL s i hidx
      have hle := getL_lt (s.data.toList.drop i)
      have hpw : 256 ^ (s.data.toList.drop i).length ≤ 256 ^ 8 := Nat.pow_le_pow_right (by omega) (by rw [List.length_drop, ba_len]; omega)
      rw [pow256_8] at hpw
      have hle2 : s[i].toNat + 256 * getL (s.data.toList.drop (i + 1)) ≤ 18446744073709551615 := by omega
      have HD := Lib.hid hd
      clear hd hle hpw
      have hii : ((i + 1 : Nat) : Int) - 1 = i := by omega
      go_wp2
      go_round
      case rel => exact ⟨i, by omega, rfl, by rw [HD.out, ← step256]; rfl⟩
      case measure => simp [intOf]
    · obtain rfl : j = 0 := by omega
      go_wp2
      go_ret
      exact ⟨rfl, rfl⟩

end Go.Proofs.YtimiooiaohfelaaDoor
