/- How many are free, by the reference. -/
import Derived.Test.YtgglejicbojiaaaDoorRoom
namespace Go.Proofs.YtgglejicbojiaaaDoor
open Go.ChangeShapes Go.WideShapes Go.ChangeAt Go.RowKit Go.Joins Go.Deep
set_option linter.unusedVariables false

set_option maxHeartbeats 400000 in
theorem refFree_any (v : Value) (l : List Bool) (w : World) (h : IsBools w v l) :
    Calls Tryd.prog 13 #[v] w fun e w' => e = .returned (.int .i64 (freeN l : Nat)) ∧ w = w' := by
  obtain ⟨a, len, cap, rfl, hlen, hc1, hc2, hat⟩ := h
  have hlI : (len : Int) ≤ 9223372036854775807 := by omega
  have HA := Lib.hid hat; have HL := Lib.hid hlen
  clear hat hlen
  go_enter Tryd.func13, Tryd.ntmps13
  go_wp2
  go_loop [3, 10] (fun n c => ∃ k : Nat, k ≤ len ∧ c = .int .i64 k ∧ n = .int .i64 ((len : Int) - k + (freeN (l.take k) : Nat))) (fun _ c => len - (intOf c).toNat)
  case atStart => exact ⟨0, by omega, rfl, by simp [freeN]⟩
  case round =>
    obtain ⟨k, hk, rfl, rfl⟩ := hrel
    by_cases hlt : k < len
    · obtain ⟨b, off, rfl, hb, hat⟩ := HA.out.resolve_left (by omega)
      have hkl : k < l.length := by have := HL.out; omega
      have hc := hat k hkl
      have hsn := freeN_snoc l k hkl
      have hle := freeN_le l k
      have hle2 : (freeN (l.take k) : Int) ≤ k := by omega
      generalize freeN (l.take k) = F at *
      clear hat hle
      cases hB : l[k]
      · rw [hB] at hc hsn
        have HS := Lib.hid hsn
        clear hsn hB
        go_wp2
        go_round
        case rel => exact ⟨k + 1, by omega, by go_num, by rw [HS.out]; simp; omega⟩
        case measure => simp [intOf]; omega
      · rw [hB] at hc hsn
        have HS := Lib.hid hsn
        clear hsn hB
        go_wp2
        go_round
        case rel => exact ⟨k + 1, by omega, by go_num, by rw [HS.out]; simp; omega⟩
        case measure => simp [intOf]; omega
    · obtain rfl : k = len := by omega
      have hall : l.take k = l := List.take_of_length_le (by have := HL.out; omega)
      rw [hall]
      clear hall
      go_wp2
      go_ret
      exact ⟨by simp, rfl⟩
end Go.Proofs.YtgglejicbojiaaaDoor
