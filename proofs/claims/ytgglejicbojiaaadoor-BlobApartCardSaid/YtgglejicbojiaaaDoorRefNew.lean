/- A new row, by the reference. -/
import Derived.Test.YtgglejicbojiaaaDoorRoomN
namespace Go.Proofs.YtgglejicbojiaaaDoor
open Go.RowKit
set_option linter.unusedVariables false

set_option maxHeartbeats 400000 in
theorem refNew_any (n : Nat) (w : World) (h2 : n ≤ 256) :
    Calls Tryd.prog 12 #[.int .i64 n] w (OneBools (newL n) w) := by
  obtain ⟨i0, hi, hz0, hz1, hz2⟩ := info_parts infoBool
  have hn2 : (n : Int) ≤ 256 := by omega
  have hS : ∀ k, k < n → (List.range (k + 1)).map (fun i => Value.bool (decide (i < 54))) = (List.range k).map (fun i => Value.bool (decide (i < 54))) ++ [Value.bool (decide ((k : Int) < 54))] := by
    intro k _
    rw [List.range_succ, List.map_append]
    simp
    omega
  have HS := Lib.hid hS
  clear hS
  go_enter Tryd.func12, Tryd.ntmps12
  go_wp2
  go_loopw [3, 4] (fun b c wr => ∃ k : Nat, k ≤ n ∧ c = .int .i64 k ∧ wr.ownsRow w.heap.size 4 1 b k ((List.range k).map fun i => Value.bool (decide (i < 54))) ∧ Below w.heap.size w wr) (fun _ c _ => n - (intOf c).toNat)
  case atStart => exact ⟨0, by omega, rfl, World.ownsRow_made w #[] 0 (Nat.le_refl _) (by unfold maxLen; omega) rfl, (Below.refl _ _).alloc (Nat.le_refl _) _⟩
  case round =>
    obtain ⟨k, hk, rfl, hown, hbel⟩ := hrel
    by_cases hlt : k < n
    · have HO := Lib.hid hown
      clear hown
      go_wp2_with (first | (at_builtin; go_must (refine wpList_push _ _ 22 4 HO.out hbel (Nat.le_refl _) Tryd.underlying22 hi hz0 hz1 hz2 rfl (by decide) rfl rfl rfl rfl rfl ?c1 ?c2 ?_)))
      case c1 => intro u hu; rw [List.mem_singleton.1 hu]; rfl
      case c2 => omega
      intro v' w1 hown1 hbel1
      have HO1 := Lib.hid hown1
      clear hbel hown1
      go_wp2
      go_roundw
      case rel =>
        refine ⟨k + 1, by omega, by go_num, ?_, hbel1⟩
        rw [HS.out k hlt]
        exact HO1.out
      case measure => simp [intOf]; omega
    · obtain rfl : k = n := by omega
      have hr := hown
      rw [show ((List.range k).map fun i => Value.bool (decide (i < 54))) = (newL k).map Value.bool from by rw [newL, newK, List.map_map]; rfl] at hr
      have HR := Lib.hid (own_reads1 hr (newK_len k 54))
      clear hown hr
      go_wp2
      go_ret
      exact ⟨_, rfl, HR.out, hbel⟩

end Go.Proofs.YtgglejicbojiaaaDoor
