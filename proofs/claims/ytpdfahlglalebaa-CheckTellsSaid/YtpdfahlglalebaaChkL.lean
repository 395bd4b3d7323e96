/- What the laws of layer 12 share. -/
import Derived.Test.YtpdfahlglalebaaChkM
import Derived.Test.YtpdfahlglalebaaInsOwn
namespace Go.Proofs.Ytpdfahlglalebaa
open Go.RowKit Go.ChangeShapes
set_option linter.unusedVariables false

theorem alive_one : checkV [⟨6, 0, 0, 0⟩] = .tuple #[.int .i64 0, .int .i64 0] := by
  have hw : allWell [⟨6, 0, 0, 0⟩] := by decide +kernel
  unfold checkV
  rw [if_pos hw]
  rfl
theorem alive_none : checkV [] = .tuple #[.int .i64 0, .int .i64 51] := by
  unfold checkV
  rw [if_neg (fun h => by have := h.1; simp at this)]
  rfl
set_option maxRecDepth 100000 in
set_option maxHeartbeats 400000 in
theorem chkAlive (w : World) : Calls Try.prog 12 #[] w fun e w' => e = .returned (.bool true) ∧ Below w.heap.size w w' := by
  have hI : IsInsns (w.alloc (.cells #[.int .i64 6, .int .i64 0, .int .i64 0, .int .u32 0] 38)) (.slice (some ⟨w.heap.size, 0, none⟩) 1 1) [⟨6, 0, 0, 0⟩] := by
    have hB := heap_alloc_new w (.cells #[.int .i64 6, .int .i64 0, .int .i64 0, .int .u32 0] 38)
    refine ⟨_, 1, 1, rfl, rfl, by omega, by omega, ?_, .inr ⟨w.heap.size, 0, rfl, by simp, fun i hi => ?_⟩⟩
    · intro i hi
      obtain rfl : i = ⟨6, 0, 0, 0⟩ := by simpa using hi
      unfold Ins.bounded; simp only; omega
    · obtain rfl : i = 0 := by omega
      exact ⟨below_cell (Below.refl _ _) hB 0 rfl, below_cell (Below.refl _ _) hB 1 rfl, below_cell (Below.refl _ _) hB 2 rfl, below_cell (Below.refl _ _) hB 3 rfl⟩
  have hC1 := chkCheck_any [⟨6, 0, 0, 0⟩] (.slice (some ⟨w.heap.size, 0, none⟩) 1 1) _ hI
  rw [alive_one] at hC1
  have hC2 := fun u => chkCheck_any [] (.slice none 0 0) u ⟨none, 0, 0, rfl, rfl, by omega, by omega, by simp, .inl rfl⟩
  rw [alive_none] at hC2
  have hw0 := (Below.refl w.heap.size w).alloc (Nat.le_refl _) (.cells #[.int .i64 6, .int .i64 0, .int .i64 0, .int .u32 0] 38)
  have HC1 := Lib.hid hC1; have HC2 := Lib.hid hC2; have HW0 := Lib.hid hw0
  clear hC1 hC2 hI hw0
  go_enter Try.func12, Try.ntmps12
  go_wp2_with fail
  refine HC1.out.mono ?_
  rintro e w2 ⟨rfl, hb2⟩
  have HW2 := Lib.hid (HW0.out.trans (hb2.mono HW0.out.size))
  clear hb2
  go_wp2_with fail
  refine (HC2.out _).mono ?_
  rintro e w3 ⟨rfl, hb3⟩
  have HW3 := Lib.hid (HW2.out.trans (hb3.mono HW2.out.size))
  clear hb3
  go_wp2_with fail
  go_ret
  exact ⟨rfl, HW3.out⟩
def fewN (len : Nat) : Nat := if 60 < len ∧ len ≤ 4096 then 60 else min len 4100
theorem fewN_le (len : Nat) : fewN len ≤ len ∧ fewN len ≤ 4100 := by unfold fewN; split <;> omega
set_option maxRecDepth 100000 in
theorem chkFew_at (a : Option Addr) (len cap : Nat) (w : World) (h1 : len ≤ cap) (h2 : cap ≤ 9223372036854775807) :
    Calls Try.prog 7 #[.slice a len cap] w fun e w' => e = .returned (.slice a (fewN len) cap) ∧ w = w' := by
  have hcI : (cap : Int) ≤ 9223372036854775807 := by omega
  have hlI : (len : Int) ≤ cap := by omega
  unfold fewN
  by_cases h60 : 60 < len
  · have h60I : (60 : Int) < len := by omega
    by_cases h4 : len ≤ 4096
    · rw [if_pos ⟨h60, h4⟩]
      have h4I : (len : Int) ≤ 4096 := by omega
      have hc60 : (60 : Int) ≤ cap := by omega
      go_enter Try.func7, Try.ntmps7
      go_wp2_with fail
      go_ret
      exact ⟨rfl, rfl⟩
    · rw [if_neg (by omega)]
      have h4I : (4096 : Int) < len := by omega
      obtain ⟨m, hm, hm1, hm2, hm3⟩ := min_if len 4100 (by omega)
      have hm4 : min len 4100 = m := by omega
      rw [hm4]
      have hmI : (m : Int) ≤ cap := by omega
      have hmi : min (len : Int) 4100 = m := by omega
      clear hm3 hm4
      go_enter Try.func7, Try.ntmps7
      go_wp2_with fail
      go_ret
      exact ⟨rfl, rfl⟩
  · rw [if_neg (by omega)]
    have h60I : (len : Int) ≤ 60 := by omega
    rw [show min len 4100 = len by omega]
    have hm : (if (4100 : Int) < (len : Int) then (4100 : Int) else (len : Int)) = len := by rw [if_neg (by omega)]
    have hmi : min (len : Int) 4100 = len := by omega
    go_enter Try.func7, Try.ntmps7
    go_wp2_with fail
    go_ret
    exact ⟨rfl, rfl⟩
end Go.Proofs.Ytpdfahlglalebaa
