/- ref.Bytes. -/
import Derived.Test.YtimiooiaohfelaaDoorSized
namespace Go.Proofs.YtimiooiaohfelaaDoor
open Go.RowKit
set_option linter.unusedVariables false
theorem infoU8r : (Tryd.prog.info? 5).map (fun i => (i.zero, i.size, i.bytes)) = some (some (.int .u8 0), 1, 1) := by kernel_rfl

theorem div256 (n j : Nat) : ((n / 256 ^ j : Nat) : Int) / 256 = ((n / 256 ^ (j + 1) : Nat) : Int) := by
  rw [Nat.pow_succ, ← Nat.div_div_eq_div_mul]; simp
theorem mod256 (m : Nat) : ((m : Int) % 256) = ((UInt8.ofNat (m % 256)).toNat : Int) := by
  rw [u8_mod]; simp

set_option maxHeartbeats 400000 in
theorem refBytes_any (n : Nat) (k : Nat) (w : World) (h1 : n < 18446744073709551616) (hk : k ≤ 1000) :
    Calls Tryd.prog 49 #[.int .u64 n, .int .i64 k] w fun e w' => e = .returned (.tuple #[.string ⟨(putL n k).toArray⟩, .int .u64 (n / 256 ^ k : Nat)]) ∧ Below w.heap.size w w' := by
  obtain ⟨i0, hi, hz0, hz1, hz2⟩ := info_parts infoU8r
  go_enter Tryd.func49, Tryd.ntmps49
  go_wp2
  go_loopw [6, 0, 7] (fun b m c wr => ∃ j : Nat, j ≤ k ∧ c = .int .i64 j ∧ m = .int .u64 (n / 256 ^ j : Nat) ∧ wr.ownsRow w.heap.size 5 1 b j ((putL n j).map fun x => .int .u8 x.toNat) ∧ Below w.heap.size w wr) (fun _ _ c _ => k - (intOf c).toNat)
  case atStart => exact ⟨0, by omega, rfl, by simp, World.ownsRow_made w #[] 0 (Nat.le_refl _) (by unfold maxLen; omega) rfl, (Below.refl _ _).alloc (Nat.le_refl _) _⟩
  case round =>
    obtain ⟨j, hj, rfl, rfl, hown, hbel⟩ := hrel
    by_cases hlt : j < k
    · have hsz := hbel.size
      have hm : n / 256 ^ j < 18446744073709551616 := Nat.lt_of_le_of_lt (Nat.div_le_self _ _) h1
      have hmI : ((n / 256 ^ j : Nat) : Int) ≤ 18446744073709551615 := by omega
      have HD := Lib.hid (div256 n j)
      have HM := Lib.hid (mod256 (n / 256 ^ j))
      have HS := Lib.hid (putL_snoc n j)
      clear hm
      generalize hq : n / 256 ^ j = q at *
      clear hq h1
      go_wp2_with (first | (at_builtin; go_must (refine wpList_push _ _ 81 5 hown hbel (Nat.le_refl _) Tryd.underlying81 hi hz0 hz1 hz2 rfl (by decide) rfl rfl rfl rfl rfl ?c1 ?c2 ?_)))
      case c1 => intro u hu; rw [List.mem_singleton.1 hu]; rfl
      case c2 => omega
      intro v' w1 hown1 hbel1
      clear hown hbel
      go_wp2
      go_roundw
      case rel =>
        refine ⟨j + 1, by omega, by go_num, by rw [HD.out], ?_, hbel1⟩
        rw [HS.out, List.map_append, List.map_cons, List.map_nil, ← HM.out]
        exact hown1
      case measure => simp [intOf]; omega
    · obtain rfl : j = k := by omega
      have hcv := own_string (P := Tryd.prog) (src := 81) (dst := 9) (putL n j) hown Tryd.underlying81 Tryd.underlying5 Tryd.underlying9
      clear hown
      go_wp2
      go_ret2
      exact ⟨rfl, hbel⟩
end Go.Proofs.YtimiooiaohfelaaDoor
