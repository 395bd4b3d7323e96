/- call.Unpack, where no record is written. -/
import Derived.Test.YtgcngmlndijppaaCal
import Derived.Test.YtgcngmlndijppaaLeGet
import Derived.Test.YtgcngmlndijppaaResRow
namespace Go.Proofs.Ytgcngmlndijppaa
open Go.RowKit
set_option linter.unusedVariables false

theorem pow256_4 : (256:Nat) ^ 4 = 4294967296 := by decide
theorem leGet_4 (s : ByteArray) (p : Nat) (w : World) (hs : s.size ≤ 9223372036854775807) (hp : p + 4 ≤ s.size) :
    Calls Try.prog 44 #[.string s, .int .i64 p, .int .i64 4] w fun e w' => e = .returned (.tuple #[.int .u64 (getL (cutL s p 4) : Nat), .int .i64 ((p + 4 : Nat) : Int), .int .i64 0]) ∧ w = w' :=
  leGet_ok s p 4 w hs (by omega) (by omega) hp

theorem cutL4_le (s : ByteArray) (p : Nat) (hp : p + 4 ≤ s.size) : getL (cutL s p 4) ≤ 4294967295 := by
  have := getL_lt (cutL s p 4)
  rw [cutL_length _ _ _ hp, pow256_4] at this
  omega

theorem leGet_8 (s : ByteArray) (p : Nat) (w : World) (hs : s.size ≤ 9223372036854775807) (hp : p + 8 ≤ s.size) :
    Calls Try.prog 44 #[.string s, .int .i64 p, .int .i64 8] w fun e w' => e = .returned (.tuple #[.int .u64 (getL (cutL s p 8) : Nat), .int .i64 ((p + 8 : Nat) : Int), .int .i64 0]) ∧ w = w' :=
  leGet_ok s p 8 w hs (by omega) (by omega) hp
theorem cutL8_le (s : ByteArray) (p : Nat) (hp : p + 8 ≤ s.size) : getL (cutL s p 8) ≤ 18446744073709551615 := by
  have := getL_lt (cutL s p 8)
  rw [cutL_length _ _ _ hp, pow256_8] at this
  omega

/-- the call of 64 bytes -/
def unpArg (s : ByteArray) (i : Nat) : Nat := getL (cutL s (16 + 8 * i) 8)
def unpCal (s : ByteArray) : Cal := ⟨getL (cutL s 0 4), getL (cutL s 4 4), getL (cutL s 8 8), (List.range 6).map (unpArg s)⟩
theorem unpCal_ok (s : ByteArray) (h : s.size = 64) : (unpCal s).ok := by
  refine ⟨cutL4_le _ _ (by omega), cutL4_le _ _ (by omega), cutL8_le _ _ (by omega), by simp [unpCal], ?_⟩
  intro a ha
  simp only [unpCal, List.mem_map, List.mem_range] at ha
  obtain ⟨i, hi, rfl⟩ := ha
  exact cutL8_le _ _ (by omega)
/-- its cells, after so many arguments -/
def unpCells (s : ByteArray) (i : Nat) : Array Value :=
  (.int .u32 (getL (cutL s 0 4) : Nat) :: .int .u32 (getL (cutL s 4 4) : Nat) :: .int .u64 (getL (cutL s 8 8) : Nat) :: (((List.range i).map fun j => Value.int .u64 (unpArg s j : Nat)) ++ List.replicate (6 - i) (Value.int .u64 0))).toArray
theorem unpCells_set (s : ByteArray) (i : Nat) (hi : i < 6) : (unpCells s i).setIfInBounds (3 + i) (.int .u64 (unpArg s i : Nat)) = unpCells s (i + 1) := by
  have hc : i = 0 ∨ i = 1 ∨ i = 2 ∨ i = 3 ∨ i = 4 ∨ i = 5 := by omega
  rcases hc with rfl | rfl | rfl | rfl | rfl | rfl <;> rfl
theorem unpCells_get (s : ByteArray) (i : Nat) (hi : i < 6) : (unpCells s i)[3 + i]? = some (.int .u64 0) := by
  have hc : i = 0 ∨ i = 1 ∨ i = 2 ∨ i = 3 ∨ i = 4 ∨ i = 5 := by omega
  rcases hc with rfl | rfl | rfl | rfl | rfl | rfl <;> rfl
theorem unpCells_six (s : ByteArray) : unpCells s 6 = (unpCal s).cells.toArray := rfl
theorem unpCells_size (s : ByteArray) (i : Nat) (hi : i ≤ 6) : (unpCells s i).size = 9 := by
  simp [unpCells]; omega

set_option maxRecDepth 100000 in
set_option maxHeartbeats 1000000 in
theorem callUnpack_ok (s : ByteArray) (w : World) (hs : s.size = 64) :
    Calls Try.prog 28 #[.string s] w fun e w' => e = .returned (.tuple #[(unpCal s).value, .int .i64 0]) ∧ Below w.heap.size w w' := by
  have hx1 := cutL4_le s 0 (by omega)
  have hx2 := cutL4_le s 4 (by omega)
  have hx3 := cutL8_le s 8 (by omega)
  have H0 : Hid (unpCells s 0 = #[.int .u32 (getL (cutL s 0 4) : Nat), .int .u32 (getL (cutL s 4 4) : Nat), .int .u64 (getL (cutL s 8 8) : Nat), .int .u64 0, .int .u64 0, .int .u64 0, .int .u64 0, .int .u64 0, .int .u64 0]) := rfl
  have H6 : Hid (unpCells s 6 = #[.int .u32 (getL (cutL s 0 4) : Nat), .int .u32 (getL (cutL s 4 4) : Nat), .int .u64 (getL (cutL s 8 8) : Nat), .int .u64 (unpArg s 0 : Nat), .int .u64 (unpArg s 1 : Nat), .int .u64 (unpArg s 2 : Nat), .int .u64 (unpArg s 3 : Nat), .int .u64 (unpArg s 4 : Nat), .int .u64 (unpArg s 5 : Nat)]) := rfl
  have HV : Hid ((unpCal s).value = .agg #[.int .u32 (getL (cutL s 0 4) : Nat), .int .u32 (getL (cutL s 4 4) : Nat), .int .u64 (getL (cutL s 8 8) : Nat), .int .u64 (unpArg s 0 : Nat), .int .u64 (unpArg s 1 : Nat), .int .u64 (unpArg s 2 : Nat), .int .u64 (unpArg s 3 : Nat), .int .u64 (unpArg s 4 : Nat), .int .u64 (unpArg s 5 : Nat)]) := rfl
  have HS := Lib.hid (unpCells_set s)
  have HGT := Lib.hid (unpCells_get s)
  have HA := Lib.hid (fun i u (hi : i < 6) => leGet_8 s (16 + 8 * i) u (by omega) (by omega))
  have HAB := Lib.hid (fun i (hi : i < 6) => cutL8_le s (16 + 8 * i) (by omega))
  have HG1 := Lib.hid (fun u => leGet_4 s 0 u (by omega) (by omega))
  have HG2 := Lib.hid (fun u => leGet_4 s 4 u (by omega) (by omega))
  have HG3 := Lib.hid (fun u => leGet_8 s 8 u (by omega) (by omega))
  obtain ⟨x1, e1⟩ : ∃ x, x = getL (cutL s 0 4) := ⟨_, rfl⟩
  obtain ⟨x2, e2⟩ : ∃ x, x = getL (cutL s 4 4) := ⟨_, rfl⟩
  obtain ⟨x3, e3⟩ : ∃ x, x = getL (cutL s 8 8) := ⟨_, rfl⟩
  rw [← e1] at hx1 H0 H6 HV HG1
  rw [← e2] at hx2 H0 H6 HV HG2
  rw [← e3] at hx3 H0 H6 HV HG3
  clear e1 e2 e3
  have hsz : ((s.size : Int) != 64) = false := by rw [bne_eq_false_iff_eq]; omega
  have n1 : (x1 : Int) ≤ 4294967295 := by omega
  have n2 : (x2 : Int) ≤ 4294967295 := by omega
  have n3 : (x3 : Int) ≤ 18446744073709551615 := by omega
  clear hx1 hx2 hx3 hs
  go_enter Try.func28, Try.ntmps28
  go_wp2_with fail
  refine (HG1.out _).mono ?_
  rintro e w1 ⟨rfl, rfl⟩
  go_wp2_with fail
  refine (HG2.out _).mono ?_
  rintro e w1 ⟨rfl, rfl⟩
  go_wp2_with fail
  refine (HG3.out _).mono ?_
  rintro e w1 ⟨rfl, rfl⟩
  go_wp2_with fail
  rw [← H0.out]
  clear HG1 HG2 HG3
  go_loopw [5, 43] (fun p k wr => ∃ i : Nat, i ≤ 6 ∧ k = .int .i64 i ∧ p = .int .i64 (16 + 8 * (i : Int)) ∧ wr = (w.alloc (.cells #[.int .u32 0, .int .u32 0, .int .u64 0, .int .u64 0, .int .u64 0, .int .u64 0, .int .u64 0, .int .u64 0, .int .u64 0] 29)).alloc (.cells (unpCells s i) 29)) (fun _ k _ => 6 - (intOf k).toNat)
  case atStart => exact ⟨0, by omega, rfl, rfl, rfl⟩
  case round =>
    obtain ⟨i, hi, rfl, rfl, rfl⟩ := hrel
    by_cases hlt : i < 6
    · have hc := fun u => HA.out i u hlt
      have hxb := HAB.out i hlt
      have hset := HS.out i hlt
      rw [← show unpArg s i = getL (cutL s (16 + 8 * i) 8) from rfl] at hc hxb
      obtain ⟨x, ex⟩ : ∃ x, x = unpArg s i := ⟨_, rfl⟩
      rw [← ex] at hc hset hxb
      simp only [Int.natCast_add, Int.natCast_mul] at hc
      have HC := Lib.hid hc
      have HT := Lib.hid hset
      have hxI : (x : Int) ≤ 18446744073709551615 := by omega
      clear ex hc hset hxb
      go_wp2_with fail
      refine (HC.out _).mono ?_
      rintro e w1 ⟨rfl, rfl⟩
      have hget := HGT.out i hlt
      go_wp2_with fail
      exact ⟨⟨i + 1, by omega, by go_num, by congr 1, by rw [HT.out]⟩, by simp [intOf]; omega⟩
    · obtain rfl : i = 6 := by omega
      rw [H6.out]
      have hv := HV.out
      generalize unpArg s 0 = y0 at *
      generalize unpArg s 1 = y1 at *
      generalize unpArg s 2 = y2 at *
      generalize unpArg s 3 = y3 at *
      generalize unpArg s 4 = y4 at *
      generalize unpArg s 5 = y5 at *
      have HV2 := Lib.hid hv
      clear hv
      go_wp2_with fail
      refine bodyPost_ret (results_row_tmp rfl _ _ w.heap.size _ _ _ _ rfl (by rw [heap_alloc_old _ _ (by simp)]; exact heap_alloc_new _ _) Try.underlying29 rfl (by kernel_rfl)) rfl ⟨by rw [HV2.out]; rfl, ((Below.refl _ _).alloc (Nat.le_refl _) _).alloc (by simp) _⟩

theorem callUnpack_bad (s : ByteArray) (w : World) (hs : s.size ≠ 64) :
    Calls Try.prog 28 #[.string s] w fun e w' => e = .returned (.tuple #[(Cal.mk 0 0 0 [0, 0, 0, 0, 0, 0]).value, .int .i64 52]) ∧ Below w.heap.size w w' := by
  have hsz : ((s.size : Int) != 64) = true := by rw [bne_iff_ne]; omega
  go_enter Try.func28, Try.ntmps28
  go_wp2_with fail
  exact bodyPost_ret (results_row_tmp rfl _ _ w.heap.size _ _ _ _ rfl (heap_alloc_new _ _) Try.underlying29 rfl (by kernel_rfl)) rfl ⟨rfl, (Below.refl _ _).alloc (Nat.le_refl _) _⟩
def zeroCal : Cal := ⟨0, 0, 0, [0, 0, 0, 0, 0, 0]⟩
theorem zeroCal_ok : zeroCal.ok := ⟨by simp [zeroCal], by simp [zeroCal], by simp [zeroCal], rfl, by simp [zeroCal]⟩
def unpC (s : ByteArray) : Cal := if s.size = 64 then unpCal s else zeroCal
def unpE (s : ByteArray) : Int := if s.size = 64 then 0 else 52
theorem unpC_ok (s : ByteArray) : (unpC s).ok := by
  unfold unpC
  split
  · exact unpCal_ok s (by assumption)
  · exact zeroCal_ok
theorem callUnpack_any (s : ByteArray) (w : World) :
    Calls Try.prog 28 #[.string s] w fun e w' => e = .returned (.tuple #[(unpC s).value, .int .i64 (unpE s)]) ∧ Below w.heap.size w w' := by
  unfold unpC unpE
  by_cases h : s.size = 64
  · rw [if_pos h, if_pos h]; exact callUnpack_ok s w h
  · rw [if_neg h, if_neg h]; exact callUnpack_bad s w h
end Go.Proofs.Ytgcngmlndijppaa
