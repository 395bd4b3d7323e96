/- The reference's Unpack, where no record is written. -/
import Derived.Test.YtgcngmlndijppaaCUnp
import Derived.Test.YtgcngmlndijppaaRef01Num
import Derived.Deep.RegionWith
namespace Go.Proofs.Ytgcngmlndijppaa
open Go.RowKit
set_option linter.unusedVariables false

theorem refNumber_cut (s : ByteArray) (p k q : Nat) (w : World) (hk : k ≤ 8) (hq : q = p + k) (hs : p + k ≤ s.size) :
    Calls Try.prog 45 #[.string (s.extract p q)] w fun e w' => e = .returned (.int .u64 (getL (cutL s p k) : Nat)) ∧ w = w' := by
  have h := refNumber_any (s.extract p q) w (by rw [ByteArray.size_extract]; omega)
  rw [ba_extract_list, hq, Nat.add_sub_cancel_left] at h
  rw [hq]
  exact h

set_option maxRecDepth 100000 in
set_option maxHeartbeats 2000000 in
theorem refUnpack_ok (s : ByteArray) (w : World) (hs : s.size = 64) :
    Calls Try.prog 29 #[.string s] w fun e w' => e = .returned (.tuple #[(unpCal s).value, .int .i64 0]) ∧ Below w.heap.size w w' := by
  have hx1 := cutL4_le s 0 (by omega)
  have hx2 := cutL4_le s 4 (by omega)
  have hx3 := cutL8_le s 8 (by omega)
  have H0 : Hid (unpCells s 0 = #[.int .u32 (getL (cutL s 0 4) : Nat), .int .u32 (getL (cutL s 4 4) : Nat), .int .u64 (getL (cutL s 8 8) : Nat), .int .u64 0, .int .u64 0, .int .u64 0, .int .u64 0, .int .u64 0, .int .u64 0]) := rfl
  have H6 : Hid (unpCells s 6 = #[.int .u32 (getL (cutL s 0 4) : Nat), .int .u32 (getL (cutL s 4 4) : Nat), .int .u64 (getL (cutL s 8 8) : Nat), .int .u64 (unpArg s 0 : Nat), .int .u64 (unpArg s 1 : Nat), .int .u64 (unpArg s 2 : Nat), .int .u64 (unpArg s 3 : Nat), .int .u64 (unpArg s 4 : Nat), .int .u64 (unpArg s 5 : Nat)]) := rfl
  have HV : Hid ((unpCal s).value = .agg #[.int .u32 (getL (cutL s 0 4) : Nat), .int .u32 (getL (cutL s 4 4) : Nat), .int .u64 (getL (cutL s 8 8) : Nat), .int .u64 (unpArg s 0 : Nat), .int .u64 (unpArg s 1 : Nat), .int .u64 (unpArg s 2 : Nat), .int .u64 (unpArg s 3 : Nat), .int .u64 (unpArg s 4 : Nat), .int .u64 (unpArg s 5 : Nat)]) := rfl
  have HS := Lib.hid (unpCells_set s)
  have HGT := Lib.hid (unpCells_get s)
  have HA := Lib.hid (fun i u (hi : i < 6) => refNumber_cut s (16 + 8 * i) 8 (24 + 8 * i) u (by omega) (by omega) (by omega))
  have HAB := Lib.hid (fun i (hi : i < 6) => cutL8_le s (16 + 8 * i) (by omega))
  have HG1 := Lib.hid (fun u => refNumber_cut s 0 4 4 u (by omega) (by omega) (by omega))
  have HG2 := Lib.hid (fun u => refNumber_cut s 4 4 8 u (by omega) (by omega) (by omega))
  have HG3 := Lib.hid (fun u => refNumber_cut s 8 8 16 u (by omega) (by omega) (by omega))
  obtain ⟨x1, e1⟩ : ∃ x, x = getL (cutL s 0 4) := ⟨_, rfl⟩
  obtain ⟨x2, e2⟩ : ∃ x, x = getL (cutL s 4 4) := ⟨_, rfl⟩
  obtain ⟨x3, e3⟩ : ∃ x, x = getL (cutL s 8 8) := ⟨_, rfl⟩
  rw [← e1] at hx1 H0 H6 HV HG1
  rw [← e2] at hx2 H0 H6 HV HG2
  rw [← e3] at hx3 H0 H6 HV HG3
  clear e1 e2 e3
  have hsz : ((s.size : Int) != 64) = false := by rw [bne_eq_false_iff_eq]; omega
  have hszI : (s.size : Int) = 64 := by omega
  have n1 : (x1 : Int) ≤ 4294967295 := by omega
  have n2 : (x2 : Int) ≤ 4294967295 := by omega
  have n3 : (x3 : Int) ≤ 18446744073709551615 := by omega
  clear hx1 hx2 hx3
  have hs2 : (64 : Int) ≤ s.size := by omega
  have HSZ := Lib.hid hs
  clear hs
  go_enter Try.func29, Try.ntmps29
  go_wp2_with fail
  have hw1 : IntKind.u32.wrap (x1 : Int) = x1 := by simp [IntKind.wrap, IntKind.signed, IntKind.bits]; omega
  have hw2 : IntKind.u32.wrap (x2 : Int) = x2 := by simp [IntKind.wrap, IntKind.signed, IntKind.bits]; omega
  go_region_with (first | (go_at_call_of 45 (Value.string (s.extract 0 4)); refine (HG1.out _).mono ?_; rintro e w1 ⟨rfl, rfl⟩) | (go_at_call_of 45 (Value.string (s.extract 4 8)); refine (HG2.out _).mono ?_; rintro e w1 ⟨rfl, rfl⟩) | (go_at_call_of 45 (Value.string (s.extract 8 16)); refine (HG3.out _).mono ?_; rintro e w1 ⟨rfl, rfl⟩))
  all_goals clear HG1 HG2 HG3
  all_goals go_wp2_with fail
  all_goals rw [← H0.out]
  all_goals
    go_loopw [5] (fun k wr => ∃ i : Nat, i ≤ 6 ∧ k = .int .i64 i ∧ wr = ((w.alloc (.cells #[.int .u32 0, .int .u32 0, .int .u64 0, .int .u64 0, .int .u64 0, .int .u64 0, .int .u64 0, .int .u64 0, .int .u64 0] 29)).alloc (.cells (unpCells s i) 29)).drew) (fun k _ => 6 - (intOf k).toNat)
    case atStart => exact ⟨0, by omega, rfl, rfl⟩
    case round =>
      obtain ⟨i, hi, rfl, rfl⟩ := hrel
      by_cases hlt : i < 6
      · have hc := fun u => HA.out i u hlt
        have hxb := HAB.out i hlt
        have hset := HS.out i hlt
        rw [← show unpArg s i = getL (cutL s (16 + 8 * i) 8) from rfl] at hc hxb
        obtain ⟨x, ex⟩ : ∃ x, x = unpArg s i := ⟨_, rfl⟩
        rw [← ex] at hc hset hxb
        have HC := Lib.hid hc
        have HT := Lib.hid hset
        have hxI : (x : Int) ≤ 18446744073709551615 := by omega
        clear ex hc hset hxb
        have hget := HGT.out i hlt
        go_wp2_with fail
        refine (HC.out _).mono ?_
        rintro e w1 ⟨rfl, rfl⟩
        go_wp2_with fail
        first
          | exact ⟨⟨i + 1, by omega, by go_num, by rw [HT.out]⟩, by simp [intOf]; omega⟩
          | (go_roundw
             case rel => exact ⟨i + 1, by omega, by go_num, by rw [← HT.out]; rfl⟩
             case measure => simp [intOf]; omega)
      · obtain rfl : i = 6 := by omega
        rw [H6.out]
        have hv := HV.out
        generalize unpArg s 0 = y0 at *
        generalize unpArg s 1 = y1 at *
        generalize unpArg s 2 = y2 at *
        generalize unpArg s 3 = y3 at *
        generalize unpArg s 4 = y4 at *
        generalize unpArg s 5 = y5 at *
        have HV2 := Lib.hid hv
        clear hv
        go_wp2_with fail
        exact bodyPost_ret (results_row_tmp rfl _ _ w.heap.size 29 #[.int .u32 (x1 : Nat), .int .u32 (x2 : Nat), .int .u64 (x3 : Nat), .int .u64 (y0 : Nat), .int .u64 (y1 : Nat), .int .u64 (y2 : Nat), .int .u64 (y3 : Nat), .int .u64 (y4 : Nat), .int .u64 (y5 : Nat)] (0, 0) _ rfl
          (Eq.trans (heap_alloc_old _ _ (by simp)) (heap_alloc_new w _)) Try.underlying29 rfl (by kernel_rfl)) rfl ⟨by rw [HV2.out]; rfl, (((Below.refl _ _).alloc (Nat.le_refl _) _).alloc (by simp) _).drew⟩

theorem refUnpack_bad (s : ByteArray) (w : World) (hs : s.size ≠ 64) :
    Calls Try.prog 29 #[.string s] w fun e w' => e = .returned (.tuple #[zeroCal.value, .int .i64 52]) ∧ Below w.heap.size w w' := by
  have hsz : ((s.size : Int) != 64) = true := by rw [bne_iff_ne]; omega
  go_enter Try.func29, Try.ntmps29
  go_wp2_with fail
  exact bodyPost_ret (results_row_tmp rfl _ _ w.heap.size _ _ _ _ rfl (heap_alloc_new _ _) Try.underlying29 rfl (by kernel_rfl)) rfl ⟨rfl, (Below.refl _ _).alloc (Nat.le_refl _) _⟩
theorem refUnpack_any (s : ByteArray) (w : World) :
    Calls Try.prog 29 #[.string s] w fun e w' => e = .returned (.tuple #[(unpC s).value, .int .i64 (unpE s)]) ∧ Below w.heap.size w w' := by
  unfold unpC unpE
  by_cases h : s.size = 64
  · rw [if_pos h, if_pos h]; exact refUnpack_ok s w h
  · rw [if_neg h, if_neg h]; exact refUnpack_bad s w h
end Go.Proofs.Ytgcngmlndijppaa
