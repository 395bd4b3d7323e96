/- The reference's Get of instructions. -/
import Derived.Test.YtbndhegmfnfahaaRef10
import Derived.Deep.RegionWith
import Derived.Deep.DrawnRows
import Derived.Deep.RegionHeld3
namespace Go.Proofs.Ytbndhegmfnfahaa
open Go.RowKit
set_option linter.unusedVariables false

theorem refNumber_sub (s : ByteArray) (p k q : Nat) (w : World) (hk : k ≤ 8) (hq : q = p + k) (hs : p + k ≤ s.size) :
    Calls Try.prog 66 #[.string (s.extract p q)] w fun e w' => e = .returned (.int .u64 (getL (cutL s p k) : Nat)) ∧ w = w' := by
  have h := refNumber_any (s.extract p q) w (by rw [ByteArray.size_extract]; omega)
  rw [ba_extract_list, hq, Nat.add_sub_cancel_left] at h
  rw [hq]
  exact h
theorem getL_one (s : ByteArray) (p : Nat) (h : p < s.size) : getL (cutL s p 1) = s[p].toNat := by
  have := take_getL s p 0 (by omega)
  simp only [Nat.zero_add, Nat.add_zero, List.take_zero, List.nil_append] at this
  rw [cutL, this]
  simp [getL]

set_option maxRecDepth 100000 in
attribute [local go_sem ↓] Go.wp_at_zero Go.wp_at_succ in
set_option maxHeartbeats 4000000 in
theorem refGet_8 (s : ByteArray) (w : World) (hs : s.size = 8) :
    Calls Try.prog 47 #[.string s] w fun e w' => e = .returned (.tuple #[(insGetI s).value, .int .i64 (insGetE s)]) ∧ Below w.heap.size w w' := by
  have h1 := cut_le s 0 2 (by omega)
  have h4 := cut_le s 4 4 (by omega)
  have p2 : (256 : Nat) ^ 2 = 65536 := by decide
  have p4 : (256 : Nat) ^ 4 = 4294967296 := by decide
  have HG1 := Lib.hid (fun u => refNumber_sub s 0 2 2 u (by omega) (by omega) (by omega))
  have HG4 := Lib.hid (fun u => refNumber_sub s 4 4 s.size u (by omega) (by omega) (by omega))
  have hi2 : 2 < s.size := by omega
  have hi3 : 3 < s.size := by omega
  have e2 := getL_one s 2 hi2
  have e3 := getL_one s 3 hi3
  have HV : Hid ((gotIns s).value = .agg #[.int .i64 (getL (cutL s 0 2) : Nat), .int .i64 (getL (cutL s 2 1) : Nat), .int .i64 (getL (cutL s 3 1) : Nat), .int .u32 (getL (cutL s 4 4) : Nat)]) := rfl
  rw [e2, e3] at HV
  have hB : insGetB s = insKnown (getL (cutL s 0 2) : Nat) := by simp [insGetB, hs]
  have HI : Hid (insGetI s = if insKnown (getL (cutL s 0 2) : Nat) then gotIns s else zeroIns) := by unfold insGetI; rw [hB]; trivial
  have HE : Hid (insGetE s = if insKnown (getL (cutL s 0 2) : Nat) then 0 else 50) := by unfold insGetE; rw [hB]; trivial
  clear hB e2 e3
  obtain ⟨x1, e1⟩ : ∃ x, x = getL (cutL s 0 2) := ⟨_, rfl⟩
  obtain ⟨x4, e4⟩ : ∃ x, x = getL (cutL s 4 4) := ⟨_, rfl⟩
  rw [← e1] at h1 HG1 HV HI HE
  rw [← e4] at h4 HG4 HV
  clear e1 e4
  have hsz : ((s.size : Int) != 8) = false := by rw [bne_eq_false_iff_eq]; omega
  have hsI : (8 : Int) ≤ s.size := by omega
  have hsI2 : (s.size : Int) ≤ 8 := by omega
  have hj2 : (2 : Int) < s.size := by omega
  have hj3 : (3 : Int) < s.size := by omega
  have n1 : (x1 : Int) ≤ 65535 := by omega
  have n4 : (x4 : Int) ≤ 4294967295 := by omega
  have hw4 : IntKind.u32.wrap (x4 : Int) = x4 := by simp [IntKind.wrap, IntKind.signed, IntKind.bits]; omega
  clear h1 h4 p2 p4 hs
  have u9 := Try.underlying9
  have hs1 : ∀ u : World, (Instr.sliceAt 9 (.string s) none (some (.int .i64 2)) none).run Try.prog u = .ok (.string (s.extract 0 2)) u := fun u => by go_simp; intro h; omega
  have hs2 : ∀ u : World, (Instr.sliceAt 9 (.string s) (some (.int .i64 4)) none none).run Try.prog u = .ok (.string (s.extract 4 s.size)) u := fun u => by go_simp; intro h; omega
  have hs3 : ∀ u : World, (Instr.index 9 (.string s) (.int .i64 2)).run Try.prog u = .ok (.int .u8 s[2].toNat) u := fun u => by go_simp
  have hs4 : ∀ u : World, (Instr.index 9 (.string s) (.int .i64 3)).run Try.prog u = .ok (.int .u8 s[3].toNat) u := fun u => by go_simp
  clear u9
  have b2 : s[2].toNat ≤ 255 := by have := UInt8.toNat_lt s[2]; omega
  have b3 : s[3].toNat ≤ 255 := by have := UInt8.toNat_lt s[3]; omega
  have k1 : IntKind.i64.wrap (x1 : Int) = x1 := IntWalk.i64_in _ (by omega)
  have k2 : IntKind.i64.wrap (s[2].toNat : Int) = s[2].toNat := IntWalk.i64_in _ (by omega)
  have k3 : IntKind.i64.wrap (s[3].toNat : Int) = s[3].toNat := IntWalk.i64_in _ (by omega)
  go_enter Try.func47, Try.ntmps47
  go_wp2_with fail
  go_upto_region 4 with fail
  go_cut [4] (fun p wx => p = .pointer (some ⟨w.heap.size + 1, 0, none⟩) ∧ wx = ((w.alloc (.cells #[.int .i64 0, .int .i64 0, .int .i64 0, .int .u32 0] 55)).alloc (.cells #[.int .i64 (x1 : Nat), .int .i64 s[2].toNat, .int .i64 s[3].toNat, .int .u32 (x4 : Nat)] 55)).drew)
  case first =>
    go_region_held3 (fun w' => True) (trivial) (first | (go_at_call_of 66 (Value.string (s.extract 0 2)); refine (HG1.out _).mono ?_; rintro e w1 ⟨rfl, rfl⟩) | (go_at_call_of 66 (Value.string (s.extract 4 s.size)); refine (HG4.out _).mono ?_; rintro e w1 ⟨rfl, rfl⟩))
    all_goals (go_wp2_with fail; go_meet; exact ⟨rfl, rfl⟩)
  case rest =>
  obtain ⟨rfl, rfl⟩ := hcut
  clear hs1 hs2 hs3 hs4 HG1 HG4 hw4 k1 k2 k3 hsI hsI2 hj2 hj3 hsz
  have hI := HI.out
  have hE := HE.out
  clear HI HE
  have HN1 := Lib.hid n1
  go_wp2_with fail
  refine (refKnown_any _ _).mono ?_
  rintro e w1 ⟨rfl, rfl⟩
  generalize insKnown (x1 : Nat) = kn at *
  cases kn
  all_goals
    have HI := Lib.hid hI; have HE := Lib.hid hE
    clear hI hE
    go_wp2_with fail
  · refine bodyPost_ret (results_row_tmp rfl _ _ w.heap.size 55 #[.int .i64 0, .int .i64 0, .int .i64 0, .int .u32 0] (0, 0) _ rfl
      (Eq.trans (heap_alloc_old _ _ (by simp)) (heap_alloc_new w _)) Try.underlying55 rfl (by kernel_rfl)) rfl ⟨?_, (((Below.refl _ _).alloc (Nat.le_refl _) _).alloc (by simp) _).drew⟩
    rw [HI.out, HE.out]; rfl
  · refine bodyPost_ret (results_row_tmp rfl _ _ w.heap.size 55 #[.int .i64 (x1 : Nat), .int .i64 s[2].toNat, .int .i64 s[3].toNat, .int .u32 (x4 : Nat)] (0, 0) _ rfl
      (Eq.trans (heap_alloc_old _ _ (by simp)) (heap_alloc_new w _)) Try.underlying55 rfl (by kernel_rfl)) rfl ⟨?_, (((Below.refl _ _).alloc (Nat.le_refl _) _).alloc (by simp) _).drew⟩
    rw [HI.out, HE.out]; exact congrArg (fun v => Ending.returned (.tuple #[v, .int .i64 0])) HV.out.symm

theorem refGet_any (s : ByteArray) (w : World) :
    Calls Try.prog 47 #[.string s] w fun e w' => e = .returned (.tuple #[(insGetI s).value, .int .i64 (insGetE s)]) ∧ Below w.heap.size w w' := by
  by_cases hs : s.size = 8
  · exact refGet_8 s w hs
  · have hsz : ((s.size : Int) != 8) = true := by rw [bne_iff_ne]; omega
    have e1 : insGetI s = zeroIns := by unfold insGetI insGetB; simp [hs]
    have e2 : insGetE s = 50 := by unfold insGetE insGetB; simp [hs]
    rw [e1, e2]
    go_enter Try.func47, Try.ntmps47
    go_wp2_with fail
    exact bodyPost_ret (results_row_tmp rfl _ _ w.heap.size _ _ _ _ rfl (heap_alloc_new _ _) Try.underlying55 rfl (by kernel_rfl)) rfl ⟨rfl, (Below.refl _ _).alloc (Nat.le_refl _) _⟩
end Go.Proofs.Ytbndhegmfnfahaa
