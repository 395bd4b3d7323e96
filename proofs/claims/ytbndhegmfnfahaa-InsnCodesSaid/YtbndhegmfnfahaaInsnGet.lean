/- insn.Get. -/
import Derived.Test.YtbndhegmfnfahaaInsnKnown
import Derived.Test.YtbndhegmfnfahaaLeGet
import Derived.Test.YtbndhegmfnfahaaResRow
import Derived.Outline
namespace Go.Proofs.Ytbndhegmfnfahaa
open Go.RowKit
set_option linter.unusedVariables false

/-- the instruction of eight bytes -/
def gotIns (s : ByteArray) : Ins := ⟨(getL (cutL s 0 2) : Nat), (getL (cutL s 2 1) : Nat), (getL (cutL s 3 1) : Nat), (getL (cutL s 4 4) : Nat)⟩
def zeroIns : Ins := ⟨0, 0, 0, 0⟩
def insGetB (s : ByteArray) : Bool := decide (s.size = 8) && insKnown (getL (cutL s 0 2) : Nat)
def insGetI (s : ByteArray) : Ins := if insGetB s then gotIns s else zeroIns
def insGetE (s : ByteArray) : Int := if insGetB s then 0 else 50
theorem cut_le (s : ByteArray) (p k : Nat) (hp : p + k ≤ s.size) : getL (cutL s p k) < 256 ^ k := by
  have := getL_lt (cutL s p k)
  rwa [cutL_length _ _ _ hp] at this
theorem gotIns_fits (s : ByteArray) (h : s.size = 8) : (gotIns s).fits := by
  have h1 := cut_le s 0 2 (by omega)
  have h2 := cut_le s 2 1 (by omega)
  have h3 := cut_le s 3 1 (by omega)
  have p2 : (256 : Nat) ^ 2 = 65536 := by decide
  simp only [Ins.fits, gotIns]
  omega
theorem gotIns_bounded (s : ByteArray) (h : s.size = 8) : (gotIns s).bounded := by
  have h1 := cut_le s 0 2 (by omega)
  have h2 := cut_le s 2 1 (by omega)
  have h3 := cut_le s 3 1 (by omega)
  have h4 := cut_le s 4 4 (by omega)
  have p2 : (256 : Nat) ^ 2 = 65536 := by decide
  have p4 : (256 : Nat) ^ 4 = 4294967296 := by decide
  simp only [Ins.bounded, gotIns]
  omega
theorem insGetI_bounded (s : ByteArray) : (insGetI s).bounded := by
  unfold insGetI insGetB
  by_cases h : s.size = 8
  · cases insKnown (getL (cutL s 0 2) : Nat)
    · simp [zeroIns, Ins.bounded]
    · simp only [h, decide_true, Bool.and_self, if_true]; exact gotIns_bounded s h
  · simp [h, zeroIns, Ins.bounded]

set_option maxRecDepth 100000 in
set_option maxHeartbeats 1000000 in
theorem insnGet_8 (s : ByteArray) (w : World) (hs : s.size = 8) :
    Calls Try.prog 46 #[.string s] w fun e w' => e = .returned (.tuple #[(insGetI s).value, .int .i64 (insGetE s)]) ∧ Below w.heap.size w w' := by
  have h1 := cut_le s 0 2 (by omega)
  have h2 := cut_le s 2 1 (by omega)
  have h3 := cut_le s 3 1 (by omega)
  have h4 := cut_le s 4 4 (by omega)
  have p2 : (256 : Nat) ^ 2 = 65536 := by decide
  have p4 : (256 : Nat) ^ 4 = 4294967296 := by decide
  have HG1 := Lib.hid (fun u => leGet_ok s 0 2 u (by omega) (by omega) (by omega) (by omega))
  have HG2 := Lib.hid (fun u => leGet_ok s 2 1 u (by omega) (by omega) (by omega) (by omega))
  have HG3 := Lib.hid (fun u => leGet_ok s 3 1 u (by omega) (by omega) (by omega) (by omega))
  have HG4 := Lib.hid (fun u => leGet_ok s 4 4 u (by omega) (by omega) (by omega) (by omega))
  have HV : Hid ((gotIns s).value = .agg #[.int .i64 (getL (cutL s 0 2) : Nat), .int .i64 (getL (cutL s 2 1) : Nat), .int .i64 (getL (cutL s 3 1) : Nat), .int .u32 (getL (cutL s 4 4) : Nat)]) := rfl
  have hB : insGetB s = insKnown (getL (cutL s 0 2) : Nat) := by simp [insGetB, hs]
  have HI : Hid (insGetI s = if insKnown (getL (cutL s 0 2) : Nat) then gotIns s else zeroIns) := by unfold insGetI; rw [hB]; trivial
  have HE : Hid (insGetE s = if insKnown (getL (cutL s 0 2) : Nat) then 0 else 50) := by unfold insGetE; rw [hB]; trivial
  clear hB
  obtain ⟨x1, e1⟩ : ∃ x, x = getL (cutL s 0 2) := ⟨_, rfl⟩
  obtain ⟨x2, e2⟩ : ∃ x, x = getL (cutL s 2 1) := ⟨_, rfl⟩
  obtain ⟨x3, e3⟩ : ∃ x, x = getL (cutL s 3 1) := ⟨_, rfl⟩
  obtain ⟨x4, e4⟩ : ∃ x, x = getL (cutL s 4 4) := ⟨_, rfl⟩
  rw [← e1] at h1 HG1 HV HI HE
  rw [← e2] at h2 HG2 HV
  rw [← e3] at h3 HG3 HV
  rw [← e4] at h4 HG4 HV
  clear e1 e2 e3 e4
  have hsz : ((s.size : Int) != 8) = false := by rw [bne_eq_false_iff_eq]; omega
  have n1 : (x1 : Int) ≤ 65535 := by omega
  have n2 : (x2 : Int) ≤ 255 := by omega
  have n3 : (x3 : Int) ≤ 255 := by omega
  have n4 : (x4 : Int) ≤ 4294967295 := by omega
  clear h1 h2 h3 h4 p2 p4 hs
  go_enter Try.func46, Try.ntmps46
  go_wp2_with fail
  refine (HG1.out _).mono ?_
  rintro e w1 ⟨rfl, rfl⟩
  go_wp2_with fail
  refine (HG2.out _).mono ?_
  rintro e w1 ⟨rfl, rfl⟩
  go_wp2_with fail
  refine (HG3.out _).mono ?_
  rintro e w1 ⟨rfl, rfl⟩
  go_wp2_with fail
  refine (HG4.out _).mono ?_
  rintro e w1 ⟨rfl, rfl⟩
  go_wp2_with fail
  refine (insnKnown_any _ _).mono ?_
  rintro e w1 ⟨rfl, hb1⟩
  have hblk : w1.heap[w.heap.size]? = some (.cells #[.int .i64 0, .int .i64 0, .int .i64 0, .int .u32 0] 55 (0, 0)) := by
    rw [hb1.block _ (by simp)]; exact heap_alloc_new w _
  have hbel : Below w.heap.size w w1 := ((Below.refl _ _).alloc (Nat.le_refl _) _).trans (hb1.mono (by simp))
  clear hb1
  have hI := HI.out
  have hE := HE.out
  clear HI HE HG1 HG2 HG3 HG4
  generalize insKnown (x1 : Nat) = kn at *
  cases kn
  all_goals
    have HI := Lib.hid hI; have HE := Lib.hid hE
    clear hI hE
    have q0 : w1.cell? ⟨w.heap.size, 0, none⟩ = some (.int .i64 0) := by rw [cell_of_row _ _ _ _ _ _ hblk]; rfl
    have q1 : w1.cell? ⟨w.heap.size, 1, none⟩ = some (.int .i64 0) := by rw [cell_of_row _ _ _ _ _ _ hblk]; rfl
    have q2 : w1.cell? ⟨w.heap.size, 2, none⟩ = some (.int .i64 0) := by rw [cell_of_row _ _ _ _ _ _ hblk]; rfl
    have q3 : w1.cell? ⟨w.heap.size, 3, none⟩ = some (.int .u32 0) := by rw [cell_of_row _ _ _ _ _ _ hblk]; rfl
    have f0 := block_frozen hblk 0
    have f1 := block_frozen hblk 1
    have f2 := block_frozen hblk 2
    have f3 := block_frozen hblk 3
    have HB := Lib.hid hblk
    clear hblk
    go_wp2_with fail
  · refine bodyPost_ret (results_row_tmp rfl _ _ w.heap.size 55 #[.int .i64 0, .int .i64 0, .int .i64 0, .int .u32 0] (0, 0) _ rfl ?_ Try.underlying55 rfl (by kernel_rfl)) rfl ⟨?_, ?_⟩
    · exact block_set (block_set (block_set (block_set HB.out 0 _) 1 _) 2 _) 3 _
    · rw [HI.out, HE.out]; rfl
    · exact (((hbel.setCell (p := ⟨w.heap.size, 0, none⟩) (Nat.le_refl _) _).setCell (p := ⟨w.heap.size, 1, none⟩) (Nat.le_refl _) _).setCell (p := ⟨w.heap.size, 2, none⟩) (Nat.le_refl _) _).setCell (p := ⟨w.heap.size, 3, none⟩) (Nat.le_refl _) _
  · refine bodyPost_ret (results_row_tmp rfl _ _ w.heap.size 55 #[.int .i64 (x1 : Nat), .int .i64 (x2 : Nat), .int .i64 (x3 : Nat), .int .u32 (x4 : Nat)] (0, 0) _ rfl ?_ Try.underlying55 rfl (by kernel_rfl)) rfl ⟨?_, ?_⟩
    · exact block_set (block_set (block_set (block_set HB.out 0 _) 1 _) 2 _) 3 _
    · rw [HI.out, HE.out]; exact congrArg (fun v => Ending.returned (.tuple #[v, .int .i64 0])) HV.out.symm
    · exact (((hbel.setCell (p := ⟨w.heap.size, 0, none⟩) (Nat.le_refl _) _).setCell (p := ⟨w.heap.size, 1, none⟩) (Nat.le_refl _) _).setCell (p := ⟨w.heap.size, 2, none⟩) (Nat.le_refl _) _).setCell (p := ⟨w.heap.size, 3, none⟩) (Nat.le_refl _) _

theorem insnGet_any (s : ByteArray) (w : World) :
    Calls Try.prog 46 #[.string s] w fun e w' => e = .returned (.tuple #[(insGetI s).value, .int .i64 (insGetE s)]) ∧ Below w.heap.size w w' := by
  by_cases hs : s.size = 8
  · exact insnGet_8 s w hs
  · have hsz : ((s.size : Int) != 8) = true := by rw [bne_iff_ne]; omega
    have e1 : insGetI s = zeroIns := by unfold insGetI insGetB; simp [hs]
    have e2 : insGetE s = 50 := by unfold insGetE insGetB; simp [hs]
    rw [e1, e2]
    go_enter Try.func46, Try.ntmps46
    go_wp2_with fail
    exact bodyPost_ret (results_row_tmp rfl _ _ w.heap.size _ _ _ _ rfl (heap_alloc_new _ _) Try.underlying55 rfl (by kernel_rfl)) rfl ⟨rfl, (Below.refl _ _).alloc (Nat.le_refl _) _⟩
end Go.Proofs.Ytbndhegmfnfahaa
