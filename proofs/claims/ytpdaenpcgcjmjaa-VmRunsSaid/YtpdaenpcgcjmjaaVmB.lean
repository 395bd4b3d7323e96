/- What the laws of layer 11 share. -/
import Derived.Test.YtpdaenpcgcjmjaaVmA
namespace Go.Proofs.Ytpdaenpcgcjmjaa
open Go.RowKit
set_option linter.unusedVariables false

def recOf (s : ByteArray) : ByteArray := if s.size > 64 then s.extract 0 64 else s
set_option maxRecDepth 100000 in
theorem vmRecord_any (s : ByteArray) (w : World) : Calls Try.prog 14 #[.string s] w fun e w' => e = .returned (.string (recOf s)) ∧ w = w' := by
  unfold recOf
  by_cases h : s.size > 64
  · have hI : (64 : Int) < s.size := by omega
    rw [if_pos h]
    go_enter Try.func14, Try.ntmps14
    go_wp2_with fail
    go_ret
    exact ⟨rfl, rfl⟩
  · have hI : (s.size : Int) ≤ 64 := by omega
    rw [if_neg h]
    go_enter Try.func14, Try.ntmps14
    go_wp2_with fail
    go_ret
    exact ⟨rfl, rfl⟩
theorem vInfoU8 : (Try.prog.info? 5).map (fun i => (i.zero, i.size, i.bytes)) = some (some (.int .u8 0), 1, 1) := by kernel_rfl
def rec0 : ByteArray := ⟨(List.replicate 64 (0 : UInt8)).toArray⟩
theorem rec0_size : rec0.size = 64 := by rw [rec0, ba_size]; rfl
theorem alive_run : runR [⟨6, 0, 0, 7⟩] rec0 = (7, 1, 0) := by unfold runR; rw [if_pos rec0_size]; rfl
theorem alive_ins (u w : World) (hb : Below (w.alloc (.cells #[.int .i64 6, .int .i64 0, .int .i64 0, .int .u32 7] 35)).heap.size (w.alloc (.cells #[.int .i64 6, .int .i64 0, .int .i64 0, .int .u32 7] 35)) u) :
    IsInsns u (.slice (some ⟨w.heap.size, 0, none⟩) 1 1) [⟨6, 0, 0, 7⟩] := by
  have hB := heap_alloc_new w (.cells #[.int .i64 6, .int .i64 0, .int .i64 0, .int .u32 7] 35)
  refine ⟨_, 1, 1, rfl, rfl, by omega, by omega, ?_, .inr ⟨w.heap.size, 0, rfl, Nat.lt_of_lt_of_le (by simp) hb.size, fun i hi => ?_⟩⟩
  · intro i hi
    obtain rfl : i = ⟨6, 0, 0, 7⟩ := by simpa using hi
    unfold Ins.bounded; simp only; omega
  · obtain rfl : i = 0 := by omega
    exact ⟨below_cell hb hB 0 rfl, below_cell hb hB 1 rfl, below_cell hb hB 2 rfl, below_cell hb hB 3 rfl⟩
set_option maxRecDepth 100000 in
set_option maxHeartbeats 400000 in
theorem vmAlive (w : World) : Calls Try.prog 13 #[] w fun e w' => e = .returned (.bool true) ∧ Below w.heap.size w w' := by
  obtain ⟨i0, hi, hz0, hz1, hz2⟩ := info_parts vInfoU8
  obtain ⟨C, hC⟩ : ∃ C, C = ((List.replicate 64 (0 : UInt8)).map fun x => Value.int .u8 x.toNat).toArray := ⟨_, rfl⟩
  have hcells : madeCells #[Value.int .u8 0] 64 = C := by
    rw [fill_zero, fill, hC]
    simp
  have hmk : ∀ u : World, (Instr.makeSlice 51 (.int .i64 64) (.int .i64 64)).run Try.prog u = .ok (.slice (some ⟨u.heap.size, 0, none⟩) 64 64) (u.alloc (.cells C 5)) := fun u => by
    have h := run_make (P := Try.prog) u 51 5 i0 (.int .u8 0) Try.underlying51 hi hz0 .i64 .i64 64 64 (by omega) (Int.le_refl _) (by rw [hz2]; omega) (by omega)
    simpa [hz1, Value.cells, hcells] using h
  have hcv : ∀ u : World, (convert 51 9 (.slice (some ⟨u.heap.size, 0, none⟩) 64 64)).run Try.prog (u.alloc (.cells C 5)) = .ok (.string rec0) (u.alloc (.cells C 5)) := fun u =>
    block_string (P := Try.prog) (List.replicate 64 (0 : UInt8)) 64 (by simp) (by rw [← hC]; exact heap_alloc_new u _) Try.underlying51 Try.underlying5 Try.underlying9
  have hI := alive_ins ((w.alloc (.cells #[.int .i64 6, .int .i64 0, .int .i64 0, .int .u32 7] 35)).alloc (.cells C 5)) w (alloc1 _ _)
  have hR := fun u hu => vmRun_any [⟨6, 0, 0, 7⟩] (.slice (some ⟨w.heap.size, 0, none⟩) 1 1) rec0 u hu (by decide)
  rw [alive_run] at hR
  have hcv1 := hcv (w.alloc (.cells #[.int .i64 6, .int .i64 0, .int .i64 0, .int .u32 7] 35))
  rw [World.size_alloc] at hcv1
  have HR := Lib.hid hR
  have HI := Lib.hid hI
  clear hcells hC hR hI hcv
  go_enter Try.func13, Try.ntmps13
  go_wp2_with fail
  refine (HR.out _ HI.out).mono ?_
  rintro e w2 ⟨rfl, hb2⟩
  have hw2 := tail2 hb2
  unfold resV
  go_wp2_with fail
  go_ret
  exact ⟨rfl, hw2⟩
theorem runF_go {l : List Ins} {rec : ByteArray} {f : Nat} {m m' : Mach} {s : Nat} (h1 : m.next < l.length) (h2 : insKnown (l.getD m.next insZ).code = true) (h3 : stepM l rec m = (true, m')) (h4 : m'.ret = false) :
    runF l rec (f + 1) m s = runF l rec f m' (s + 1) := by
  show (if m.next < l.length then _ else _) = _
  rw [if_pos h1, if_pos h2, h3]
  show (if m'.ret = true then _ else _) = _
  rw [h4]
  rfl
theorem runF_ret {l : List Ins} {rec : ByteArray} {f : Nat} {m m' : Mach} {s : Nat} (h1 : m.next < l.length) (h2 : insKnown (l.getD m.next insZ).code = true) (h3 : stepM l rec m = (true, m')) (h4 : m'.ret = true) :
    runF l rec (f + 1) m s = (m'.ans, s, 0) := by
  show (if m.next < l.length then _ else _) = _
  rw [if_pos h1, if_pos h2, h3]
  show (if m'.ret = true then _ else _) = _
  rw [h4]
  rfl
theorem runF_bad {l : List Ins} {rec : ByteArray} {f : Nat} {m m' : Mach} {s : Nat} (h1 : m.next < l.length) (h2 : insKnown (l.getD m.next insZ).code = true) (h3 : stepM l rec m = (false, m')) :
    runF l rec (f + 1) m s = (0, 0, 51) := by
  show (if m.next < l.length then _ else _) = _
  rw [if_pos h1, if_pos h2, h3]
  rfl
theorem stepM_at {l : List Ins} {rec : ByteArray} {m : Mach} {i : Ins} {c k n : Nat} {D : Deed} {r : Bool × Mach} (hi : l.getD m.next insZ = i) (hn : l.length = n) (hc : i.code.toNat = c) (hk : i.k.toNat = k)
    (hD : deedD m c k i.jt i.jf = D) (hr : D.run rec n { m with next := m.next + 1 } = r) : stepM l rec m = r := by
  subst hi hn hc hk hD hr
  rfl
theorem d97 (m : Mach) (k : Nat) (jt jf : Int) : deedD m 97 k jt jf = .lxm k := by simp [deedD, moveD]
theorem d96 (m : Mach) (k : Nat) (jt jf : Int) : deedD m 96 k jt jf = .ldm k := by simp [deedD, moveD]
theorem d0 (m : Mach) (k : Nat) (jt jf : Int) : deedD m 0 k jt jf = .setA k := by simp [deedD, moveD]
theorem d1 (m : Mach) (k : Nat) (jt jf : Int) : deedD m 1 k jt jf = .setX k := by simp [deedD, moveD]
theorem d2 (m : Mach) (k : Nat) (jt jf : Int) : deedD m 2 k jt jf = .st k := by simp [deedD, moveD]
theorem d3 (m : Mach) (k : Nat) (jt jf : Int) : deedD m 3 k jt jf = .stx k := by simp [deedD, moveD]
theorem d22 (m : Mach) (k : Nat) (jt jf : Int) : deedD m 22 k jt jf = .answer m.a := by simp [deedD]
theorem d28 (m : Mach) (k : Nat) (jt jf : Int) : deedD m 28 k jt jf = .setA ((m.a + (4294967296 - m.x)) % 4294967296) := by simp [deedD, sumD, sumV]
theorem known0 : ∀ c ∈ codeList, insKnown (c : Int) = true := by decide +kernel
end Go.Proofs.Ytpdaenpcgcjmjaa
