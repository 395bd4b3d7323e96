/- The walks of layer 19 are alive. -/
import Derived.Test.YtnapofpbiehaaaaWordWalk
import Derived.Test.YtnapofpbiehaaaaRef01Bytes
import Derived.Outline
namespace Go.Proofs.Ytnapofpbiehaaaa
open Go.RowKit
set_option linter.unusedVariables false

theorem eqFin (i j : Fin4) (u : World) : (binOp .eql 42 i.value j.value).run Try.prog u = .ok (.bool (decide (i = j))) u := by
  obtain ⟨a, b, c, d⟩ := i
  obtain ⟨a', b', c', d'⟩ := j
  have u3 := Try.underlying3
  have u27 := Try.underlying36
  have u4 := Try.underlying4
  have z3 := Try.sizeOf3
  have z27 := Try.sizeOf36
  have z4 := Try.sizeOf4
  by_cases h1 : a = a' <;> by_cases h2 : b = b' <;> by_cases h3 : c = c' <;> by_cases h4 : d = d'
  all_goals
    simp only [Fin4.value]
    go_simp
    try omega

def rec0 : ByteArray := ⟨(List.replicate 64 (0 : UInt8)).toArray⟩
theorem rec0_size : rec0.size = 64 := by rw [rec0, ba_size]; rfl
set_option maxRecDepth 100000 in
set_option maxHeartbeats 400000 in
theorem wordAlive (w : World) : Calls Try.prog 7 #[] w fun e w' => e = .returned (.bool true) ∧ Below w.heap.size w w' := by
  obtain ⟨i0, hi, hz0, hz1, hz2⟩ := info_parts infoU8r
  obtain ⟨C, hC⟩ : ∃ C, C = ((List.replicate 64 (0 : UInt8)).map fun x => Value.int .u8 x.toNat).toArray := ⟨_, rfl⟩
  have hcells : madeCells #[Value.int .u8 0] 64 = C := by
    rw [fill_zero, fill, hC]
    simp
  have hmk : ∀ u : World, (Instr.makeSlice 49 (.int .i64 64) (.int .i64 64)).run Try.prog u = .ok (.slice (some ⟨u.heap.size, 0, none⟩) 64 64) (u.alloc (.cells C 5)) := fun u => by
    have h := run_make (P := Try.prog) u 49 5 i0 (.int .u8 0) Try.underlying49 hi hz0 .i64 .i64 64 64 (by omega) (Int.le_refl _) (by rw [hz2]; omega) (by omega)
    simpa [hz1, Value.cells, hcells] using h
  have hcv : ∀ u : World, (convert 49 9 (.slice (some ⟨u.heap.size, 0, none⟩) 64 64)).run Try.prog (u.alloc (.cells C 5)) = .ok (.string rec0) (u.alloc (.cells C 5)) := fun u =>
    block_string (P := Try.prog) (List.replicate 64 (0 : UInt8)) 64 (by simp) (by rw [← hC]; exact heap_alloc_new u _) Try.underlying49 Try.underlying5 Try.underlying9
  have hnil : ∀ u, IsOps u (.slice none 0 0) [] := fun u => ⟨none, 0, 0, rfl, rfl, by omega, by omega, by simp, fun _ => rfl, .inl rfl⟩
  have hwk : walkR [] rec0 = ⟨-1, 0, false, false⟩ := by
    unfold walkR
    rw [if_pos rec0_size, walkW_end _ _ _ _ (by simp)]
  have hW := fun u => wordWalk_any (.slice none 0 0) [] rec0 u (hnil u)
  rw [hwk] at hW
  have HW := Lib.hid hW
  have heq := fun u => eqFin ⟨-1, 0, false, false⟩ ⟨-1, 0, false, false⟩ u
  rw [decide_eq_true rfl] at heq
  simp only [Fin4.value] at heq HW
  clear hwk hW hnil hcells hC
  go_enter Try.func7, Try.ntmps7
  go_wp2_with fail
  refine (HW.out _).mono ?_
  rintro e w2 ⟨rfl, hb2⟩
  have hw2 := ((Below.refl w.heap.size w).alloc (Nat.le_refl _) (.cells C 5)).trans (hb2.mono (by simp))
  go_wp2_with fail
  go_ret
  exact ⟨rfl, hw2⟩
end Go.Proofs.Ytnapofpbiehaaaa
