/- A disk with power, as an argument. -/
import Derived.Test.YthnmnnlbglpjaaaGreatDoorPkC
namespace Go.Proofs.YthnmnnlbglpjaaaGreatDoor
open Go.ChangeShapes Go.WideShapes Go.ChangeAt Go.RowKit Go.Joins Go.Deep
set_option linter.unusedVariables false

set_option maxRecDepth 4000 in
theorem openPower {H : Type} {enc : TypeId × Value → H} {W : World} {base : Nat} {v : Value} {d : DataW H} {p : List MemPlace}
    (hok : Value.okWide Tryz.prog W .any base 27 v) (h : DataW.Trod enc Tryz.prog W 0 (fun _ => true) true 27 v d p) : ∃ x : Dsk × Int, IsPower W v x.1 x.2 ∧ -9223372036854775808 ≤ x.2 ∧ x.2 ≤ 9223372036854775807 := by
  obtain ⟨cs, rfl, hsz⟩ := okWide_struct Tryz.underlying27 hok
  have hC : Tryz.prog.cellsOf 27 = 3 := by kernel_rfl
  have h1 : Tryz.prog.cellsOf 25 = 2 := by kernel_rfl
  have h2 : Tryz.prog.cellsOf 3 = 1 := by kernel_rfl
  obtain ⟨c0, c1, c2, hl⟩ : ∃ c0 c1 c2, cs.toList = [c0, c1, c2] := by
    have : cs.toList.length = 3 := by rw [Array.length_toList, hsz, hC]
    match cs.toList, this with
    | [a, b, c], _ => exact ⟨a, b, c, rfl⟩
  obtain rfl : cs = #[c0, c1, c2] := Array.toList_inj.1 hl
  clear hl hsz hok
  obtain ⟨fuel, hf⟩ := h
  obtain ⟨y0, y1, n, _, _, k0, k1⟩ := trod_struct2 Tryz.underlying27 hf
  simp [Value.cells, h1, h2] at k0 k1
  have g1 : Tryz.prog.cellsOf 22 = 1 := by kernel_rfl
  have g2 : Tryz.prog.cellsOf 23 = 1 := by kernel_rfl
  obtain ⟨z0, z1, n', _, _, q0, q1⟩ := trod_struct2 Tryz.underlying25 k0
  simp [g1, g2] at q0 q1
  obtain ⟨hv0, d0, p0, t0⟩ := slice_of_trod Tryz.underlying22 q0
  obtain ⟨hv1, d1, p1, t1⟩ := slice_of_trod Tryz.underlying23 q1
  obtain ⟨l0, i0⟩ := openStrsS hv0 t0
  obtain ⟨l1, i1⟩ := openWrts hv1 t1
  obtain ⟨a0, e0, _, w0⟩ := DataW.trod_int Tryz.underlying3 k1
  simp at e0
  subst e0
  exact ⟨(⟨l0, l1⟩, a0), ⟨_, _, rfl, i0, i1⟩, wf_i64 w0⟩
end Go.Proofs.YthnmnnlbglpjaaaGreatDoor
