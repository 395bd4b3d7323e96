/- What the laws of layer 21 share. -/
import Derived.Test.YtnlmdajoifjddaaEm4
import Derived.Test.YtnlmdajoifjddaaInsLike
import Derived.Test.YtnlmdajoifjddaaOpOwn
namespace Go.Proofs.Ytnlmdajoifjddaa
open Go.RowKit Go.ChangeShapes
set_option linter.unusedVariables false

theorem eqlIns (i j : Ins) (u : World) : (binOp .eql 44 i.value j.value).run Try.prog u = .ok (.bool (decide (i = j))) u := by
  obtain ⟨a, b, c, d⟩ := i
  obtain ⟨a', b', c', d'⟩ := j
  have u3 := Try.underlying3
  have u27 := Try.underlying30
  have z3 := Try.sizeOf3
  have z27 := Try.sizeOf30
  by_cases h1 : a = a' <;> by_cases h2 : b = b' <;> by_cases h3 : c = c' <;> by_cases h4 : d = d'
  all_goals
    simp only [Ins.value]
    go_simp
theorem asm_one : asmA [⟨8, 7, 0, 0⟩] = some ⟨[⟨6, 0, 0, 7⟩], fun _ => none⟩ := rfl
set_option maxRecDepth 100000 in
set_option maxHeartbeats 1000000 in
theorem emAlive (w : World) : Calls Try.prog 12 #[] w fun e w' => e = .returned (.bool true) ∧ Below w.heap.size w w' := by
  have hI : IsOps (w.alloc (.cells #[.int .i64 8, .int .u32 7, .int .i64 0, .int .i64 0] 32)) (.slice (some ⟨w.heap.size, 0, none⟩) 1 1) [⟨8, 7, 0, 0⟩] := by
    have hB := heap_alloc_new w (.cells #[.int .i64 8, .int .u32 7, .int .i64 0, .int .i64 0] 32)
    refine ⟨_, 1, 1, rfl, rfl, by omega, by omega, ?_, fun h => (by cases h), .inr ⟨w.heap.size, 0, rfl, by simp, fun i hi => ?_⟩⟩
    · intro i hi
      obtain rfl : i = ⟨8, 7, 0, 0⟩ := by simpa using hi
      unfold Stp.bounded; simp only; omega
    · obtain rfl : i = 0 := by omega
      exact ⟨below_cell (Below.refl _ _) hB 0 rfl, below_cell (Below.refl _ _) hB 1 rfl, below_cell (Below.refl _ _) hB 2 rfl, below_cell (Below.refl _ _) hB 3 rfl⟩
  have hC := emAssemble_any [⟨8, 7, 0, 0⟩] (.slice (some ⟨w.heap.size, 0, none⟩) 1 1) _ hI (by decide)
  unfold AsmPost at hC
  rw [asm_one] at hC
  have hw0 := (Below.refl w.heap.size w).alloc (Nat.le_refl _) (.cells #[.int .i64 8, .int .u32 7, .int .i64 0, .int .i64 0] 32)
  have heq := fun u => eqlIns ⟨6, 0, 0, 7⟩ ⟨6, 0, 0, 7⟩ u
  unfold Ins.value at heq
  have HC := Lib.hid hC; have HW0 := Lib.hid hw0; have HEQ := Lib.hid heq
  clear hC hI hw0 heq
  go_enter Try.func12, Try.ntmps12
  go_wp2_with fail
  refine HC.out.mono ?_
  rintro e w2 ⟨⟨g, rfl, hI, _⟩, hb2⟩
  obtain ⟨_, _, _, hv, _, _, _, _, hat⟩ := hI
  injection hv with e1 e2 e3
  subst e1 e2 e3
  obtain ⟨b, off, hab, hbl, hat⟩ := hat.resolve_left (by decide)
  injection hab with hab
  injection hab with hab hab2
  subst hab hab2
  obtain ⟨c0, c1, c2, c3⟩ := hat 0 (by decide)
  have q0 : w2.cell? ⟨g, 0, none⟩ = some (.int .i64 6) := c0
  have q1 : w2.cell? ⟨g, 1, none⟩ = some (.int .i64 0) := c1
  have q2 : w2.cell? ⟨g, 2, none⟩ = some (.int .i64 0) := c2
  have q3 : w2.cell? ⟨g, 3, none⟩ = some (.int .u32 7) := c3
  have HW2 := Lib.hid (HW0.out.trans (hb2.mono HW0.out.size))
  have heq2 := HEQ.out w2
  clear hb2 hat c0 c1 c2 c3 HEQ
  go_wp2_with fail
  go_ret
  exact ⟨rfl, HW2.out⟩
end Go.Proofs.Ytnlmdajoifjddaa
