/- insn.Known. -/
import Derived.Test.YtpdfahlglalebaaIns
import Derived.Test.YtpdfahlglalebaaGen
import Derived.Test.YtpdfahlglalebaaResRow
import Derived.Deep.WholeRow
namespace Go.Proofs.Ytpdfahlglalebaa
open Go.RowKit
set_option linter.unusedVariables false

/-- the codes that there are -/
def codeList : List Nat := [32, 128, 0, 96, 1, 97, 129, 2, 3, 4, 20, 36, 52, 68, 84, 100, 116, 132, 164, 12, 28, 44, 60, 76, 92, 108, 124, 172, 5, 21, 37, 53, 69, 29, 45, 61, 77, 6, 22, 7, 135]
def codeCells : Array Value := ((List.range 256).map fun c => Value.bool (codeList.contains c)).toArray
theorem info256 : (Try.prog.info? 59).map (fun i => (i.zero, i.size)) = some (some (.agg (Array.replicate 256 (.bool false))), 256) := by kernel_rfl
theorem codeCells_get (c : Nat) (h : c < 256) : codeCells[c]? = some (.bool (codeList.contains c)) := by
  simp [codeCells, h]
theorem codeCells_size : codeCells.size = 256 := by simp [codeCells]

set_option maxRecDepth 100000 in
theorem codes_any (w : World) : Calls Try.prog 28 #[] w fun e w' => e = .returned (.agg codeCells) ∧ Below w.heap.size w w' := by
  have hz := (zero_of_info info256).1
  have hone : codeCells.all (·.oneCell') = true := by decide +kernel
  go_enter Try.func28, Try.ntmps28
  go_wp2_with (first | (refine wpList_build rfl 59 _ rfl (by kernel_rfl) ?_) | (refine wpList_store_row rfl 59 _ _ rfl w.heap.size codeCells rfl (by kernel_rfl) 59 _ (heap_alloc_new w _) (by kernel_rfl) (by kernel_rfl) hone ?_))
  refine bodyPost_ret (v := .agg codeCells) (results_cell_row rfl _ _ w.heap.size 59 codeCells (0, 0) _ rfl (setRow_heap _ _ _ _ _ _ (heap_alloc_new w _)) Try.underlying59 rfl (by kernel_rfl)) rfl ⟨rfl, ?_⟩
  exact below_setRow ((Below.refl _ _).alloc (Nat.le_refl _) _) (Nat.le_refl _) _

def insKnown (c : Int) : Bool := decide (0 ≤ c ∧ c ≤ 255) && codeList.contains c.toNat
set_option maxRecDepth 100000 in
theorem insnKnown_any (c : Int) (w : World) : Calls Try.prog 20 #[.int .i64 c] w fun e w' => e = .returned (.bool (insKnown c)) ∧ Below w.heap.size w w' := by
  have hz := (zero_of_info info256).1
  have hone : codeCells.all (·.oneCell') = true := by decide +kernel
  have HONE := Lib.hid hone
  clear hone
  go_enter Try.func20, Try.ntmps20
  go_wp2_with fail
  refine (codes_any _).mono ?_
  rintro e w1 ⟨rfl, hb1⟩
  go_wp2_with (first | (refine wpList_store_row rfl 59 _ _ rfl w1.heap.size codeCells rfl rfl 59 _ (heap_alloc_new w1 _) (by kernel_rfl) (by kernel_rfl) HONE.out ?_))
  have hcell : ∀ k, k < 256 → ((w1.alloc (.cells (Array.replicate 256 (.bool false)) 59)).setRow w1.heap.size codeCells).cell? ⟨w1.heap.size, k, none⟩ = some (.bool (codeList.contains k)) := by
    intro k hk
    rw [cell_of_row _ _ k _ _ _ (setRow_heap _ _ _ _ _ _ (heap_alloc_new w1 _)), codeCells_get k hk]
  have hb2 : Below w.heap.size w ((w1.alloc (.cells (Array.replicate 256 (.bool false)) 59)).setRow w1.heap.size codeCells) :=
    below_setRow (hb1.alloc hb1.size _) hb1.size _
  have HC := Lib.hid hcell
  clear hcell hz
  generalize (w1.alloc (.cells (Array.replicate 256 (.bool false)) 59)).setRow w1.heap.size codeCells = W2 at *
  refine (insnFits_any c _).mono ?_
  rintro e w3 ⟨rfl, rfl⟩
  by_cases hc : 0 ≤ c ∧ c ≤ 255
  · have hd : decide (0 ≤ c ∧ c ≤ 255) = true := decide_eq_true hc
    obtain ⟨c0, c1⟩ := hc
    obtain ⟨k, rfl⟩ := Int.eq_ofNat_of_zero_le c0
    have hk := HC.out k (by omega)
    have hr : insKnown k = codeList.contains k := by unfold insKnown; rw [hd]; rfl
    have HR := Lib.hid hr
    clear hr
    generalize codeList.contains k = b at *
    go_wp2_with fail
    go_ret
    exact ⟨by rw [HR.out]; rfl, hb2⟩
  · have hd : decide (0 ≤ c ∧ c ≤ 255) = false := decide_eq_false hc
    have hr : insKnown c = false := by unfold insKnown; rw [hd]; rfl
    have HR := Lib.hid hr
    clear hr hc
    go_wp2_with fail
    go_ret
    exact ⟨by rw [HR.out]; rfl, hb2⟩
end Go.Proofs.Ytpdfahlglalebaa
