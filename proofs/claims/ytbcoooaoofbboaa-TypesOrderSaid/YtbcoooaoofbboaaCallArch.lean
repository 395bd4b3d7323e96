/- call.Arch. -/
import Derived.Test.YtbcoooaoofbboaaMaps
import Derived.Test.YtbcoooaoofbboaaRows
namespace Go.Proofs.Ytbcoooaoofbboaa
open Go.RowKit
set_option linter.unusedVariables false

/-- an architecture's number by its name -/
def archOf (s : ByteArray) : Option Nat := if s = ⟨#[97, 97, 114, 99, 104, 54, 52]⟩ then some 3221225655 else if s = ⟨#[120, 56, 54, 95, 54, 52]⟩ then some 3221225534 else none
def archV (s : ByteArray) : Value := .tuple #[.int .u32 (((archOf s).getD 0 : Nat) : Int), .bool (archOf s).isSome]
theorem zeroU32m (w : World) : (zeroValue 35).run Try.prog w = .ok (.int .u32 0) w := by kernel_rfl
theorem arch_step {c : Prop} [Decidable c] (v : Value) (p : Nat) (r : Option Value) (o : Option Nat) (h1 : Value.int .u32 (p : Nat) = v) (h2 : ¬ c → r = o.map fun n => Value.int .u32 (n : Nat)) :
    (if c then some v else r) = (if c then some p else o).map fun n => Value.int .u32 (n : Nat) := by
  by_cases h : c
  · rw [if_pos h, if_pos h, Option.map_some, h1]
  · rw [if_neg h, if_neg h, h2 h]
set_option maxHeartbeats 1000000 in
set_option maxRecDepth 100000 in
theorem callArch_any (s : ByteArray) (w : World) :
    Calls Try.prog 23 #[.string s] w fun e w' => e = .returned (archV s) ∧ Below w.heap.size w w' := by
  have hmm := @run_makeMap Try.prog
  have hbel := (Below.refl w.heap.size w).alloc (Nat.le_refl _) (.map #[] 0)
  have hm := HoldsMap.new strKeys w
  unfold archV
  cases ha : archOf s with
  | none =>
    have HA := Lib.hid ha
    clear ha
    go_enter Try.func23, Try.ntmps23
    go_wp2_with (refine wpList_mapSet (K := strKeys) hm hbel (Nat.le_refl _) (Nat.le_refl _) 67 9 35 _ _ _ _ _ rfl (.inr rfl) Try.underlying67 Try.underlying9 rfl rfl rfl ?_; clear hm hbel; intro wk hm hbel hg; clear hg; try (have hlk := (hm.congr (m' := fun k => (archOf k).map fun n => Value.int .u32 (n : Nat)) (fun k => by unfold archOf; refine arch_step _ _ _ _ rfl fun _ => ?_; exact arch_step _ _ _ _ rfl fun _ => rfl)).lookup (P := Try.prog) s Try.underlying67 Try.underlying9 (zeroU32m _); rw [HA.out] at hlk; simp only [strKeys, Option.map_none, Option.getD_none, Option.isSome_none] at hlk))
    go_ret2
    exact ⟨rfl, hbel⟩
  | some p =>
    have HA := Lib.hid ha
    clear ha
    go_enter Try.func23, Try.ntmps23
    go_wp2_with (refine wpList_mapSet (K := strKeys) hm hbel (Nat.le_refl _) (Nat.le_refl _) 67 9 35 _ _ _ _ _ rfl (.inr rfl) Try.underlying67 Try.underlying9 rfl rfl rfl ?_; clear hm hbel; intro wk hm hbel hg; clear hg; try (have hlk := (hm.congr (m' := fun k => (archOf k).map fun n => Value.int .u32 (n : Nat)) (fun k => by unfold archOf; refine arch_step _ _ _ _ rfl fun _ => ?_; exact arch_step _ _ _ _ rfl fun _ => rfl)).lookup (P := Try.prog) s Try.underlying67 Try.underlying9 (zeroU32m _); rw [HA.out] at hlk; simp only [strKeys, Option.map_some, Option.getD_some, Option.isSome_some] at hlk))
    go_ret2
    exact ⟨rfl, hbel⟩
end Go.Proofs.Ytbcoooaoofbboaa
