/- frame.read and what it defers, where a request is read. -/
import Derived.Test.YtmanlogclbbgaaaFr7
import Derived.Tactics
import Derived.Tactics2
import Derived.Defers
import Derived.Recover
import Derived.Laws.Pointers
namespace Go.Proofs.Ytmanlogclbbgaaa
open Go.RowKit
set_option linter.unusedVariables false

set_option maxRecDepth 100000 in
theorem frOwn (w : World) : Calls Try.prog 50 #[.iface 98 (.agg #[])] w fun e w' => e = .returned (.tuple #[]) ∧ w' = w.alloc (.cells #[] 98) := by
  have hta : ∀ u : World, (Instr.typeAssert (.iface 98 (.agg #[])) 20 98 true).run Try.prog u = .ok (.tuple #[.agg #[], .bool true]) u := fun _ => rfl
  go_enter Try.func50, Try.ntmps50
  go_wp2_with fail
  go_end0
  exact ⟨rfl, rfl⟩
set_option maxRecDepth 100000 in
set_option maxHeartbeats 1000000 in
theorem readCatch (N0 : Nat) (x : Value) (w : World) (h0 : w.heap[N0]? = some (.cells #[x] 4 (0, 0))) :
    CallsD Try.prog 49 #[.pointer (some ⟨N0, 0, none⟩)] (.panicking endP) w fun e u' w' =>
      e = .returned (.tuple #[]) ∧ u' = .panicking [{ v := .iface 98 (.agg #[]), recovered := true }] ∧ w' = (w.alloc (.cells #[] 98)).setCell ⟨N0, 0, none⟩ (.bool false) := by
  have b0 := (heap_alloc_old w (.cells #[] 98) (lt_of_block h0)).trans h0
  have c0 := below_cell (Below.refl _ _) b0 0 rfl
  have f0 := block_frozen b0 0
  have HO := Lib.hid (frOwn w)
  clear b0 h0
  refine callsD_of_wpS Try.func49 rfl fun c₀ cs hu => ?_
  apply wpS_seq
  apply wpS_region
  simp [wpOpsS, go_sem, recoverD, hu, Try.ntmps49, Exit.thenS, endP]
  refine wpS_of_wp ?_
  clear hu
  go_wp2_with fail
  refine HO.out.mono ?_
  rintro e' w1 ⟨rfl, rfl⟩
  go_wp2_with fail
  cases c₀
  simp_all [bodyPostS, results, Try.results49]
set_option maxRecDepth 100000 in
theorem readIdle (N0 : Nat) (w : World) :
    CallsD Try.prog 49 #[.pointer (some ⟨N0, 0, none⟩)] .returning w fun e u' w' => e = .returned (.tuple #[]) ∧ u' = .returning ∧ w' = w := by
  refine callsD_of_wpS Try.func49 rfl fun c₀ cs hu => ?_
  apply wpS_seq
  apply wpS_region
  simp [wpOpsS, go_sem, recoverD, hu, Try.ntmps49, Exit.thenS]
  refine wpS_of_wp ?_
  go_wp2_with fail
  cases c₀
  simp_all [bodyPostS, results, Try.results49]
/-- the door, where a reader has panicked -/
theorem readDoor {Q : Ending → World → Prop} {w7 : World} {N0 : Nat} {x : Value} {tmps : Array Value} (h0 : w7.heap[N0]? = some (.cells #[x] 4 (0, 0)))
    (ht0 : tmps.getD 4 undef = .pointer (some ⟨N0, 0, none⟩)) (hfin : Q (.returned (.bool false)) ((w7.alloc (.cells #[] 98)).setCell ⟨N0, 0, none⟩ (.bool false))) :
    Leaves Try.prog Try.f27 tmps Q [{ target := .fn (.func 49) #[.pointer (some ⟨N0, 0, none⟩)], args := #[] }] (.panicking endP) w7 := by
  refine leaves_cons (f := 49) (args := #[.pointer (some ⟨N0, 0, none⟩)]) (by simp) (by simp [go_sem]) ?_
  refine (readCatch N0 x w7 h0).mono ?_
  rintro e u' w8 ⟨rfl, rfl, rfl⟩
  have b0 := (heap_alloc_old w7 (.cells #[] 98) (lt_of_block h0)).trans h0
  have b2 := block_set b0 0 (.bool false)
  have c4 := below_cell (Below.refl _ _) b2 0 rfl
  have HFIN := Lib.hid hfin
  clear b0 b2 h0 hfin
  have ht0' : tmps[4]?.getD undef = .pointer (some ⟨N0, 0, none⟩) := by simpa using ht0
  simp [Leaves, settle, results, Try.results27, go_sem, c4, ht0']
  exact HFIN.out
/-- the door, where nothing has panicked -/
theorem readDoorRet {Q : Ending → World → Prop} {w7 : World} {N0 : Nat} {b : Bool} {tmps : Array Value} (h0 : w7.heap[N0]? = some (.cells #[.bool b] 4 (0, 0)))
    (ht0 : tmps.getD 4 undef = .pointer (some ⟨N0, 0, none⟩)) (hfin : Q (.returned (.bool b)) w7) :
    Leaves Try.prog Try.f27 tmps Q [{ target := .fn (.func 49) #[.pointer (some ⟨N0, 0, none⟩)], args := #[] }] .returning w7 := by
  refine leaves_cons (f := 49) (args := #[.pointer (some ⟨N0, 0, none⟩)]) (by simp) (by simp [go_sem]) ?_
  refine (readIdle N0 w7).mono ?_
  rintro e u' w8 ⟨rfl, rfl, rfl⟩
  have c4 := below_cell (Below.refl _ _) h0 0 rfl
  have ht0' : tmps[4]?.getD undef = .pointer (some ⟨N0, 0, none⟩) := by simpa using ht0
  have HFIN := Lib.hid hfin
  clear hfin h0
  simp [Leaves, settle, results, Try.results27, go_sem, c4, ht0']
  exact HFIN.out
end Go.Proofs.Ytmanlogclbbgaaa
