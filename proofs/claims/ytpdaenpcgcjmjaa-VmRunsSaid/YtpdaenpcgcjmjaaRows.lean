/-
  No cell of these rows narrows 'for every input' (looked for: loops, veiled, ifaces, maps, wideKeys, modest, calm, conditions, laid).
  DERIVED. THE GIVEN ROWS OF THIS SEAT. 5 by the template 'for every input the law returns true; each argument reads behind the call as it read before'; 0 by the template 'total and deterministic' (their statements: YtpdaenpcgcjmjaaTotals.lean).
  GIVEN WITH THE SEED: the statements are not yours to turn. If you find one false, say at which input.
  Laid BY PROGRAM, IN A SANDBOX (cutbox-rows.mjs): the forced cells as the released guide's own fill.sh prints them over the translation c1583ae94e4c36d6… (all of the seat's roots in one cut). By AI agents, Wed Nov 11 2026. No macro, syntax, notation, axiom, sorry.
-/
import Derived.Test.YtpdaenpcgcjmjaaChecked
import GoSem.Claim
import GoSem.ClaimJoined
import GoSem.ClaimMapViews
import Derived.JoinedTies
import Derived.KernelRfl
namespace Go.Proofs.Ytpdaenpcgcjmjaa
/- THE CELL 'sum', in the pinned program and in every row, IS THE sha256 OF THE DUMP (.gsa) THAT YtpdaenpcgcjmjaaProg.lean LOADS. Nothing in Lean hashes anything: it is a label: what it is worth is what the hold of that sum in a sandbox is worth. -/
noncomputable def Try.pinned : Pinned := { name := "ytpdaenpcgcjmjaa", sum := "c1583ae94e4c36d68e31cabce66fab2d34aeae2c43dac440bc96d5e7d6318a88", checked := Try.checked }
namespace Rows
def none {H : Type} : Left H := { results := [], args := [] }

/-- 'doorwardlaw11.VmRuns': WHATEVER THE INPUT: true; the input reads as it did. -/
def vmRunsSpec : ChangeSpec := { name := "vmRuns", fn := fun _ => fun
  | [d1, d2, d3] => { results := [.lit (.bool true)], args := [d1, d2, d3] }
  | _ => none }
def vmRunsRow : OpenClaim := { program := "ytpdaenpcgcjmjaa", sum := "c1583ae94e4c36d68e31cabce66fab2d34aeae2c43dac440bc96d5e7d6318a88", func := "doorward/doorwardlaw11.VmRuns", spec := "vmRuns", unfollowed := true, recurses := true, apart := false }
def VmRunsSaid : Prop := vmRunsRow.holds Try.pinned (OpenSpec.ofChange vmRunsSpec)

/-- ITS FALSE NEIGHBOUR: 'it returns false'. Refute it at one input. -/
def vmRunsWrong : ChangeSpec := { name := "vmRuns", fn := fun _ => fun
  | [d1, d2, d3] => { results := [.lit (.bool false)], args := [d1, d2, d3] }
  | _ => none }
def VmRunsWrongFalsely : Prop := vmRunsRow.holds Try.pinned (OpenSpec.ofChange vmRunsWrong)

/-- 'doorwardlaw11.VmEnds': WHATEVER THE INPUT: true; the input reads as it did. -/
def vmEndsSpec : ChangeSpec := { name := "vmEnds", fn := fun _ => fun
  | [d1, d2, d3] => { results := [.lit (.bool true)], args := [d1, d2, d3] }
  | _ => none }
def vmEndsRow : OpenClaim := { program := "ytpdaenpcgcjmjaa", sum := "c1583ae94e4c36d68e31cabce66fab2d34aeae2c43dac440bc96d5e7d6318a88", func := "doorward/doorwardlaw11.VmEnds", spec := "vmEnds", unfollowed := true, recurses := true, apart := false }
def VmEndsSaid : Prop := vmEndsRow.holds Try.pinned (OpenSpec.ofChange vmEndsSpec)

/-- ITS FALSE NEIGHBOUR: 'it returns false'. Refute it at one input. -/
def vmEndsWrong : ChangeSpec := { name := "vmEnds", fn := fun _ => fun
  | [d1, d2, d3] => { results := [.lit (.bool false)], args := [d1, d2, d3] }
  | _ => none }
def VmEndsWrongFalsely : Prop := vmEndsRow.holds Try.pinned (OpenSpec.ofChange vmEndsWrong)

/-- 'doorwardlaw11.VmMoves': WHATEVER THE INPUT: true; the input reads as it did. -/
def vmMovesSpec : ChangeSpec := { name := "vmMoves", fn := fun _ => fun
  | [d1, d2, d3, d4] => { results := [.lit (.bool true)], args := [d1, d2, d3, d4] }
  | _ => none }
def vmMovesRow : OpenClaim := { program := "ytpdaenpcgcjmjaa", sum := "c1583ae94e4c36d68e31cabce66fab2d34aeae2c43dac440bc96d5e7d6318a88", func := "doorward/doorwardlaw11.VmMoves", spec := "vmMoves", unfollowed := true, recurses := true, apart := false }
def VmMovesSaid : Prop := vmMovesRow.holds Try.pinned (OpenSpec.ofChange vmMovesSpec)

/-- ITS FALSE NEIGHBOUR: 'it returns false'. Refute it at one input. -/
def vmMovesWrong : ChangeSpec := { name := "vmMoves", fn := fun _ => fun
  | [d1, d2, d3, d4] => { results := [.lit (.bool false)], args := [d1, d2, d3, d4] }
  | _ => none }
def VmMovesWrongFalsely : Prop := vmMovesRow.holds Try.pinned (OpenSpec.ofChange vmMovesWrong)

/-- 'doorwardlaw11.VmSums': WHATEVER THE INPUT: true; the input reads as it did. -/
def vmSumsSpec : ChangeSpec := { name := "vmSums", fn := fun _ => fun
  | [d1, d2, d3, d4] => { results := [.lit (.bool true)], args := [d1, d2, d3, d4] }
  | _ => none }
def vmSumsRow : OpenClaim := { program := "ytpdaenpcgcjmjaa", sum := "c1583ae94e4c36d68e31cabce66fab2d34aeae2c43dac440bc96d5e7d6318a88", func := "doorward/doorwardlaw11.VmSums", spec := "vmSums", unfollowed := true, recurses := true, apart := false }
def VmSumsSaid : Prop := vmSumsRow.holds Try.pinned (OpenSpec.ofChange vmSumsSpec)

/-- ITS FALSE NEIGHBOUR: 'it returns false'. Refute it at one input. -/
def vmSumsWrong : ChangeSpec := { name := "vmSums", fn := fun _ => fun
  | [d1, d2, d3, d4] => { results := [.lit (.bool false)], args := [d1, d2, d3, d4] }
  | _ => none }
def VmSumsWrongFalsely : Prop := vmSumsRow.holds Try.pinned (OpenSpec.ofChange vmSumsWrong)

/-- 'doorwardlaw11.VmPasses': WHATEVER THE INPUT: true; the input reads as it did. -/
def vmPassesSpec : ChangeSpec := { name := "vmPasses", fn := fun _ => fun
  | [d1, d2, d3, d4, d5] => { results := [.lit (.bool true)], args := [d1, d2, d3, d4, d5] }
  | _ => none }
def vmPassesRow : OpenClaim := { program := "ytpdaenpcgcjmjaa", sum := "c1583ae94e4c36d68e31cabce66fab2d34aeae2c43dac440bc96d5e7d6318a88", func := "doorward/doorwardlaw11.VmPasses", spec := "vmPasses", unfollowed := true, recurses := true, apart := false }
def VmPassesSaid : Prop := vmPassesRow.holds Try.pinned (OpenSpec.ofChange vmPassesSpec)

/-- ITS FALSE NEIGHBOUR: 'it returns false'. Refute it at one input. -/
def vmPassesWrong : ChangeSpec := { name := "vmPasses", fn := fun _ => fun
  | [d1, d2, d3, d4, d5] => { results := [.lit (.bool false)], args := [d1, d2, d3, d4, d5] }
  | _ => none }
def VmPassesWrongFalsely : Prop := vmPassesRow.holds Try.pinned (OpenSpec.ofChange vmPassesWrong)

/- THE SECOND FORM. 'bulk': how many values and letters a reading holds, each counted each time it is reached (what is shared counts as often as it is met; a slice's spare places count too). A statement '..UptoSaid' is the law's where the arguments, and the package variables that the reading takes, are together of bulk at most 1048576: NARROWER than '..Said'. Prove '..Said' where nothing that the law and all that it calls make is longer than what came in: it says more and counts as full. Else prove '..UptoSaid'. A law counts once. -/
mutual
def uptoBulk {H : Type} : DataW H → Nat
  | .lit (.string bytes) => bytes.length + 1
  | .lit _ => 1
  | .nil => 1
  | .ptr d => uptoBulk d + 1
  | .slice elems spare => uptoBulkAll elems + uptoBulkAll spare + 1
  | .agg parts => uptoBulkAll parts + 1
  | .iface _ d => uptoBulk d + 1
  | .map entries => uptoBulkEntries entries + 1
  | .held _ => 1
def uptoBulkAll {H : Type} : List (DataW H) → Nat
  | [] => 0
  | d :: r => uptoBulk d + uptoBulkAll r
def uptoBulkEntries {H : Type} : List (Lit × DataW H) → Nat
  | [] => 0
  | x :: r => uptoBulkEntry x + uptoBulkEntries r
def uptoBulkEntry {H : Type} : Lit × DataW H → Nat
  | (.string bytes, d) => bytes.length + uptoBulk d + 1
  | (_, d) => uptoBulk d + 1
 end
def uptoSmall : (H : Type) → List (DataW H) → Bool := fun _ ds => decide (uptoBulkAll ds ≤ 1048576)
def OpenSpec.upto (s : _root_.Go.ChangeSpec) : _root_.Go.OpenSpec := { _root_.Go.OpenSpec.ofChange s with cond := some uptoSmall }

/-- 'doorwardlaw11.VmRuns', WHERE WHAT IT READS IS OF BULK AT MOST 1048576: true; the input reads as it did. -/
def vmRunsUptoRow : OpenClaim := { program := "ytpdaenpcgcjmjaa", sum := "c1583ae94e4c36d68e31cabce66fab2d34aeae2c43dac440bc96d5e7d6318a88", func := "doorward/doorwardlaw11.VmRuns", spec := "vmRuns", unfollowed := true, recurses := true, apart := false, narrowed := true }
def VmRunsUptoSaid : Prop := vmRunsUptoRow.holds Try.pinned (OpenSpec.upto vmRunsSpec)

/-- 'doorwardlaw11.VmEnds', WHERE WHAT IT READS IS OF BULK AT MOST 1048576: true; the input reads as it did. -/
def vmEndsUptoRow : OpenClaim := { program := "ytpdaenpcgcjmjaa", sum := "c1583ae94e4c36d68e31cabce66fab2d34aeae2c43dac440bc96d5e7d6318a88", func := "doorward/doorwardlaw11.VmEnds", spec := "vmEnds", unfollowed := true, recurses := true, apart := false, narrowed := true }
def VmEndsUptoSaid : Prop := vmEndsUptoRow.holds Try.pinned (OpenSpec.upto vmEndsSpec)

/-- 'doorwardlaw11.VmMoves', WHERE WHAT IT READS IS OF BULK AT MOST 1048576: true; the input reads as it did. -/
def vmMovesUptoRow : OpenClaim := { program := "ytpdaenpcgcjmjaa", sum := "c1583ae94e4c36d68e31cabce66fab2d34aeae2c43dac440bc96d5e7d6318a88", func := "doorward/doorwardlaw11.VmMoves", spec := "vmMoves", unfollowed := true, recurses := true, apart := false, narrowed := true }
def VmMovesUptoSaid : Prop := vmMovesUptoRow.holds Try.pinned (OpenSpec.upto vmMovesSpec)

/-- 'doorwardlaw11.VmSums', WHERE WHAT IT READS IS OF BULK AT MOST 1048576: true; the input reads as it did. -/
def vmSumsUptoRow : OpenClaim := { program := "ytpdaenpcgcjmjaa", sum := "c1583ae94e4c36d68e31cabce66fab2d34aeae2c43dac440bc96d5e7d6318a88", func := "doorward/doorwardlaw11.VmSums", spec := "vmSums", unfollowed := true, recurses := true, apart := false, narrowed := true }
def VmSumsUptoSaid : Prop := vmSumsUptoRow.holds Try.pinned (OpenSpec.upto vmSumsSpec)

/-- 'doorwardlaw11.VmPasses', WHERE WHAT IT READS IS OF BULK AT MOST 1048576: true; the input reads as it did. -/
def vmPassesUptoRow : OpenClaim := { program := "ytpdaenpcgcjmjaa", sum := "c1583ae94e4c36d68e31cabce66fab2d34aeae2c43dac440bc96d5e7d6318a88", func := "doorward/doorwardlaw11.VmPasses", spec := "vmPasses", unfollowed := true, recurses := true, apart := false, narrowed := true }
def VmPassesUptoSaid : Prop := vmPassesUptoRow.holds Try.pinned (OpenSpec.upto vmPassesSpec)

end Rows
end Go.Proofs.Ytpdaenpcgcjmjaa
