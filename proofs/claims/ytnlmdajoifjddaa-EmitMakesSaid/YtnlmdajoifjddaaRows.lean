/-
  No cell of these rows narrows 'for every input' (looked for: loops, veiled, ifaces, maps, wideKeys, modest, calm, conditions, laid).
  DERIVED. THE GIVEN ROWS OF THIS SEAT. 5 by the template 'for every input the law returns true; each argument reads behind the call as it read before'; 0 by the template 'total and deterministic' (their statements: YtnlmdajoifjddaaTotals.lean).
  GIVEN WITH THE SEED: the statements are not yours to turn. If you find one false, say at which input.
  Laid BY PROGRAM, IN A SANDBOX (cutbox-rows.mjs): the forced cells as the released guide's own fill.sh prints them over the translation 4f2a107808340efb… (all of the seat's roots in one cut). By AI agents, Wed Nov 11 2026. No macro, syntax, notation, axiom, sorry.
-/
import Derived.Test.YtnlmdajoifjddaaChecked
import GoSem.Claim
import GoSem.ClaimJoined
import GoSem.ClaimMapViews
import Derived.JoinedTies
import Derived.KernelRfl
namespace Go.Proofs.Ytnlmdajoifjddaa
/- THE CELL 'sum', in the pinned program and in every row, IS THE sha256 OF THE DUMP (.gsa) THAT YtnlmdajoifjddaaProg.lean LOADS. Nothing in Lean hashes anything: it is a label: what it is worth is what the hold of that sum in a sandbox is worth. -/
noncomputable def Try.pinned : Pinned := { name := "ytnlmdajoifjddaa", sum := "4f2a107808340efbeaf21b30c7e2a38410cc61054148046c7cf648d2a67f0c73", checked := Try.checked }
namespace Rows
def none {H : Type} : Left H := { results := [], args := [] }

/-- 'doorwardlaw21.EmitMakes': WHATEVER THE INPUT: true; the input reads as it did. -/
def emitMakesSpec : ChangeSpec := { name := "emitMakes", fn := fun _ => fun
  | [d] => { results := [.lit (.bool true)], args := [d] }
  | _ => none }
def emitMakesRow : OpenClaim := { program := "ytnlmdajoifjddaa", sum := "4f2a107808340efbeaf21b30c7e2a38410cc61054148046c7cf648d2a67f0c73", func := "doorward/doorwardlaw21.EmitMakes", spec := "emitMakes", unfollowed := true, recurses := true, apart := false }
def EmitMakesSaid : Prop := emitMakesRow.holds Try.pinned (OpenSpec.ofChange emitMakesSpec)

/-- ITS FALSE NEIGHBOUR: 'it returns false'. Refute it at one input. -/
def emitMakesWrong : ChangeSpec := { name := "emitMakes", fn := fun _ => fun
  | [d] => { results := [.lit (.bool false)], args := [d] }
  | _ => none }
def EmitMakesWrongFalsely : Prop := emitMakesRow.holds Try.pinned (OpenSpec.ofChange emitMakesWrong)

/-- 'doorwardlaw21.EmitRuns': WHATEVER THE INPUT: true; the input reads as it did. -/
def emitRunsSpec : ChangeSpec := { name := "emitRuns", fn := fun _ => fun
  | [d1, d2] => { results := [.lit (.bool true)], args := [d1, d2] }
  | _ => none }
def emitRunsRow : OpenClaim := { program := "ytnlmdajoifjddaa", sum := "4f2a107808340efbeaf21b30c7e2a38410cc61054148046c7cf648d2a67f0c73", func := "doorward/doorwardlaw21.EmitRuns", spec := "emitRuns", unfollowed := true, recurses := true, apart := false }
def EmitRunsSaid : Prop := emitRunsRow.holds Try.pinned (OpenSpec.ofChange emitRunsSpec)

/-- ITS FALSE NEIGHBOUR: 'it returns false'. Refute it at one input. -/
def emitRunsWrong : ChangeSpec := { name := "emitRuns", fn := fun _ => fun
  | [d1, d2] => { results := [.lit (.bool false)], args := [d1, d2] }
  | _ => none }
def EmitRunsWrongFalsely : Prop := emitRunsRow.holds Try.pinned (OpenSpec.ofChange emitRunsWrong)

/-- 'doorwardlaw21.EmitJoins': WHATEVER THE INPUT: true; the input reads as it did. -/
def emitJoinsSpec : ChangeSpec := { name := "emitJoins", fn := fun _ => fun
  | [d1, d2] => { results := [.lit (.bool true)], args := [d1, d2] }
  | _ => none }
def emitJoinsRow : OpenClaim := { program := "ytnlmdajoifjddaa", sum := "4f2a107808340efbeaf21b30c7e2a38410cc61054148046c7cf648d2a67f0c73", func := "doorward/doorwardlaw21.EmitJoins", spec := "emitJoins", unfollowed := true, recurses := true, apart := false }
def EmitJoinsSaid : Prop := emitJoinsRow.holds Try.pinned (OpenSpec.ofChange emitJoinsSpec)

/-- ITS FALSE NEIGHBOUR: 'it returns false'. Refute it at one input. -/
def emitJoinsWrong : ChangeSpec := { name := "emitJoins", fn := fun _ => fun
  | [d1, d2] => { results := [.lit (.bool false)], args := [d1, d2] }
  | _ => none }
def EmitJoinsWrongFalsely : Prop := emitJoinsRow.holds Try.pinned (OpenSpec.ofChange emitJoinsWrong)

/-- 'doorwardlaw21.EmitNames': WHATEVER THE INPUT: true; the input reads as it did. -/
def emitNamesSpec : ChangeSpec := { name := "emitNames", fn := fun _ => fun
  | [d1, d2] => { results := [.lit (.bool true)], args := [d1, d2] }
  | _ => none }
def emitNamesRow : OpenClaim := { program := "ytnlmdajoifjddaa", sum := "4f2a107808340efbeaf21b30c7e2a38410cc61054148046c7cf648d2a67f0c73", func := "doorward/doorwardlaw21.EmitNames", spec := "emitNames", unfollowed := true, recurses := true, apart := false }
def EmitNamesSaid : Prop := emitNamesRow.holds Try.pinned (OpenSpec.ofChange emitNamesSpec)

/-- ITS FALSE NEIGHBOUR: 'it returns false'. Refute it at one input. -/
def emitNamesWrong : ChangeSpec := { name := "emitNames", fn := fun _ => fun
  | [d1, d2] => { results := [.lit (.bool false)], args := [d1, d2] }
  | _ => none }
def EmitNamesWrongFalsely : Prop := emitNamesRow.holds Try.pinned (OpenSpec.ofChange emitNamesWrong)

/-- 'doorwardlaw21.EmitCodes': WHATEVER THE INPUT: true; the input reads as it did. -/
def emitCodesSpec : ChangeSpec := { name := "emitCodes", fn := fun _ => fun
  | [d] => { results := [.lit (.bool true)], args := [d] }
  | _ => none }
def emitCodesRow : OpenClaim := { program := "ytnlmdajoifjddaa", sum := "4f2a107808340efbeaf21b30c7e2a38410cc61054148046c7cf648d2a67f0c73", func := "doorward/doorwardlaw21.EmitCodes", spec := "emitCodes", unfollowed := true, recurses := true, apart := false }
def EmitCodesSaid : Prop := emitCodesRow.holds Try.pinned (OpenSpec.ofChange emitCodesSpec)

/-- ITS FALSE NEIGHBOUR: 'it returns false'. Refute it at one input. -/
def emitCodesWrong : ChangeSpec := { name := "emitCodes", fn := fun _ => fun
  | [d] => { results := [.lit (.bool false)], args := [d] }
  | _ => none }
def EmitCodesWrongFalsely : Prop := emitCodesRow.holds Try.pinned (OpenSpec.ofChange emitCodesWrong)

/- THE SECOND FORM. 'bulk': how many values and letters a reading holds, each counted each time it is reached (what is shared counts as often as it is met; a slice's spare places count too). A statement '..UptoSaid' is the law's where the arguments, and the package variables that the reading takes, are together of bulk at most 1048576: NARROWER than '..Said'. Prove '..Said' where nothing that the law and all that it calls make is longer than what came in: it says more and counts as full. Else prove '..UptoSaid'. A law counts once. -/
mutual
def uptoBulk {H : Type} : DataW H → Nat
  | .lit (.string bytes) => bytes.length + 1
  | .lit _ => 1
  | .nil => 1
  | .ptr d => uptoBulk d + 1
  | .slice elems spare => uptoBulkAll elems + uptoBulkAll spare + 1
  | .agg parts => uptoBulkAll parts + 1
  | .iface _ d => uptoBulk d + 1
  | .map entries => uptoBulkEntries entries + 1
  | .held _ => 1
def uptoBulkAll {H : Type} : List (DataW H) → Nat
  | [] => 0
  | d :: r => uptoBulk d + uptoBulkAll r
def uptoBulkEntries {H : Type} : List (Lit × DataW H) → Nat
  | [] => 0
  | x :: r => uptoBulkEntry x + uptoBulkEntries r
def uptoBulkEntry {H : Type} : Lit × DataW H → Nat
  | (.string bytes, d) => bytes.length + uptoBulk d + 1
  | (_, d) => uptoBulk d + 1
 end
def uptoSmall : (H : Type) → List (DataW H) → Bool := fun _ ds => decide (uptoBulkAll ds ≤ 1048576)
def OpenSpec.upto (s : _root_.Go.ChangeSpec) : _root_.Go.OpenSpec := { _root_.Go.OpenSpec.ofChange s with cond := some uptoSmall }

/-- 'doorwardlaw21.EmitMakes', WHERE WHAT IT READS IS OF BULK AT MOST 1048576: true; the input reads as it did. -/
def emitMakesUptoRow : OpenClaim := { program := "ytnlmdajoifjddaa", sum := "4f2a107808340efbeaf21b30c7e2a38410cc61054148046c7cf648d2a67f0c73", func := "doorward/doorwardlaw21.EmitMakes", spec := "emitMakes", unfollowed := true, recurses := true, apart := false, narrowed := true }
def EmitMakesUptoSaid : Prop := emitMakesUptoRow.holds Try.pinned (OpenSpec.upto emitMakesSpec)

/-- 'doorwardlaw21.EmitRuns', WHERE WHAT IT READS IS OF BULK AT MOST 1048576: true; the input reads as it did. -/
def emitRunsUptoRow : OpenClaim := { program := "ytnlmdajoifjddaa", sum := "4f2a107808340efbeaf21b30c7e2a38410cc61054148046c7cf648d2a67f0c73", func := "doorward/doorwardlaw21.EmitRuns", spec := "emitRuns", unfollowed := true, recurses := true, apart := false, narrowed := true }
def EmitRunsUptoSaid : Prop := emitRunsUptoRow.holds Try.pinned (OpenSpec.upto emitRunsSpec)

/-- 'doorwardlaw21.EmitJoins', WHERE WHAT IT READS IS OF BULK AT MOST 1048576: true; the input reads as it did. -/
def emitJoinsUptoRow : OpenClaim := { program := "ytnlmdajoifjddaa", sum := "4f2a107808340efbeaf21b30c7e2a38410cc61054148046c7cf648d2a67f0c73", func := "doorward/doorwardlaw21.EmitJoins", spec := "emitJoins", unfollowed := true, recurses := true, apart := false, narrowed := true }
def EmitJoinsUptoSaid : Prop := emitJoinsUptoRow.holds Try.pinned (OpenSpec.upto emitJoinsSpec)

/-- 'doorwardlaw21.EmitNames', WHERE WHAT IT READS IS OF BULK AT MOST 1048576: true; the input reads as it did. -/
def emitNamesUptoRow : OpenClaim := { program := "ytnlmdajoifjddaa", sum := "4f2a107808340efbeaf21b30c7e2a38410cc61054148046c7cf648d2a67f0c73", func := "doorward/doorwardlaw21.EmitNames", spec := "emitNames", unfollowed := true, recurses := true, apart := false, narrowed := true }
def EmitNamesUptoSaid : Prop := emitNamesUptoRow.holds Try.pinned (OpenSpec.upto emitNamesSpec)

/-- 'doorwardlaw21.EmitCodes', WHERE WHAT IT READS IS OF BULK AT MOST 1048576: true; the input reads as it did. -/
def emitCodesUptoRow : OpenClaim := { program := "ytnlmdajoifjddaa", sum := "4f2a107808340efbeaf21b30c7e2a38410cc61054148046c7cf648d2a67f0c73", func := "doorward/doorwardlaw21.EmitCodes", spec := "emitCodes", unfollowed := true, recurses := true, apart := false, narrowed := true }
def EmitCodesUptoSaid : Prop := emitCodesUptoRow.holds Try.pinned (OpenSpec.upto emitCodesSpec)

end Rows
end Go.Proofs.Ytnlmdajoifjddaa
