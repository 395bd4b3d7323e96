/-
  No cell of these rows narrows 'for every input' (looked for: loops, veiled, ifaces, maps, wideKeys, modest, calm, conditions, laid).
  DERIVED. THE GIVEN ROWS OF THIS SEAT. 8 by the template 'for every input the law returns true; each argument reads behind the call as it read before'; 0 by the template 'total and deterministic' (their statements: YtbndhegmfnfahabTotals.lean).
  GIVEN WITH THE SEED: the statements are not yours to turn. If you find one false, say at which input.
  Laid BY PROGRAM, IN A SANDBOX (cutbox-rows.mjs): the forced cells as the released guide's own fill.sh prints them over the translation 4ccdd919840c0049… (all of the seat's roots in one cut). By AI agents, Wed Nov 11 2026. No macro, syntax, notation, axiom, sorry.
-/
import Derived.Test.YtbndhegmfnfahabChecked
import GoSem.Claim
import GoSem.ClaimJoined
import GoSem.ClaimMapViews
import Derived.JoinedTies
import Derived.KernelRfl
namespace Go.Proofs.Ytbndhegmfnfahab
/- THE CELL 'sum', in the pinned program and in every row, IS THE sha256 OF THE DUMP (.gsa) THAT YtbndhegmfnfahabProg.lean LOADS. Nothing in Lean hashes anything: it is a label: what it is worth is what the hold of that sum in a sandbox is worth. -/
noncomputable def Try.pinned : Pinned := { name := "ytbndhegmfnfahab", sum := "4ccdd919840c0049b704d0407f8bff6bbc4d909082e9f3605c7a98e85b24880c", checked := Try.checked }
namespace Rows
def none {H : Type} : Left H := { results := [], args := [] }

/-- 'doorwardlaw10.InsnJoins': WHATEVER THE INPUT: true; the input reads as it did. -/
def insnJoinsSpec : ChangeSpec := { name := "insnJoins", fn := fun _ => fun
  | [d1, d2] => { results := [.lit (.bool true)], args := [d1, d2] }
  | _ => none }
def insnJoinsRow : OpenClaim := { program := "ytbndhegmfnfahab", sum := "4ccdd919840c0049b704d0407f8bff6bbc4d909082e9f3605c7a98e85b24880c", func := "doorward/doorwardlaw10.InsnJoins", spec := "insnJoins", inPlace := ["internal/abi.NoEscape"], apart := false }
def InsnJoinsSaid : Prop := insnJoinsRow.holds Try.pinned (OpenSpec.ofChange insnJoinsSpec)

/-- ITS FALSE NEIGHBOUR: 'it returns false'. Refute it at one input. -/
def insnJoinsWrong : ChangeSpec := { name := "insnJoins", fn := fun _ => fun
  | [d1, d2] => { results := [.lit (.bool false)], args := [d1, d2] }
  | _ => none }
def InsnJoinsWrongFalsely : Prop := insnJoinsRow.holds Try.pinned (OpenSpec.ofChange insnJoinsWrong)

/-- 'doorwardlaw10.InsnOne': WHATEVER THE INPUT: true; the input reads as it did. -/
def insnOneSpec : ChangeSpec := { name := "insnOne", fn := fun _ => fun
  | [d1, d2] => { results := [.lit (.bool true)], args := [d1, d2] }
  | _ => none }
def insnOneRow : OpenClaim := { program := "ytbndhegmfnfahab", sum := "4ccdd919840c0049b704d0407f8bff6bbc4d909082e9f3605c7a98e85b24880c", func := "doorward/doorwardlaw10.InsnOne", spec := "insnOne", apart := false }
def InsnOneSaid : Prop := insnOneRow.holds Try.pinned (OpenSpec.ofChange insnOneSpec)

/-- ITS FALSE NEIGHBOUR: 'it returns false'. Refute it at one input. -/
def insnOneWrong : ChangeSpec := { name := "insnOne", fn := fun _ => fun
  | [d1, d2] => { results := [.lit (.bool false)], args := [d1, d2] }
  | _ => none }
def InsnOneWrongFalsely : Prop := insnOneRow.holds Try.pinned (OpenSpec.ofChange insnOneWrong)

/-- 'doorwardlaw13.CallRecords': WHATEVER THE INPUT: true; the input reads as it did. -/
def callRecordsSpec : ChangeSpec := { name := "callRecords", fn := fun _ => fun
  | [d1, d2] => { results := [.lit (.bool true)], args := [d1, d2] }
  | _ => none }
def callRecordsRow : OpenClaim := { program := "ytbndhegmfnfahab", sum := "4ccdd919840c0049b704d0407f8bff6bbc4d909082e9f3605c7a98e85b24880c", func := "doorward/doorwardlaw13.CallRecords", spec := "callRecords", apart := false }
def CallRecordsSaid : Prop := callRecordsRow.holds Try.pinned (OpenSpec.ofChange callRecordsSpec)

/-- ITS FALSE NEIGHBOUR: 'it returns false'. Refute it at one input. -/
def callRecordsWrong : ChangeSpec := { name := "callRecords", fn := fun _ => fun
  | [d1, d2] => { results := [.lit (.bool false)], args := [d1, d2] }
  | _ => none }
def CallRecordsWrongFalsely : Prop := callRecordsRow.holds Try.pinned (OpenSpec.ofChange callRecordsWrong)

/-- 'doorwardlaw13.CallNames': WHATEVER THE INPUT: true; the input reads as it did. -/
def callNamesSpec : ChangeSpec := { name := "callNames", fn := fun _ => fun
  | [d1, d2, d3, d4] => { results := [.lit (.bool true)], args := [d1, d2, d3, d4] }
  | _ => none }
def callNamesRow : OpenClaim := { program := "ytbndhegmfnfahab", sum := "4ccdd919840c0049b704d0407f8bff6bbc4d909082e9f3605c7a98e85b24880c", func := "doorward/doorwardlaw13.CallNames", spec := "callNames", apart := false }
def CallNamesSaid : Prop := callNamesRow.holds Try.pinned (OpenSpec.ofChange callNamesSpec)

/-- ITS FALSE NEIGHBOUR: 'it returns false'. Refute it at one input. -/
def callNamesWrong : ChangeSpec := { name := "callNames", fn := fun _ => fun
  | [d1, d2, d3, d4] => { results := [.lit (.bool false)], args := [d1, d2, d3, d4] }
  | _ => none }
def CallNamesWrongFalsely : Prop := callNamesRow.holds Try.pinned (OpenSpec.ofChange callNamesWrong)

/-- 'doorwardlaw13.CallBack': WHATEVER THE INPUT: true; the input reads as it did. -/
def callBackSpec : ChangeSpec := { name := "callBack", fn := fun _ => fun
  | [d1, d2, d3, d4] => { results := [.lit (.bool true)], args := [d1, d2, d3, d4] }
  | _ => none }
def callBackRow : OpenClaim := { program := "ytbndhegmfnfahab", sum := "4ccdd919840c0049b704d0407f8bff6bbc4d909082e9f3605c7a98e85b24880c", func := "doorward/doorwardlaw13.CallBack", spec := "callBack", apart := false }
def CallBackSaid : Prop := callBackRow.holds Try.pinned (OpenSpec.ofChange callBackSpec)

/-- ITS FALSE NEIGHBOUR: 'it returns false'. Refute it at one input. -/
def callBackWrong : ChangeSpec := { name := "callBack", fn := fun _ => fun
  | [d1, d2, d3, d4] => { results := [.lit (.bool false)], args := [d1, d2, d3, d4] }
  | _ => none }
def CallBackWrongFalsely : Prop := callBackRow.holds Try.pinned (OpenSpec.ofChange callBackWrong)

/-- 'doorwardlaw13.CallActions': WHATEVER THE INPUT: true; the input reads as it did. -/
def callActionsSpec : ChangeSpec := { name := "callActions", fn := fun _ => fun
  | [d1, d2, d3, d4] => { results := [.lit (.bool true)], args := [d1, d2, d3, d4] }
  | _ => none }
def callActionsRow : OpenClaim := { program := "ytbndhegmfnfahab", sum := "4ccdd919840c0049b704d0407f8bff6bbc4d909082e9f3605c7a98e85b24880c", func := "doorward/doorwardlaw13.CallActions", spec := "callActions", apart := false }
def CallActionsSaid : Prop := callActionsRow.holds Try.pinned (OpenSpec.ofChange callActionsSpec)

/-- ITS FALSE NEIGHBOUR: 'it returns false'. Refute it at one input. -/
def callActionsWrong : ChangeSpec := { name := "callActions", fn := fun _ => fun
  | [d1, d2, d3, d4] => { results := [.lit (.bool false)], args := [d1, d2, d3, d4] }
  | _ => none }
def CallActionsWrongFalsely : Prop := callActionsRow.holds Try.pinned (OpenSpec.ofChange callActionsWrong)

/-- 'doorwardlaw13.CallWords': WHATEVER THE INPUT: true; the input reads as it did. -/
def callWordsSpec : ChangeSpec := { name := "callWords", fn := fun _ => fun
  | [d] => { results := [.lit (.bool true)], args := [d] }
  | _ => none }
def callWordsRow : OpenClaim := { program := "ytbndhegmfnfahab", sum := "4ccdd919840c0049b704d0407f8bff6bbc4d909082e9f3605c7a98e85b24880c", func := "doorward/doorwardlaw13.CallWords", spec := "callWords", apart := false }
def CallWordsSaid : Prop := callWordsRow.holds Try.pinned (OpenSpec.ofChange callWordsSpec)

/-- ITS FALSE NEIGHBOUR: 'it returns false'. Refute it at one input. -/
def callWordsWrong : ChangeSpec := { name := "callWords", fn := fun _ => fun
  | [d] => { results := [.lit (.bool false)], args := [d] }
  | _ => none }
def CallWordsWrongFalsely : Prop := callWordsRow.holds Try.pinned (OpenSpec.ofChange callWordsWrong)

/-- 'doorwardlaw13.CallApart': WHATEVER THE INPUT: true; the input reads as it did. -/
def callApartSpec : ChangeSpec := { name := "callApart", fn := fun _ => fun
  | [d1, d2, d3, d4] => { results := [.lit (.bool true)], args := [d1, d2, d3, d4] }
  | _ => none }
def callApartRow : OpenClaim := { program := "ytbndhegmfnfahab", sum := "4ccdd919840c0049b704d0407f8bff6bbc4d909082e9f3605c7a98e85b24880c", func := "doorward/doorwardlaw13.CallApart", spec := "callApart", apart := false }
def CallApartSaid : Prop := callApartRow.holds Try.pinned (OpenSpec.ofChange callApartSpec)

/-- ITS FALSE NEIGHBOUR: 'it returns false'. Refute it at one input. -/
def callApartWrong : ChangeSpec := { name := "callApart", fn := fun _ => fun
  | [d1, d2, d3, d4] => { results := [.lit (.bool false)], args := [d1, d2, d3, d4] }
  | _ => none }
def CallApartWrongFalsely : Prop := callApartRow.holds Try.pinned (OpenSpec.ofChange callApartWrong)

/- THE SECOND FORM. 'bulk': how many values and letters a reading holds, each counted each time it is reached (what is shared counts as often as it is met; a slice's spare places count too). A statement '..UptoSaid' is the law's where the arguments, and the package variables that the reading takes, are together of bulk at most 1048576: NARROWER than '..Said'. Prove '..Said' where nothing that the law and all that it calls make is longer than what came in: it says more and counts as full. Else prove '..UptoSaid'. A law counts once. -/
mutual
def uptoBulk {H : Type} : DataW H → Nat
  | .lit (.string bytes) => bytes.length + 1
  | .lit _ => 1
  | .nil => 1
  | .ptr d => uptoBulk d + 1
  | .slice elems spare => uptoBulkAll elems + uptoBulkAll spare + 1
  | .agg parts => uptoBulkAll parts + 1
  | .iface _ d => uptoBulk d + 1
  | .map entries => uptoBulkEntries entries + 1
  | .held _ => 1
def uptoBulkAll {H : Type} : List (DataW H) → Nat
  | [] => 0
  | d :: r => uptoBulk d + uptoBulkAll r
def uptoBulkEntries {H : Type} : List (Lit × DataW H) → Nat
  | [] => 0
  | x :: r => uptoBulkEntry x + uptoBulkEntries r
def uptoBulkEntry {H : Type} : Lit × DataW H → Nat
  | (.string bytes, d) => bytes.length + uptoBulk d + 1
  | (_, d) => uptoBulk d + 1
 end
def uptoSmall : (H : Type) → List (DataW H) → Bool := fun _ ds => decide (uptoBulkAll ds ≤ 1048576)
def OpenSpec.upto (s : _root_.Go.ChangeSpec) : _root_.Go.OpenSpec := { _root_.Go.OpenSpec.ofChange s with cond := some uptoSmall }

/-- 'doorwardlaw10.InsnJoins', WHERE WHAT IT READS IS OF BULK AT MOST 1048576: true; the input reads as it did. -/
def insnJoinsUptoRow : OpenClaim := { program := "ytbndhegmfnfahab", sum := "4ccdd919840c0049b704d0407f8bff6bbc4d909082e9f3605c7a98e85b24880c", func := "doorward/doorwardlaw10.InsnJoins", spec := "insnJoins", inPlace := ["internal/abi.NoEscape"], apart := false, narrowed := true }
def InsnJoinsUptoSaid : Prop := insnJoinsUptoRow.holds Try.pinned (OpenSpec.upto insnJoinsSpec)

/-- 'doorwardlaw10.InsnOne', WHERE WHAT IT READS IS OF BULK AT MOST 1048576: true; the input reads as it did. -/
def insnOneUptoRow : OpenClaim := { program := "ytbndhegmfnfahab", sum := "4ccdd919840c0049b704d0407f8bff6bbc4d909082e9f3605c7a98e85b24880c", func := "doorward/doorwardlaw10.InsnOne", spec := "insnOne", apart := false, narrowed := true }
def InsnOneUptoSaid : Prop := insnOneUptoRow.holds Try.pinned (OpenSpec.upto insnOneSpec)

/-- 'doorwardlaw13.CallRecords', WHERE WHAT IT READS IS OF BULK AT MOST 1048576: true; the input reads as it did. -/
def callRecordsUptoRow : OpenClaim := { program := "ytbndhegmfnfahab", sum := "4ccdd919840c0049b704d0407f8bff6bbc4d909082e9f3605c7a98e85b24880c", func := "doorward/doorwardlaw13.CallRecords", spec := "callRecords", apart := false, narrowed := true }
def CallRecordsUptoSaid : Prop := callRecordsUptoRow.holds Try.pinned (OpenSpec.upto callRecordsSpec)

/-- 'doorwardlaw13.CallNames', WHERE WHAT IT READS IS OF BULK AT MOST 1048576: true; the input reads as it did. -/
def callNamesUptoRow : OpenClaim := { program := "ytbndhegmfnfahab", sum := "4ccdd919840c0049b704d0407f8bff6bbc4d909082e9f3605c7a98e85b24880c", func := "doorward/doorwardlaw13.CallNames", spec := "callNames", apart := false, narrowed := true }
def CallNamesUptoSaid : Prop := callNamesUptoRow.holds Try.pinned (OpenSpec.upto callNamesSpec)

/-- 'doorwardlaw13.CallBack', WHERE WHAT IT READS IS OF BULK AT MOST 1048576: true; the input reads as it did. -/
def callBackUptoRow : OpenClaim := { program := "ytbndhegmfnfahab", sum := "4ccdd919840c0049b704d0407f8bff6bbc4d909082e9f3605c7a98e85b24880c", func := "doorward/doorwardlaw13.CallBack", spec := "callBack", apart := false, narrowed := true }
def CallBackUptoSaid : Prop := callBackUptoRow.holds Try.pinned (OpenSpec.upto callBackSpec)

/-- 'doorwardlaw13.CallActions', WHERE WHAT IT READS IS OF BULK AT MOST 1048576: true; the input reads as it did. -/
def callActionsUptoRow : OpenClaim := { program := "ytbndhegmfnfahab", sum := "4ccdd919840c0049b704d0407f8bff6bbc4d909082e9f3605c7a98e85b24880c", func := "doorward/doorwardlaw13.CallActions", spec := "callActions", apart := false, narrowed := true }
def CallActionsUptoSaid : Prop := callActionsUptoRow.holds Try.pinned (OpenSpec.upto callActionsSpec)

/-- 'doorwardlaw13.CallWords', WHERE WHAT IT READS IS OF BULK AT MOST 1048576: true; the input reads as it did. -/
def callWordsUptoRow : OpenClaim := { program := "ytbndhegmfnfahab", sum := "4ccdd919840c0049b704d0407f8bff6bbc4d909082e9f3605c7a98e85b24880c", func := "doorward/doorwardlaw13.CallWords", spec := "callWords", apart := false, narrowed := true }
def CallWordsUptoSaid : Prop := callWordsUptoRow.holds Try.pinned (OpenSpec.upto callWordsSpec)

/-- 'doorwardlaw13.CallApart', WHERE WHAT IT READS IS OF BULK AT MOST 1048576: true; the input reads as it did. -/
def callApartUptoRow : OpenClaim := { program := "ytbndhegmfnfahab", sum := "4ccdd919840c0049b704d0407f8bff6bbc4d909082e9f3605c7a98e85b24880c", func := "doorward/doorwardlaw13.CallApart", spec := "callApart", apart := false, narrowed := true }
def CallApartUptoSaid : Prop := callApartUptoRow.holds Try.pinned (OpenSpec.upto callApartSpec)

end Rows
end Go.Proofs.Ytbndhegmfnfahab
