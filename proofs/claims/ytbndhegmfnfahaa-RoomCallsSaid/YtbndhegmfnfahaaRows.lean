/-
  No cell of these rows narrows 'for every input' (looked for: loops, veiled, ifaces, maps, wideKeys, modest, calm, conditions, laid).
  DERIVED. THE GIVEN ROWS OF THIS SEAT. 12 by the template 'for every input the law returns true; each argument reads behind the call as it read before'; 0 by the template 'total and deterministic' (their statements: YtbndhegmfnfahaaTotals.lean).
  GIVEN WITH THE SEED: the statements are not yours to turn. If you find one false, say at which input.
  Laid BY PROGRAM, IN A SANDBOX (cutbox-rows.mjs): the forced cells as the released guide's own fill.sh prints them over the translation 5f0a2f9a83ddc7c0… (all of the seat's roots in one cut). By AI agents, Wed Nov 11 2026. No macro, syntax, notation, axiom, sorry.
-/
import Derived.Test.YtbndhegmfnfahaaChecked
import GoSem.Claim
import GoSem.ClaimJoined
import GoSem.ClaimMapViews
import Derived.JoinedTies
import Derived.KernelRfl
namespace Go.Proofs.Ytbndhegmfnfahaa
/- THE CELL 'sum', in the pinned program and in every row, IS THE sha256 OF THE DUMP (.gsa) THAT YtbndhegmfnfahaaProg.lean LOADS. Nothing in Lean hashes anything: it is a label: what it is worth is what the hold of that sum in a sandbox is worth. -/
noncomputable def Try.pinned : Pinned := { name := "ytbndhegmfnfahaa", sum := "5f0a2f9a83ddc7c09bd54f1f7d6d72843a6518c7b551bcd2877c36d9f5e6c780", checked := Try.checked }
namespace Rows
def none {H : Type} : Left H := { results := [], args := [] }

/-- 'doorwardlaw02.CrcSums': WHATEVER THE INPUT: true; the input reads as it did. -/
def crcSumsSpec : ChangeSpec := { name := "crcSums", fn := fun _ => fun
  | [d1, d2] => { results := [.lit (.bool true)], args := [d1, d2] }
  | _ => none }
def crcSumsRow : OpenClaim := { program := "ytbndhegmfnfahaa", sum := "5f0a2f9a83ddc7c09bd54f1f7d6d72843a6518c7b551bcd2877c36d9f5e6c780", func := "doorward/doorwardlaw02.CrcSums", spec := "crcSums", unfollowed := true, recurses := true, apart := false }
def CrcSumsSaid : Prop := crcSumsRow.holds Try.pinned (OpenSpec.ofChange crcSumsSpec)

/-- ITS FALSE NEIGHBOUR: 'it returns false'. Refute it at one input. -/
def crcSumsWrong : ChangeSpec := { name := "crcSums", fn := fun _ => fun
  | [d1, d2] => { results := [.lit (.bool false)], args := [d1, d2] }
  | _ => none }
def CrcSumsWrongFalsely : Prop := crcSumsRow.holds Try.pinned (OpenSpec.ofChange crcSumsWrong)

/-- 'doorwardlaw02.CrcTurned': WHATEVER THE INPUT: true; the input reads as it did. -/
def crcTurnedSpec : ChangeSpec := { name := "crcTurned", fn := fun _ => fun
  | [d1, d2, d3] => { results := [.lit (.bool true)], args := [d1, d2, d3] }
  | _ => none }
def crcTurnedRow : OpenClaim := { program := "ytbndhegmfnfahaa", sum := "5f0a2f9a83ddc7c09bd54f1f7d6d72843a6518c7b551bcd2877c36d9f5e6c780", func := "doorward/doorwardlaw02.CrcTurned", spec := "crcTurned", unfollowed := true, recurses := true, apart := false }
def CrcTurnedSaid : Prop := crcTurnedRow.holds Try.pinned (OpenSpec.ofChange crcTurnedSpec)

/-- ITS FALSE NEIGHBOUR: 'it returns false'. Refute it at one input. -/
def crcTurnedWrong : ChangeSpec := { name := "crcTurned", fn := fun _ => fun
  | [d1, d2, d3] => { results := [.lit (.bool false)], args := [d1, d2, d3] }
  | _ => none }
def CrcTurnedWrongFalsely : Prop := crcTurnedRow.holds Try.pinned (OpenSpec.ofChange crcTurnedWrong)

/-- 'doorwardlaw02.CrcThree': WHATEVER THE INPUT: true; the input reads as it did. -/
def crcThreeSpec : ChangeSpec := { name := "crcThree", fn := fun _ => fun
  | [d1, d2, d3] => { results := [.lit (.bool true)], args := [d1, d2, d3] }
  | _ => none }
def crcThreeRow : OpenClaim := { program := "ytbndhegmfnfahaa", sum := "5f0a2f9a83ddc7c09bd54f1f7d6d72843a6518c7b551bcd2877c36d9f5e6c780", func := "doorward/doorwardlaw02.CrcThree", spec := "crcThree", unfollowed := true, recurses := true, apart := false }
def CrcThreeSaid : Prop := crcThreeRow.holds Try.pinned (OpenSpec.ofChange crcThreeSpec)

/-- ITS FALSE NEIGHBOUR: 'it returns false'. Refute it at one input. -/
def crcThreeWrong : ChangeSpec := { name := "crcThree", fn := fun _ => fun
  | [d1, d2, d3] => { results := [.lit (.bool false)], args := [d1, d2, d3] }
  | _ => none }
def CrcThreeWrongFalsely : Prop := crcThreeRow.holds Try.pinned (OpenSpec.ofChange crcThreeWrong)

/-- 'doorwardlaw02.CrcTwice': WHATEVER THE INPUT: true; the input reads as it did. -/
def crcTwiceSpec : ChangeSpec := { name := "crcTwice", fn := fun _ => fun
  | [d1, d2, d3] => { results := [.lit (.bool true)], args := [d1, d2, d3] }
  | _ => none }
def crcTwiceRow : OpenClaim := { program := "ytbndhegmfnfahaa", sum := "5f0a2f9a83ddc7c09bd54f1f7d6d72843a6518c7b551bcd2877c36d9f5e6c780", func := "doorward/doorwardlaw02.CrcTwice", spec := "crcTwice", unfollowed := true, recurses := true, apart := false }
def CrcTwiceSaid : Prop := crcTwiceRow.holds Try.pinned (OpenSpec.ofChange crcTwiceSpec)

/-- ITS FALSE NEIGHBOUR: 'it returns false'. Refute it at one input. -/
def crcTwiceWrong : ChangeSpec := { name := "crcTwice", fn := fun _ => fun
  | [d1, d2, d3] => { results := [.lit (.bool false)], args := [d1, d2, d3] }
  | _ => none }
def CrcTwiceWrongFalsely : Prop := crcTwiceRow.holds Try.pinned (OpenSpec.ofChange crcTwiceWrong)

/-- 'doorwardlaw06.RoomNews': WHATEVER THE INPUT: true; the input reads as it did. -/
def roomNewsSpec : ChangeSpec := { name := "roomNews", fn := fun _ => fun
  | [d1, d2] => { results := [.lit (.bool true)], args := [d1, d2] }
  | _ => none }
def roomNewsRow : OpenClaim := { program := "ytbndhegmfnfahaa", sum := "5f0a2f9a83ddc7c09bd54f1f7d6d72843a6518c7b551bcd2877c36d9f5e6c780", func := "doorward/doorwardlaw06.RoomNews", spec := "roomNews", apart := false }
def RoomNewsSaid : Prop := roomNewsRow.holds Try.pinned (OpenSpec.ofChange roomNewsSpec)

/-- ITS FALSE NEIGHBOUR: 'it returns false'. Refute it at one input. -/
def roomNewsWrong : ChangeSpec := { name := "roomNews", fn := fun _ => fun
  | [d1, d2] => { results := [.lit (.bool false)], args := [d1, d2] }
  | _ => none }
def RoomNewsWrongFalsely : Prop := roomNewsRow.holds Try.pinned (OpenSpec.ofChange roomNewsWrong)

/-- 'doorwardlaw06.RoomCalls': WHATEVER THE INPUT: true; the input reads as it did. -/
def roomCallsSpec : ChangeSpec := { name := "roomCalls", fn := fun _ => fun
  | [d1, d2, d3] => { results := [.lit (.bool true)], args := [d1, d2, d3] }
  | _ => none }
def roomCallsRow : OpenClaim := { program := "ytbndhegmfnfahaa", sum := "5f0a2f9a83ddc7c09bd54f1f7d6d72843a6518c7b551bcd2877c36d9f5e6c780", func := "doorward/doorwardlaw06.RoomCalls", spec := "roomCalls", apart := false }
def RoomCallsSaid : Prop := roomCallsRow.holds Try.pinned (OpenSpec.ofChange roomCallsSpec)

/-- ITS FALSE NEIGHBOUR: 'it returns false'. Refute it at one input. -/
def roomCallsWrong : ChangeSpec := { name := "roomCalls", fn := fun _ => fun
  | [d1, d2, d3] => { results := [.lit (.bool false)], args := [d1, d2, d3] }
  | _ => none }
def RoomCallsWrongFalsely : Prop := roomCallsRow.holds Try.pinned (OpenSpec.ofChange roomCallsWrong)

/-- 'doorwardlaw06.RoomPacks': WHATEVER THE INPUT: true; the input reads as it did. -/
def roomPacksSpec : ChangeSpec := { name := "roomPacks", fn := fun _ => fun
  | [d1, d2, d3] => { results := [.lit (.bool true)], args := [d1, d2, d3] }
  | _ => none }
def roomPacksRow : OpenClaim := { program := "ytbndhegmfnfahaa", sum := "5f0a2f9a83ddc7c09bd54f1f7d6d72843a6518c7b551bcd2877c36d9f5e6c780", func := "doorward/doorwardlaw06.RoomPacks", spec := "roomPacks", unfollowed := true, recurses := true, apart := false }
def RoomPacksSaid : Prop := roomPacksRow.holds Try.pinned (OpenSpec.ofChange roomPacksSpec)

/-- ITS FALSE NEIGHBOUR: 'it returns false'. Refute it at one input. -/
def roomPacksWrong : ChangeSpec := { name := "roomPacks", fn := fun _ => fun
  | [d1, d2, d3] => { results := [.lit (.bool false)], args := [d1, d2, d3] }
  | _ => none }
def RoomPacksWrongFalsely : Prop := roomPacksRow.holds Try.pinned (OpenSpec.ofChange roomPacksWrong)

/-- 'doorwardlaw06.RoomBack': WHATEVER THE INPUT: true; the input reads as it did. -/
def roomBackSpec : ChangeSpec := { name := "roomBack", fn := fun _ => fun
  | [d1, d2, d3] => { results := [.lit (.bool true)], args := [d1, d2, d3] }
  | _ => none }
def roomBackRow : OpenClaim := { program := "ytbndhegmfnfahaa", sum := "5f0a2f9a83ddc7c09bd54f1f7d6d72843a6518c7b551bcd2877c36d9f5e6c780", func := "doorward/doorwardlaw06.RoomBack", spec := "roomBack", unfollowed := true, recurses := true, apart := false }
def RoomBackSaid : Prop := roomBackRow.holds Try.pinned (OpenSpec.ofChange roomBackSpec)

/-- ITS FALSE NEIGHBOUR: 'it returns false'. Refute it at one input. -/
def roomBackWrong : ChangeSpec := { name := "roomBack", fn := fun _ => fun
  | [d1, d2, d3] => { results := [.lit (.bool false)], args := [d1, d2, d3] }
  | _ => none }
def RoomBackWrongFalsely : Prop := roomBackRow.holds Try.pinned (OpenSpec.ofChange roomBackWrong)

/-- 'doorwardlaw06.RoomTwice': WHATEVER THE INPUT: true; the input reads as it did. -/
def roomTwiceSpec : ChangeSpec := { name := "roomTwice", fn := fun _ => fun
  | [d1, d2, d3] => { results := [.lit (.bool true)], args := [d1, d2, d3] }
  | _ => none }
def roomTwiceRow : OpenClaim := { program := "ytbndhegmfnfahaa", sum := "5f0a2f9a83ddc7c09bd54f1f7d6d72843a6518c7b551bcd2877c36d9f5e6c780", func := "doorward/doorwardlaw06.RoomTwice", spec := "roomTwice", apart := false }
def RoomTwiceSaid : Prop := roomTwiceRow.holds Try.pinned (OpenSpec.ofChange roomTwiceSpec)

/-- ITS FALSE NEIGHBOUR: 'it returns false'. Refute it at one input. -/
def roomTwiceWrong : ChangeSpec := { name := "roomTwice", fn := fun _ => fun
  | [d1, d2, d3] => { results := [.lit (.bool false)], args := [d1, d2, d3] }
  | _ => none }
def RoomTwiceWrongFalsely : Prop := roomTwiceRow.holds Try.pinned (OpenSpec.ofChange roomTwiceWrong)

/-- 'doorwardlaw10.InsnCodes': WHATEVER THE INPUT: true; the input reads as it did. -/
def insnCodesSpec : ChangeSpec := { name := "insnCodes", fn := fun _ => fun
  | [d1, d2, d3] => { results := [.lit (.bool true)], args := [d1, d2, d3] }
  | _ => none }
def insnCodesRow : OpenClaim := { program := "ytbndhegmfnfahaa", sum := "5f0a2f9a83ddc7c09bd54f1f7d6d72843a6518c7b551bcd2877c36d9f5e6c780", func := "doorward/doorwardlaw10.InsnCodes", spec := "insnCodes", apart := false }
def InsnCodesSaid : Prop := insnCodesRow.holds Try.pinned (OpenSpec.ofChange insnCodesSpec)

/-- ITS FALSE NEIGHBOUR: 'it returns false'. Refute it at one input. -/
def insnCodesWrong : ChangeSpec := { name := "insnCodes", fn := fun _ => fun
  | [d1, d2, d3] => { results := [.lit (.bool false)], args := [d1, d2, d3] }
  | _ => none }
def InsnCodesWrongFalsely : Prop := insnCodesRow.holds Try.pinned (OpenSpec.ofChange insnCodesWrong)

/-- 'doorwardlaw10.InsnAll': WHATEVER THE INPUT: true; the input reads as it did. -/
def insnAllSpec : ChangeSpec := { name := "insnAll", fn := fun _ => fun
  | [d1, d2] => { results := [.lit (.bool true)], args := [d1, d2] }
  | _ => none }
def insnAllRow : OpenClaim := { program := "ytbndhegmfnfahaa", sum := "5f0a2f9a83ddc7c09bd54f1f7d6d72843a6518c7b551bcd2877c36d9f5e6c780", func := "doorward/doorwardlaw10.InsnAll", spec := "insnAll", inPlace := ["internal/abi.NoEscape"], apart := false }
def InsnAllSaid : Prop := insnAllRow.holds Try.pinned (OpenSpec.ofChange insnAllSpec)

/-- ITS FALSE NEIGHBOUR: 'it returns false'. Refute it at one input. -/
def insnAllWrong : ChangeSpec := { name := "insnAll", fn := fun _ => fun
  | [d1, d2] => { results := [.lit (.bool false)], args := [d1, d2] }
  | _ => none }
def InsnAllWrongFalsely : Prop := insnAllRow.holds Try.pinned (OpenSpec.ofChange insnAllWrong)

/-- 'doorwardlaw10.InsnBack': WHATEVER THE INPUT: true; the input reads as it did. -/
def insnBackSpec : ChangeSpec := { name := "insnBack", fn := fun _ => fun
  | [d1, d2] => { results := [.lit (.bool true)], args := [d1, d2] }
  | _ => none }
def insnBackRow : OpenClaim := { program := "ytbndhegmfnfahaa", sum := "5f0a2f9a83ddc7c09bd54f1f7d6d72843a6518c7b551bcd2877c36d9f5e6c780", func := "doorward/doorwardlaw10.InsnBack", spec := "insnBack", inPlace := ["internal/abi.NoEscape"], apart := false }
def InsnBackSaid : Prop := insnBackRow.holds Try.pinned (OpenSpec.ofChange insnBackSpec)

/-- ITS FALSE NEIGHBOUR: 'it returns false'. Refute it at one input. -/
def insnBackWrong : ChangeSpec := { name := "insnBack", fn := fun _ => fun
  | [d1, d2] => { results := [.lit (.bool false)], args := [d1, d2] }
  | _ => none }
def InsnBackWrongFalsely : Prop := insnBackRow.holds Try.pinned (OpenSpec.ofChange insnBackWrong)

/- THE SECOND FORM. 'bulk': how many values and letters a reading holds, each counted each time it is reached (what is shared counts as often as it is met; a slice's spare places count too). A statement '..UptoSaid' is the law's where the arguments, and the package variables that the reading takes, are together of bulk at most 1048576: NARROWER than '..Said'. Prove '..Said' where nothing that the law and all that it calls make is longer than what came in: it says more and counts as full. Else prove '..UptoSaid'. A law counts once. -/
mutual
def uptoBulk {H : Type} : DataW H → Nat
  | .lit (.string bytes) => bytes.length + 1
  | .lit _ => 1
  | .nil => 1
  | .ptr d => uptoBulk d + 1
  | .slice elems spare => uptoBulkAll elems + uptoBulkAll spare + 1
  | .agg parts => uptoBulkAll parts + 1
  | .iface _ d => uptoBulk d + 1
  | .map entries => uptoBulkEntries entries + 1
  | .held _ => 1
def uptoBulkAll {H : Type} : List (DataW H) → Nat
  | [] => 0
  | d :: r => uptoBulk d + uptoBulkAll r
def uptoBulkEntries {H : Type} : List (Lit × DataW H) → Nat
  | [] => 0
  | x :: r => uptoBulkEntry x + uptoBulkEntries r
def uptoBulkEntry {H : Type} : Lit × DataW H → Nat
  | (.string bytes, d) => bytes.length + uptoBulk d + 1
  | (_, d) => uptoBulk d + 1
 end
def uptoSmall : (H : Type) → List (DataW H) → Bool := fun _ ds => decide (uptoBulkAll ds ≤ 1048576)
def OpenSpec.upto (s : _root_.Go.ChangeSpec) : _root_.Go.OpenSpec := { _root_.Go.OpenSpec.ofChange s with cond := some uptoSmall }

/-- 'doorwardlaw02.CrcSums', WHERE WHAT IT READS IS OF BULK AT MOST 1048576: true; the input reads as it did. -/
def crcSumsUptoRow : OpenClaim := { program := "ytbndhegmfnfahaa", sum := "5f0a2f9a83ddc7c09bd54f1f7d6d72843a6518c7b551bcd2877c36d9f5e6c780", func := "doorward/doorwardlaw02.CrcSums", spec := "crcSums", unfollowed := true, recurses := true, apart := false, narrowed := true }
def CrcSumsUptoSaid : Prop := crcSumsUptoRow.holds Try.pinned (OpenSpec.upto crcSumsSpec)

/-- 'doorwardlaw02.CrcTurned', WHERE WHAT IT READS IS OF BULK AT MOST 1048576: true; the input reads as it did. -/
def crcTurnedUptoRow : OpenClaim := { program := "ytbndhegmfnfahaa", sum := "5f0a2f9a83ddc7c09bd54f1f7d6d72843a6518c7b551bcd2877c36d9f5e6c780", func := "doorward/doorwardlaw02.CrcTurned", spec := "crcTurned", unfollowed := true, recurses := true, apart := false, narrowed := true }
def CrcTurnedUptoSaid : Prop := crcTurnedUptoRow.holds Try.pinned (OpenSpec.upto crcTurnedSpec)

/-- 'doorwardlaw02.CrcThree', WHERE WHAT IT READS IS OF BULK AT MOST 1048576: true; the input reads as it did. -/
def crcThreeUptoRow : OpenClaim := { program := "ytbndhegmfnfahaa", sum := "5f0a2f9a83ddc7c09bd54f1f7d6d72843a6518c7b551bcd2877c36d9f5e6c780", func := "doorward/doorwardlaw02.CrcThree", spec := "crcThree", unfollowed := true, recurses := true, apart := false, narrowed := true }
def CrcThreeUptoSaid : Prop := crcThreeUptoRow.holds Try.pinned (OpenSpec.upto crcThreeSpec)

/-- 'doorwardlaw02.CrcTwice', WHERE WHAT IT READS IS OF BULK AT MOST 1048576: true; the input reads as it did. -/
def crcTwiceUptoRow : OpenClaim := { program := "ytbndhegmfnfahaa", sum := "5f0a2f9a83ddc7c09bd54f1f7d6d72843a6518c7b551bcd2877c36d9f5e6c780", func := "doorward/doorwardlaw02.CrcTwice", spec := "crcTwice", unfollowed := true, recurses := true, apart := false, narrowed := true }
def CrcTwiceUptoSaid : Prop := crcTwiceUptoRow.holds Try.pinned (OpenSpec.upto crcTwiceSpec)

/-- 'doorwardlaw06.RoomNews', WHERE WHAT IT READS IS OF BULK AT MOST 1048576: true; the input reads as it did. -/
def roomNewsUptoRow : OpenClaim := { program := "ytbndhegmfnfahaa", sum := "5f0a2f9a83ddc7c09bd54f1f7d6d72843a6518c7b551bcd2877c36d9f5e6c780", func := "doorward/doorwardlaw06.RoomNews", spec := "roomNews", apart := false, narrowed := true }
def RoomNewsUptoSaid : Prop := roomNewsUptoRow.holds Try.pinned (OpenSpec.upto roomNewsSpec)

/-- 'doorwardlaw06.RoomCalls', WHERE WHAT IT READS IS OF BULK AT MOST 1048576: true; the input reads as it did. -/
def roomCallsUptoRow : OpenClaim := { program := "ytbndhegmfnfahaa", sum := "5f0a2f9a83ddc7c09bd54f1f7d6d72843a6518c7b551bcd2877c36d9f5e6c780", func := "doorward/doorwardlaw06.RoomCalls", spec := "roomCalls", apart := false, narrowed := true }
def RoomCallsUptoSaid : Prop := roomCallsUptoRow.holds Try.pinned (OpenSpec.upto roomCallsSpec)

/-- 'doorwardlaw06.RoomPacks', WHERE WHAT IT READS IS OF BULK AT MOST 1048576: true; the input reads as it did. -/
def roomPacksUptoRow : OpenClaim := { program := "ytbndhegmfnfahaa", sum := "5f0a2f9a83ddc7c09bd54f1f7d6d72843a6518c7b551bcd2877c36d9f5e6c780", func := "doorward/doorwardlaw06.RoomPacks", spec := "roomPacks", unfollowed := true, recurses := true, apart := false, narrowed := true }
def RoomPacksUptoSaid : Prop := roomPacksUptoRow.holds Try.pinned (OpenSpec.upto roomPacksSpec)

/-- 'doorwardlaw06.RoomBack', WHERE WHAT IT READS IS OF BULK AT MOST 1048576: true; the input reads as it did. -/
def roomBackUptoRow : OpenClaim := { program := "ytbndhegmfnfahaa", sum := "5f0a2f9a83ddc7c09bd54f1f7d6d72843a6518c7b551bcd2877c36d9f5e6c780", func := "doorward/doorwardlaw06.RoomBack", spec := "roomBack", unfollowed := true, recurses := true, apart := false, narrowed := true }
def RoomBackUptoSaid : Prop := roomBackUptoRow.holds Try.pinned (OpenSpec.upto roomBackSpec)

/-- 'doorwardlaw06.RoomTwice', WHERE WHAT IT READS IS OF BULK AT MOST 1048576: true; the input reads as it did. -/
def roomTwiceUptoRow : OpenClaim := { program := "ytbndhegmfnfahaa", sum := "5f0a2f9a83ddc7c09bd54f1f7d6d72843a6518c7b551bcd2877c36d9f5e6c780", func := "doorward/doorwardlaw06.RoomTwice", spec := "roomTwice", apart := false, narrowed := true }
def RoomTwiceUptoSaid : Prop := roomTwiceUptoRow.holds Try.pinned (OpenSpec.upto roomTwiceSpec)

/-- 'doorwardlaw10.InsnCodes', WHERE WHAT IT READS IS OF BULK AT MOST 1048576: true; the input reads as it did. -/
def insnCodesUptoRow : OpenClaim := { program := "ytbndhegmfnfahaa", sum := "5f0a2f9a83ddc7c09bd54f1f7d6d72843a6518c7b551bcd2877c36d9f5e6c780", func := "doorward/doorwardlaw10.InsnCodes", spec := "insnCodes", apart := false, narrowed := true }
def InsnCodesUptoSaid : Prop := insnCodesUptoRow.holds Try.pinned (OpenSpec.upto insnCodesSpec)

/-- 'doorwardlaw10.InsnAll', WHERE WHAT IT READS IS OF BULK AT MOST 1048576: true; the input reads as it did. -/
def insnAllUptoRow : OpenClaim := { program := "ytbndhegmfnfahaa", sum := "5f0a2f9a83ddc7c09bd54f1f7d6d72843a6518c7b551bcd2877c36d9f5e6c780", func := "doorward/doorwardlaw10.InsnAll", spec := "insnAll", inPlace := ["internal/abi.NoEscape"], apart := false, narrowed := true }
def InsnAllUptoSaid : Prop := insnAllUptoRow.holds Try.pinned (OpenSpec.upto insnAllSpec)

/-- 'doorwardlaw10.InsnBack', WHERE WHAT IT READS IS OF BULK AT MOST 1048576: true; the input reads as it did. -/
def insnBackUptoRow : OpenClaim := { program := "ytbndhegmfnfahaa", sum := "5f0a2f9a83ddc7c09bd54f1f7d6d72843a6518c7b551bcd2877c36d9f5e6c780", func := "doorward/doorwardlaw10.InsnBack", spec := "insnBack", inPlace := ["internal/abi.NoEscape"], apart := false, narrowed := true }
def InsnBackUptoSaid : Prop := insnBackUptoRow.holds Try.pinned (OpenSpec.upto insnBackSpec)

end Rows
end Go.Proofs.Ytbndhegmfnfahaa
