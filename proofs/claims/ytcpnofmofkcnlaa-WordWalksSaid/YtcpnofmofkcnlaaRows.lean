/-
  NARROWER THAN 'FOR EVERY INPUT', by the rows' own cells (each row's printed sentence says how): WordMakes: loops · WordMeans: loops · WordAnswers: loops.
  DERIVED. THE GIVEN ROWS OF THIS SEAT. 10 by the template 'for every input the law returns true; each argument reads behind the call as it read before'; 0 by the template 'total and deterministic' (their statements: YtcpnofmofkcnlaaTotals.lean).
  GIVEN WITH THE SEED: the statements are not yours to turn. If you find one false, say at which input.
  Laid BY PROGRAM, IN A SANDBOX (cutbox-rows.mjs): the forced cells as the released guide's own fill.sh prints them over the translation 14ebda216db6f722… (all of the seat's roots in one cut). By AI agents, Wed Nov 11 2026. No macro, syntax, notation, axiom, sorry.
-/
import Derived.Test.YtcpnofmofkcnlaaChecked
import GoSem.Claim
import GoSem.ClaimJoined
import GoSem.ClaimMapViews
import Derived.JoinedTies
import Derived.KernelRfl
namespace Go.Proofs.Ytcpnofmofkcnlaa
/- THE CELL 'sum', in the pinned program and in every row, IS THE sha256 OF THE DUMP (.gsa) THAT YtcpnofmofkcnlaaProg.lean LOADS. Nothing in Lean hashes anything: it is a label: what it is worth is what the hold of that sum in a sandbox is worth. -/
noncomputable def Try.pinned : Pinned := { name := "ytcpnofmofkcnlaa", sum := "14ebda216db6f722bc6ae500639a2a2b1272dfea7754188b7766b0d206950af1", checked := Try.checked }
namespace Rows
def none {H : Type} : Left H := { results := [], args := [] }

/-- 'doorwardlaw19.WordWalks': WHATEVER THE INPUT: true; the input reads as it did. -/
def wordWalksSpec : ChangeSpec := { name := "wordWalks", fn := fun _ => fun
  | [d1, d2] => { results := [.lit (.bool true)], args := [d1, d2] }
  | _ => none }
def wordWalksRow : OpenClaim := { program := "ytcpnofmofkcnlaa", sum := "14ebda216db6f722bc6ae500639a2a2b1272dfea7754188b7766b0d206950af1", func := "doorward/doorwardlaw19.WordWalks", spec := "wordWalks", apart := false }
def WordWalksSaid : Prop := wordWalksRow.holds Try.pinned (OpenSpec.ofChange wordWalksSpec)

/-- ITS FALSE NEIGHBOUR: 'it returns false'. Refute it at one input. -/
def wordWalksWrong : ChangeSpec := { name := "wordWalks", fn := fun _ => fun
  | [d1, d2] => { results := [.lit (.bool false)], args := [d1, d2] }
  | _ => none }
def WordWalksWrongFalsely : Prop := wordWalksRow.holds Try.pinned (OpenSpec.ofChange wordWalksWrong)

/-- 'doorwardlaw19.WordMakes': WHATEVER THE INPUT: true; the input reads as it did. -/
def wordMakesSpec : ChangeSpec := { name := "wordMakes", fn := fun _ => fun
  | [d1, d2, d3, d4] => { results := [.lit (.bool true)], args := [d1, d2, d3, d4] }
  | _ => none }
def wordMakesRow : OpenClaim := { program := "ytcpnofmofkcnlaa", sum := "14ebda216db6f722bc6ae500639a2a2b1272dfea7754188b7766b0d206950af1", func := "doorward/doorwardlaw19.WordMakes", spec := "wordMakes", unfollowed := true, recurses := true, loops := true, apart := false }
def WordMakesSaid : Prop := wordMakesRow.holds Try.pinned (OpenSpec.ofChange wordMakesSpec)

/-- ITS FALSE NEIGHBOUR: 'it returns false'. Refute it at one input. -/
def wordMakesWrong : ChangeSpec := { name := "wordMakes", fn := fun _ => fun
  | [d1, d2, d3, d4] => { results := [.lit (.bool false)], args := [d1, d2, d3, d4] }
  | _ => none }
def WordMakesWrongFalsely : Prop := wordMakesRow.holds Try.pinned (OpenSpec.ofChange wordMakesWrong)

/-- 'doorwardlaw19.WordMeans': WHATEVER THE INPUT: true; the input reads as it did. -/
def wordMeansSpec : ChangeSpec := { name := "wordMeans", fn := fun _ => fun
  | [d1, d2, d3] => { results := [.lit (.bool true)], args := [d1, d2, d3] }
  | _ => none }
def wordMeansRow : OpenClaim := { program := "ytcpnofmofkcnlaa", sum := "14ebda216db6f722bc6ae500639a2a2b1272dfea7754188b7766b0d206950af1", func := "doorward/doorwardlaw19.WordMeans", spec := "wordMeans", unfollowed := true, recurses := true, loops := true, apart := false }
def WordMeansSaid : Prop := wordMeansRow.holds Try.pinned (OpenSpec.ofChange wordMeansSpec)

/-- ITS FALSE NEIGHBOUR: 'it returns false'. Refute it at one input. -/
def wordMeansWrong : ChangeSpec := { name := "wordMeans", fn := fun _ => fun
  | [d1, d2, d3] => { results := [.lit (.bool false)], args := [d1, d2, d3] }
  | _ => none }
def WordMeansWrongFalsely : Prop := wordMeansRow.holds Try.pinned (OpenSpec.ofChange wordMeansWrong)

/-- 'doorwardlaw19.WordAnswers': WHATEVER THE INPUT: true; the input reads as it did. -/
def wordAnswersSpec : ChangeSpec := { name := "wordAnswers", fn := fun _ => fun
  | [d1, d2, d3, d4] => { results := [.lit (.bool true)], args := [d1, d2, d3, d4] }
  | _ => none }
def wordAnswersRow : OpenClaim := { program := "ytcpnofmofkcnlaa", sum := "14ebda216db6f722bc6ae500639a2a2b1272dfea7754188b7766b0d206950af1", func := "doorward/doorwardlaw19.WordAnswers", spec := "wordAnswers", unfollowed := true, recurses := true, loops := true, apart := false }
def WordAnswersSaid : Prop := wordAnswersRow.holds Try.pinned (OpenSpec.ofChange wordAnswersSpec)

/-- ITS FALSE NEIGHBOUR: 'it returns false'. Refute it at one input. -/
def wordAnswersWrong : ChangeSpec := { name := "wordAnswers", fn := fun _ => fun
  | [d1, d2, d3, d4] => { results := [.lit (.bool false)], args := [d1, d2, d3, d4] }
  | _ => none }
def WordAnswersWrongFalsely : Prop := wordAnswersRow.holds Try.pinned (OpenSpec.ofChange wordAnswersWrong)

/-- 'doorwardlaw19.WordJoins': WHATEVER THE INPUT: true; the input reads as it did. -/
def wordJoinsSpec : ChangeSpec := { name := "wordJoins", fn := fun _ => fun
  | [d1, d2, d3] => { results := [.lit (.bool true)], args := [d1, d2, d3] }
  | _ => none }
def wordJoinsRow : OpenClaim := { program := "ytcpnofmofkcnlaa", sum := "14ebda216db6f722bc6ae500639a2a2b1272dfea7754188b7766b0d206950af1", func := "doorward/doorwardlaw19.WordJoins", spec := "wordJoins", apart := false }
def WordJoinsSaid : Prop := wordJoinsRow.holds Try.pinned (OpenSpec.ofChange wordJoinsSpec)

/-- ITS FALSE NEIGHBOUR: 'it returns false'. Refute it at one input. -/
def wordJoinsWrong : ChangeSpec := { name := "wordJoins", fn := fun _ => fun
  | [d1, d2, d3] => { results := [.lit (.bool false)], args := [d1, d2, d3] }
  | _ => none }
def WordJoinsWrongFalsely : Prop := wordJoinsRow.holds Try.pinned (OpenSpec.ofChange wordJoinsWrong)

/-- 'doorwardlaw21.EmitMakes': WHATEVER THE INPUT: true; the input reads as it did. -/
def emitMakesSpec : ChangeSpec := { name := "emitMakes", fn := fun _ => fun
  | [d] => { results := [.lit (.bool true)], args := [d] }
  | _ => none }
def emitMakesRow : OpenClaim := { program := "ytcpnofmofkcnlaa", sum := "14ebda216db6f722bc6ae500639a2a2b1272dfea7754188b7766b0d206950af1", func := "doorward/doorwardlaw21.EmitMakes", spec := "emitMakes", unfollowed := true, recurses := true, apart := false }
def EmitMakesSaid : Prop := emitMakesRow.holds Try.pinned (OpenSpec.ofChange emitMakesSpec)

/-- ITS FALSE NEIGHBOUR: 'it returns false'. Refute it at one input. -/
def emitMakesWrong : ChangeSpec := { name := "emitMakes", fn := fun _ => fun
  | [d] => { results := [.lit (.bool false)], args := [d] }
  | _ => none }
def EmitMakesWrongFalsely : Prop := emitMakesRow.holds Try.pinned (OpenSpec.ofChange emitMakesWrong)

/-- 'doorwardlaw21.EmitRuns': WHATEVER THE INPUT: true; the input reads as it did. -/
def emitRunsSpec : ChangeSpec := { name := "emitRuns", fn := fun _ => fun
  | [d1, d2] => { results := [.lit (.bool true)], args := [d1, d2] }
  | _ => none }
def emitRunsRow : OpenClaim := { program := "ytcpnofmofkcnlaa", sum := "14ebda216db6f722bc6ae500639a2a2b1272dfea7754188b7766b0d206950af1", func := "doorward/doorwardlaw21.EmitRuns", spec := "emitRuns", unfollowed := true, recurses := true, apart := false }
def EmitRunsSaid : Prop := emitRunsRow.holds Try.pinned (OpenSpec.ofChange emitRunsSpec)

/-- ITS FALSE NEIGHBOUR: 'it returns false'. Refute it at one input. -/
def emitRunsWrong : ChangeSpec := { name := "emitRuns", fn := fun _ => fun
  | [d1, d2] => { results := [.lit (.bool false)], args := [d1, d2] }
  | _ => none }
def EmitRunsWrongFalsely : Prop := emitRunsRow.holds Try.pinned (OpenSpec.ofChange emitRunsWrong)

/-- 'doorwardlaw21.EmitJoins': WHATEVER THE INPUT: true; the input reads as it did. -/
def emitJoinsSpec : ChangeSpec := { name := "emitJoins", fn := fun _ => fun
  | [d1, d2] => { results := [.lit (.bool true)], args := [d1, d2] }
  | _ => none }
def emitJoinsRow : OpenClaim := { program := "ytcpnofmofkcnlaa", sum := "14ebda216db6f722bc6ae500639a2a2b1272dfea7754188b7766b0d206950af1", func := "doorward/doorwardlaw21.EmitJoins", spec := "emitJoins", unfollowed := true, recurses := true, apart := false }
def EmitJoinsSaid : Prop := emitJoinsRow.holds Try.pinned (OpenSpec.ofChange emitJoinsSpec)

/-- ITS FALSE NEIGHBOUR: 'it returns false'. Refute it at one input. -/
def emitJoinsWrong : ChangeSpec := { name := "emitJoins", fn := fun _ => fun
  | [d1, d2] => { results := [.lit (.bool false)], args := [d1, d2] }
  | _ => none }
def EmitJoinsWrongFalsely : Prop := emitJoinsRow.holds Try.pinned (OpenSpec.ofChange emitJoinsWrong)

/-- 'doorwardlaw21.EmitNames': WHATEVER THE INPUT: true; the input reads as it did. -/
def emitNamesSpec : ChangeSpec := { name := "emitNames", fn := fun _ => fun
  | [d1, d2] => { results := [.lit (.bool true)], args := [d1, d2] }
  | _ => none }
def emitNamesRow : OpenClaim := { program := "ytcpnofmofkcnlaa", sum := "14ebda216db6f722bc6ae500639a2a2b1272dfea7754188b7766b0d206950af1", func := "doorward/doorwardlaw21.EmitNames", spec := "emitNames", unfollowed := true, recurses := true, apart := false }
def EmitNamesSaid : Prop := emitNamesRow.holds Try.pinned (OpenSpec.ofChange emitNamesSpec)

/-- ITS FALSE NEIGHBOUR: 'it returns false'. Refute it at one input. -/
def emitNamesWrong : ChangeSpec := { name := "emitNames", fn := fun _ => fun
  | [d1, d2] => { results := [.lit (.bool false)], args := [d1, d2] }
  | _ => none }
def EmitNamesWrongFalsely : Prop := emitNamesRow.holds Try.pinned (OpenSpec.ofChange emitNamesWrong)

/-- 'doorwardlaw21.EmitCodes': WHATEVER THE INPUT: true; the input reads as it did. -/
def emitCodesSpec : ChangeSpec := { name := "emitCodes", fn := fun _ => fun
  | [d] => { results := [.lit (.bool true)], args := [d] }
  | _ => none }
def emitCodesRow : OpenClaim := { program := "ytcpnofmofkcnlaa", sum := "14ebda216db6f722bc6ae500639a2a2b1272dfea7754188b7766b0d206950af1", func := "doorward/doorwardlaw21.EmitCodes", spec := "emitCodes", unfollowed := true, recurses := true, apart := false }
def EmitCodesSaid : Prop := emitCodesRow.holds Try.pinned (OpenSpec.ofChange emitCodesSpec)

/-- ITS FALSE NEIGHBOUR: 'it returns false'. Refute it at one input. -/
def emitCodesWrong : ChangeSpec := { name := "emitCodes", fn := fun _ => fun
  | [d] => { results := [.lit (.bool false)], args := [d] }
  | _ => none }
def EmitCodesWrongFalsely : Prop := emitCodesRow.holds Try.pinned (OpenSpec.ofChange emitCodesWrong)

/- THE SECOND FORM. 'bulk': how many values and letters a reading holds, each counted each time it is reached (what is shared counts as often as it is met; a slice's spare places count too). A statement '..UptoSaid' is the law's where the arguments, and the package variables that the reading takes, are together of bulk at most 1048576: NARROWER than '..Said'. Prove '..Said' where nothing that the law and all that it calls make is longer than what came in: it says more and counts as full. Else prove '..UptoSaid'. A law counts once. -/
mutual
def uptoBulk {H : Type} : DataW H → Nat
  | .lit (.string bytes) => bytes.length + 1
  | .lit _ => 1
  | .nil => 1
  | .ptr d => uptoBulk d + 1
  | .slice elems spare => uptoBulkAll elems + uptoBulkAll spare + 1
  | .agg parts => uptoBulkAll parts + 1
  | .iface _ d => uptoBulk d + 1
  | .map entries => uptoBulkEntries entries + 1
  | .held _ => 1
def uptoBulkAll {H : Type} : List (DataW H) → Nat
  | [] => 0
  | d :: r => uptoBulk d + uptoBulkAll r
def uptoBulkEntries {H : Type} : List (Lit × DataW H) → Nat
  | [] => 0
  | x :: r => uptoBulkEntry x + uptoBulkEntries r
def uptoBulkEntry {H : Type} : Lit × DataW H → Nat
  | (.string bytes, d) => bytes.length + uptoBulk d + 1
  | (_, d) => uptoBulk d + 1
 end
def uptoSmall : (H : Type) → List (DataW H) → Bool := fun _ ds => decide (uptoBulkAll ds ≤ 1048576)
def OpenSpec.upto (s : _root_.Go.ChangeSpec) : _root_.Go.OpenSpec := { _root_.Go.OpenSpec.ofChange s with cond := some uptoSmall }

/-- 'doorwardlaw19.WordWalks', WHERE WHAT IT READS IS OF BULK AT MOST 1048576: true; the input reads as it did. -/
def wordWalksUptoRow : OpenClaim := { program := "ytcpnofmofkcnlaa", sum := "14ebda216db6f722bc6ae500639a2a2b1272dfea7754188b7766b0d206950af1", func := "doorward/doorwardlaw19.WordWalks", spec := "wordWalks", apart := false, narrowed := true }
def WordWalksUptoSaid : Prop := wordWalksUptoRow.holds Try.pinned (OpenSpec.upto wordWalksSpec)

/-- 'doorwardlaw19.WordMakes', WHERE WHAT IT READS IS OF BULK AT MOST 1048576: true; the input reads as it did. -/
def wordMakesUptoRow : OpenClaim := { program := "ytcpnofmofkcnlaa", sum := "14ebda216db6f722bc6ae500639a2a2b1272dfea7754188b7766b0d206950af1", func := "doorward/doorwardlaw19.WordMakes", spec := "wordMakes", unfollowed := true, recurses := true, loops := true, apart := false, narrowed := true }
def WordMakesUptoSaid : Prop := wordMakesUptoRow.holds Try.pinned (OpenSpec.upto wordMakesSpec)

/-- 'doorwardlaw19.WordMeans', WHERE WHAT IT READS IS OF BULK AT MOST 1048576: true; the input reads as it did. -/
def wordMeansUptoRow : OpenClaim := { program := "ytcpnofmofkcnlaa", sum := "14ebda216db6f722bc6ae500639a2a2b1272dfea7754188b7766b0d206950af1", func := "doorward/doorwardlaw19.WordMeans", spec := "wordMeans", unfollowed := true, recurses := true, loops := true, apart := false, narrowed := true }
def WordMeansUptoSaid : Prop := wordMeansUptoRow.holds Try.pinned (OpenSpec.upto wordMeansSpec)

/-- 'doorwardlaw19.WordAnswers', WHERE WHAT IT READS IS OF BULK AT MOST 1048576: true; the input reads as it did. -/
def wordAnswersUptoRow : OpenClaim := { program := "ytcpnofmofkcnlaa", sum := "14ebda216db6f722bc6ae500639a2a2b1272dfea7754188b7766b0d206950af1", func := "doorward/doorwardlaw19.WordAnswers", spec := "wordAnswers", unfollowed := true, recurses := true, loops := true, apart := false, narrowed := true }
def WordAnswersUptoSaid : Prop := wordAnswersUptoRow.holds Try.pinned (OpenSpec.upto wordAnswersSpec)

/-- 'doorwardlaw19.WordJoins', WHERE WHAT IT READS IS OF BULK AT MOST 1048576: true; the input reads as it did. -/
def wordJoinsUptoRow : OpenClaim := { program := "ytcpnofmofkcnlaa", sum := "14ebda216db6f722bc6ae500639a2a2b1272dfea7754188b7766b0d206950af1", func := "doorward/doorwardlaw19.WordJoins", spec := "wordJoins", apart := false, narrowed := true }
def WordJoinsUptoSaid : Prop := wordJoinsUptoRow.holds Try.pinned (OpenSpec.upto wordJoinsSpec)

/-- 'doorwardlaw21.EmitMakes', WHERE WHAT IT READS IS OF BULK AT MOST 1048576: true; the input reads as it did. -/
def emitMakesUptoRow : OpenClaim := { program := "ytcpnofmofkcnlaa", sum := "14ebda216db6f722bc6ae500639a2a2b1272dfea7754188b7766b0d206950af1", func := "doorward/doorwardlaw21.EmitMakes", spec := "emitMakes", unfollowed := true, recurses := true, apart := false, narrowed := true }
def EmitMakesUptoSaid : Prop := emitMakesUptoRow.holds Try.pinned (OpenSpec.upto emitMakesSpec)

/-- 'doorwardlaw21.EmitRuns', WHERE WHAT IT READS IS OF BULK AT MOST 1048576: true; the input reads as it did. -/
def emitRunsUptoRow : OpenClaim := { program := "ytcpnofmofkcnlaa", sum := "14ebda216db6f722bc6ae500639a2a2b1272dfea7754188b7766b0d206950af1", func := "doorward/doorwardlaw21.EmitRuns", spec := "emitRuns", unfollowed := true, recurses := true, apart := false, narrowed := true }
def EmitRunsUptoSaid : Prop := emitRunsUptoRow.holds Try.pinned (OpenSpec.upto emitRunsSpec)

/-- 'doorwardlaw21.EmitJoins', WHERE WHAT IT READS IS OF BULK AT MOST 1048576: true; the input reads as it did. -/
def emitJoinsUptoRow : OpenClaim := { program := "ytcpnofmofkcnlaa", sum := "14ebda216db6f722bc6ae500639a2a2b1272dfea7754188b7766b0d206950af1", func := "doorward/doorwardlaw21.EmitJoins", spec := "emitJoins", unfollowed := true, recurses := true, apart := false, narrowed := true }
def EmitJoinsUptoSaid : Prop := emitJoinsUptoRow.holds Try.pinned (OpenSpec.upto emitJoinsSpec)

/-- 'doorwardlaw21.EmitNames', WHERE WHAT IT READS IS OF BULK AT MOST 1048576: true; the input reads as it did. -/
def emitNamesUptoRow : OpenClaim := { program := "ytcpnofmofkcnlaa", sum := "14ebda216db6f722bc6ae500639a2a2b1272dfea7754188b7766b0d206950af1", func := "doorward/doorwardlaw21.EmitNames", spec := "emitNames", unfollowed := true, recurses := true, apart := false, narrowed := true }
def EmitNamesUptoSaid : Prop := emitNamesUptoRow.holds Try.pinned (OpenSpec.upto emitNamesSpec)

/-- 'doorwardlaw21.EmitCodes', WHERE WHAT IT READS IS OF BULK AT MOST 1048576: true; the input reads as it did. -/
def emitCodesUptoRow : OpenClaim := { program := "ytcpnofmofkcnlaa", sum := "14ebda216db6f722bc6ae500639a2a2b1272dfea7754188b7766b0d206950af1", func := "doorward/doorwardlaw21.EmitCodes", spec := "emitCodes", unfollowed := true, recurses := true, apart := false, narrowed := true }
def EmitCodesUptoSaid : Prop := emitCodesUptoRow.holds Try.pinned (OpenSpec.upto emitCodesSpec)

end Rows
end Go.Proofs.Ytcpnofmofkcnlaa
