/-
  NARROWER THAN 'FOR EVERY INPUT', by the rows' own cells (each row's printed sentence says how): MeanHolds: loops · MeanEvals: loops · MeanNots: loops · MeanRules: loops · MeanAll: loops.
  DERIVED. THE GIVEN ROWS OF THIS SEAT. 6 by the template 'for every input the law returns true; each argument reads behind the call as it read before'; 0 by the template 'total and deterministic' (their statements: YtgcngmlndijppaaTotals.lean).
  GIVEN WITH THE SEED: the statements are not yours to turn. If you find one false, say at which input.
  Laid BY PROGRAM, IN A SANDBOX (cutbox-rows.mjs): the forced cells as the released guide's own fill.sh prints them over the translation f9926c3032ba86ed… (all of the seat's roots in one cut). By AI agents, Wed Nov 11 2026. No macro, syntax, notation, axiom, sorry.
-/
import Derived.Test.YtgcngmlndijppaaChecked
import GoSem.Claim
import GoSem.ClaimJoined
import GoSem.ClaimMapViews
import Derived.JoinedTies
import Derived.KernelRfl
namespace Go.Proofs.Ytgcngmlndijppaa
/- THE CELL 'sum', in the pinned program and in every row, IS THE sha256 OF THE DUMP (.gsa) THAT YtgcngmlndijppaaProg.lean LOADS. Nothing in Lean hashes anything: it is a label: what it is worth is what the hold of that sum in a sandbox is worth. -/
noncomputable def Try.pinned : Pinned := { name := "ytgcngmlndijppaa", sum := "f9926c3032ba86ed27055c0d10fbaeea868f80124b61c6fb792c8bbc7e914fb4", checked := Try.checked }
namespace Rows
def none {H : Type} : Left H := { results := [], args := [] }

/-- 'doorwardlaw18.MeanHolds': WHATEVER THE INPUT: true; the input reads as it did. -/
def meanHoldsSpec : ChangeSpec := { name := "meanHolds", fn := fun _ => fun
  | [d1, d2] => { results := [.lit (.bool true)], args := [d1, d2] }
  | _ => none }
def meanHoldsRow : OpenClaim := { program := "ytgcngmlndijppaa", sum := "f9926c3032ba86ed27055c0d10fbaeea868f80124b61c6fb792c8bbc7e914fb4", func := "doorward/doorwardlaw18.MeanHolds", spec := "meanHolds", unfollowed := true, recurses := true, loops := true, apart := false }
def MeanHoldsSaid : Prop := meanHoldsRow.holds Try.pinned (OpenSpec.ofChange meanHoldsSpec)

/-- ITS FALSE NEIGHBOUR: 'it returns false'. Refute it at one input. -/
def meanHoldsWrong : ChangeSpec := { name := "meanHolds", fn := fun _ => fun
  | [d1, d2] => { results := [.lit (.bool false)], args := [d1, d2] }
  | _ => none }
def MeanHoldsWrongFalsely : Prop := meanHoldsRow.holds Try.pinned (OpenSpec.ofChange meanHoldsWrong)

/-- 'doorwardlaw18.MeanEvals': WHATEVER THE INPUT: true; the input reads as it did. -/
def meanEvalsSpec : ChangeSpec := { name := "meanEvals", fn := fun _ => fun
  | [d1, d2, d3] => { results := [.lit (.bool true)], args := [d1, d2, d3] }
  | _ => none }
def meanEvalsRow : OpenClaim := { program := "ytgcngmlndijppaa", sum := "f9926c3032ba86ed27055c0d10fbaeea868f80124b61c6fb792c8bbc7e914fb4", func := "doorward/doorwardlaw18.MeanEvals", spec := "meanEvals", unfollowed := true, recurses := true, loops := true, apart := false }
def MeanEvalsSaid : Prop := meanEvalsRow.holds Try.pinned (OpenSpec.ofChange meanEvalsSpec)

/-- ITS FALSE NEIGHBOUR: 'it returns false'. Refute it at one input. -/
def meanEvalsWrong : ChangeSpec := { name := "meanEvals", fn := fun _ => fun
  | [d1, d2, d3] => { results := [.lit (.bool false)], args := [d1, d2, d3] }
  | _ => none }
def MeanEvalsWrongFalsely : Prop := meanEvalsRow.holds Try.pinned (OpenSpec.ofChange meanEvalsWrong)

/-- 'doorwardlaw18.MeanNots': WHATEVER THE INPUT: true; the input reads as it did. -/
def meanNotsSpec : ChangeSpec := { name := "meanNots", fn := fun _ => fun
  | [d1, d2] => { results := [.lit (.bool true)], args := [d1, d2] }
  | _ => none }
def meanNotsRow : OpenClaim := { program := "ytgcngmlndijppaa", sum := "f9926c3032ba86ed27055c0d10fbaeea868f80124b61c6fb792c8bbc7e914fb4", func := "doorward/doorwardlaw18.MeanNots", spec := "meanNots", unfollowed := true, recurses := true, loops := true, apart := false }
def MeanNotsSaid : Prop := meanNotsRow.holds Try.pinned (OpenSpec.ofChange meanNotsSpec)

/-- ITS FALSE NEIGHBOUR: 'it returns false'. Refute it at one input. -/
def meanNotsWrong : ChangeSpec := { name := "meanNots", fn := fun _ => fun
  | [d1, d2] => { results := [.lit (.bool false)], args := [d1, d2] }
  | _ => none }
def MeanNotsWrongFalsely : Prop := meanNotsRow.holds Try.pinned (OpenSpec.ofChange meanNotsWrong)

/-- 'doorwardlaw18.MeanRules': WHATEVER THE INPUT: true; the input reads as it did. -/
def meanRulesSpec : ChangeSpec := { name := "meanRules", fn := fun _ => fun
  | [d1, d2, d3] => { results := [.lit (.bool true)], args := [d1, d2, d3] }
  | _ => none }
def meanRulesRow : OpenClaim := { program := "ytgcngmlndijppaa", sum := "f9926c3032ba86ed27055c0d10fbaeea868f80124b61c6fb792c8bbc7e914fb4", func := "doorward/doorwardlaw18.MeanRules", spec := "meanRules", unfollowed := true, recurses := true, loops := true, apart := false }
def MeanRulesSaid : Prop := meanRulesRow.holds Try.pinned (OpenSpec.ofChange meanRulesSpec)

/-- ITS FALSE NEIGHBOUR: 'it returns false'. Refute it at one input. -/
def meanRulesWrong : ChangeSpec := { name := "meanRules", fn := fun _ => fun
  | [d1, d2, d3] => { results := [.lit (.bool false)], args := [d1, d2, d3] }
  | _ => none }
def MeanRulesWrongFalsely : Prop := meanRulesRow.holds Try.pinned (OpenSpec.ofChange meanRulesWrong)

/-- 'doorwardlaw18.MeanSigns': WHATEVER THE INPUT: true; the input reads as it did. -/
def meanSignsSpec : ChangeSpec := { name := "meanSigns", fn := fun _ => fun
  | [d1, d2, d3, d4] => { results := [.lit (.bool true)], args := [d1, d2, d3, d4] }
  | _ => none }
def meanSignsRow : OpenClaim := { program := "ytgcngmlndijppaa", sum := "f9926c3032ba86ed27055c0d10fbaeea868f80124b61c6fb792c8bbc7e914fb4", func := "doorward/doorwardlaw18.MeanSigns", spec := "meanSigns", unfollowed := true, recurses := true, apart := false }
def MeanSignsSaid : Prop := meanSignsRow.holds Try.pinned (OpenSpec.ofChange meanSignsSpec)

/-- ITS FALSE NEIGHBOUR: 'it returns false'. Refute it at one input. -/
def meanSignsWrong : ChangeSpec := { name := "meanSigns", fn := fun _ => fun
  | [d1, d2, d3, d4] => { results := [.lit (.bool false)], args := [d1, d2, d3, d4] }
  | _ => none }
def MeanSignsWrongFalsely : Prop := meanSignsRow.holds Try.pinned (OpenSpec.ofChange meanSignsWrong)

/-- 'doorwardlaw18.MeanAll': WHATEVER THE INPUT: true; the input reads as it did. -/
def meanAllSpec : ChangeSpec := { name := "meanAll", fn := fun _ => fun
  | [d1, d2, d3] => { results := [.lit (.bool true)], args := [d1, d2, d3] }
  | _ => none }
def meanAllRow : OpenClaim := { program := "ytgcngmlndijppaa", sum := "f9926c3032ba86ed27055c0d10fbaeea868f80124b61c6fb792c8bbc7e914fb4", func := "doorward/doorwardlaw18.MeanAll", spec := "meanAll", unfollowed := true, recurses := true, loops := true, apart := false }
def MeanAllSaid : Prop := meanAllRow.holds Try.pinned (OpenSpec.ofChange meanAllSpec)

/-- ITS FALSE NEIGHBOUR: 'it returns false'. Refute it at one input. -/
def meanAllWrong : ChangeSpec := { name := "meanAll", fn := fun _ => fun
  | [d1, d2, d3] => { results := [.lit (.bool false)], args := [d1, d2, d3] }
  | _ => none }
def MeanAllWrongFalsely : Prop := meanAllRow.holds Try.pinned (OpenSpec.ofChange meanAllWrong)

/- THE SECOND FORM. 'bulk': how many values and letters a reading holds, each counted each time it is reached (what is shared counts as often as it is met; a slice's spare places count too). A statement '..UptoSaid' is the law's where the arguments, and the package variables that the reading takes, are together of bulk at most 1048576: NARROWER than '..Said'. Prove '..Said' where nothing that the law and all that it calls make is longer than what came in: it says more and counts as full. Else prove '..UptoSaid'. A law counts once. -/
mutual
def uptoBulk {H : Type} : DataW H → Nat
  | .lit (.string bytes) => bytes.length + 1
  | .lit _ => 1
  | .nil => 1
  | .ptr d => uptoBulk d + 1
  | .slice elems spare => uptoBulkAll elems + uptoBulkAll spare + 1
  | .agg parts => uptoBulkAll parts + 1
  | .iface _ d => uptoBulk d + 1
  | .map entries => uptoBulkEntries entries + 1
  | .held _ => 1
def uptoBulkAll {H : Type} : List (DataW H) → Nat
  | [] => 0
  | d :: r => uptoBulk d + uptoBulkAll r
def uptoBulkEntries {H : Type} : List (Lit × DataW H) → Nat
  | [] => 0
  | x :: r => uptoBulkEntry x + uptoBulkEntries r
def uptoBulkEntry {H : Type} : Lit × DataW H → Nat
  | (.string bytes, d) => bytes.length + uptoBulk d + 1
  | (_, d) => uptoBulk d + 1
 end
def uptoSmall : (H : Type) → List (DataW H) → Bool := fun _ ds => decide (uptoBulkAll ds ≤ 1048576)
def OpenSpec.upto (s : _root_.Go.ChangeSpec) : _root_.Go.OpenSpec := { _root_.Go.OpenSpec.ofChange s with cond := some uptoSmall }

/-- 'doorwardlaw18.MeanHolds', WHERE WHAT IT READS IS OF BULK AT MOST 1048576: true; the input reads as it did. -/
def meanHoldsUptoRow : OpenClaim := { program := "ytgcngmlndijppaa", sum := "f9926c3032ba86ed27055c0d10fbaeea868f80124b61c6fb792c8bbc7e914fb4", func := "doorward/doorwardlaw18.MeanHolds", spec := "meanHolds", unfollowed := true, recurses := true, loops := true, apart := false, narrowed := true }
def MeanHoldsUptoSaid : Prop := meanHoldsUptoRow.holds Try.pinned (OpenSpec.upto meanHoldsSpec)

/-- 'doorwardlaw18.MeanEvals', WHERE WHAT IT READS IS OF BULK AT MOST 1048576: true; the input reads as it did. -/
def meanEvalsUptoRow : OpenClaim := { program := "ytgcngmlndijppaa", sum := "f9926c3032ba86ed27055c0d10fbaeea868f80124b61c6fb792c8bbc7e914fb4", func := "doorward/doorwardlaw18.MeanEvals", spec := "meanEvals", unfollowed := true, recurses := true, loops := true, apart := false, narrowed := true }
def MeanEvalsUptoSaid : Prop := meanEvalsUptoRow.holds Try.pinned (OpenSpec.upto meanEvalsSpec)

/-- 'doorwardlaw18.MeanNots', WHERE WHAT IT READS IS OF BULK AT MOST 1048576: true; the input reads as it did. -/
def meanNotsUptoRow : OpenClaim := { program := "ytgcngmlndijppaa", sum := "f9926c3032ba86ed27055c0d10fbaeea868f80124b61c6fb792c8bbc7e914fb4", func := "doorward/doorwardlaw18.MeanNots", spec := "meanNots", unfollowed := true, recurses := true, loops := true, apart := false, narrowed := true }
def MeanNotsUptoSaid : Prop := meanNotsUptoRow.holds Try.pinned (OpenSpec.upto meanNotsSpec)

/-- 'doorwardlaw18.MeanRules', WHERE WHAT IT READS IS OF BULK AT MOST 1048576: true; the input reads as it did. -/
def meanRulesUptoRow : OpenClaim := { program := "ytgcngmlndijppaa", sum := "f9926c3032ba86ed27055c0d10fbaeea868f80124b61c6fb792c8bbc7e914fb4", func := "doorward/doorwardlaw18.MeanRules", spec := "meanRules", unfollowed := true, recurses := true, loops := true, apart := false, narrowed := true }
def MeanRulesUptoSaid : Prop := meanRulesUptoRow.holds Try.pinned (OpenSpec.upto meanRulesSpec)

/-- 'doorwardlaw18.MeanSigns', WHERE WHAT IT READS IS OF BULK AT MOST 1048576: true; the input reads as it did. -/
def meanSignsUptoRow : OpenClaim := { program := "ytgcngmlndijppaa", sum := "f9926c3032ba86ed27055c0d10fbaeea868f80124b61c6fb792c8bbc7e914fb4", func := "doorward/doorwardlaw18.MeanSigns", spec := "meanSigns", unfollowed := true, recurses := true, apart := false, narrowed := true }
def MeanSignsUptoSaid : Prop := meanSignsUptoRow.holds Try.pinned (OpenSpec.upto meanSignsSpec)

/-- 'doorwardlaw18.MeanAll', WHERE WHAT IT READS IS OF BULK AT MOST 1048576: true; the input reads as it did. -/
def meanAllUptoRow : OpenClaim := { program := "ytgcngmlndijppaa", sum := "f9926c3032ba86ed27055c0d10fbaeea868f80124b61c6fb792c8bbc7e914fb4", func := "doorward/doorwardlaw18.MeanAll", spec := "meanAll", unfollowed := true, recurses := true, loops := true, apart := false, narrowed := true }
def MeanAllUptoSaid : Prop := meanAllUptoRow.holds Try.pinned (OpenSpec.upto meanAllSpec)

end Rows
end Go.Proofs.Ytgcngmlndijppaa
