/-
  DERIVED. GIVEN WITH THE SEED: THE CARDS: each row of YthnmnnlbglpjaaaDoorRows.lean that lists a variable, with what it lists TIED to the program's text (the seventh form; the later family's looks); each row that meets fmt, with fmt's text TOLD by the authors' own Lean function (tested against real Go, not proved from fmt's source: count such statements apart). THE CARD IS WHAT COUNTS. Prove the row's statement (the work); the ties are given (YthnmnnlbglpjaaaDoorTie.lean); close each card by the builder's one call (the guide's Derived/Test/ToyasCard.lean, 'card_holds'). Laid BY PROGRAM, IN A SANDBOX (cutbox-door.mjs). By AI agents, Wed Nov 11 2026. No macro, syntax, notation, axiom, sorry.
-/
import Derived.Test.YthnmnnlbglpjaaaDoorRows
import GoSem.ClaimSeven
namespace Go.Proofs.YthnmnnlbglpjaaaDoor
namespace Rows

/-- THE TIED CARD OF 'doorwardlaw05.WalNews'. -/
def walNewsCard : Claim7 := { stood := { row := walNewsRow, standIns := [], harness := (true, "69fa3f87779f43939eae5a08561dee8bc632bd20173fa80957a138bd12e766fb"), looks := false }, kinds := [], alts := [], laidByText := true, laidKinds := [.data, .pinned], laidTests := true, laidLooks := .later }
def WalNewsCardSaid : Prop := Claim7.holds Tryd.pinned (.plain (OpenSpec.ofChange walNewsSpec)) walNewsCard

/-- THE TIED CARD OF 'doorwardlaw05.WalCalls'. -/
def walCallsCard : Claim7 := { stood := { row := walCallsRow, standIns := [], harness := (true, "69fa3f87779f43939eae5a08561dee8bc632bd20173fa80957a138bd12e766fb"), looks := false }, kinds := [], alts := [], laidByText := true, laidKinds := [.data, .pinned], laidTests := true, laidLooks := .later }
def WalCallsCardSaid : Prop := Claim7.holds Tryd.pinned (.plain (OpenSpec.ofChange walCallsSpec)) walCallsCard

/-- THE SECOND FORM's CARD OF 'doorwardlaw05.WalNews'. -/
def walNewsUptoCard : Claim7 := { stood := { row := walNewsUptoRow, standIns := [], harness := (true, "69fa3f87779f43939eae5a08561dee8bc632bd20173fa80957a138bd12e766fb"), looks := false }, kinds := [], alts := [], laidByText := true, laidKinds := [.data, .pinned], laidTests := true, laidLooks := .later }
def WalNewsUptoCardSaid : Prop := Claim7.holds Tryd.pinned (.plain (OpenSpec.upto walNewsSpec)) walNewsUptoCard

/-- THE SECOND FORM's CARD OF 'doorwardlaw05.WalCalls'. -/
def walCallsUptoCard : Claim7 := { stood := { row := walCallsUptoRow, standIns := [], harness := (true, "69fa3f87779f43939eae5a08561dee8bc632bd20173fa80957a138bd12e766fb"), looks := false }, kinds := [], alts := [], laidByText := true, laidKinds := [.data, .pinned], laidTests := true, laidLooks := .later }
def WalCallsUptoCardSaid : Prop := Claim7.holds Tryd.pinned (.plain (OpenSpec.upto walCallsSpec)) walCallsUptoCard
end Rows
end Go.Proofs.YthnmnnlbglpjaaaDoor
