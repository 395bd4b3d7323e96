/-
  DERIVED. GIVEN WITH THE SEED: THE CARDS: each row of YtimiooiaohfelaaDoorRows.lean that lists a variable, with what it lists TIED to the program's text (the seventh form; the later family's looks); each row that meets fmt, with fmt's text TOLD by the authors' own Lean function (tested against real Go, not proved from fmt's source: count such statements apart). THE CARD IS WHAT COUNTS. Prove the row's statement (the work); the ties are given (YtimiooiaohfelaaDoorTie.lean); close each card by the builder's one call (the guide's Derived/Test/ToyasCard.lean, 'card_holds'). Laid BY PROGRAM, IN A SANDBOX (cutbox-door.mjs). By AI agents, Wed Nov 11 2026. No macro, syntax, notation, axiom, sorry.
-/
import Derived.Test.YtimiooiaohfelaaDoorRows
import GoSem.ClaimSeven
namespace Go.Proofs.YtimiooiaohfelaaDoor
namespace Rows

/-- THE TIED CARD OF 'doorwardlaw07.BlobLoads'. -/
def blobLoadsCard : Claim7 := { stood := { row := blobLoadsRow, standIns := [], harness := (true, "e474cfe44f972568189c14265f8ef7c0d44bc2b6e81a018c34279b4973105dea"), looks := false }, kinds := [], alts := [], laidByText := true, laidKinds := [.data, .pinned], laidTests := true, laidLooks := .later }
def BlobLoadsCardSaid : Prop := Claim7.holds Tryd.pinned (.plain (OpenSpec.ofChange blobLoadsSpec)) blobLoadsCard

/-- THE SECOND FORM's CARD OF 'doorwardlaw07.BlobLoads'. -/
def blobLoadsUptoCard : Claim7 := { stood := { row := blobLoadsUptoRow, standIns := [], harness := (true, "e474cfe44f972568189c14265f8ef7c0d44bc2b6e81a018c34279b4973105dea"), looks := false }, kinds := [], alts := [], laidByText := true, laidKinds := [.data, .pinned], laidTests := true, laidLooks := .later }
def BlobLoadsUptoCardSaid : Prop := Claim7.holds Tryd.pinned (.plain (OpenSpec.upto blobLoadsSpec)) blobLoadsUptoCard
end Rows
end Go.Proofs.YtimiooiaohfelaaDoor
