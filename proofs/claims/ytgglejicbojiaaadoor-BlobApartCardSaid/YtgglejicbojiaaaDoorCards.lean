/-
  DERIVED. GIVEN WITH THE SEED: THE CARDS: each row of YtgglejicbojiaaaDoorRows.lean that lists a variable, with what it lists TIED to the program's text (the seventh form; the later family's looks); each row that meets fmt, with fmt's text TOLD by the authors' own Lean function (tested against real Go, not proved from fmt's source: count such statements apart). THE CARD IS WHAT COUNTS. Prove the row's statement (the work); the ties are given (YtgglejicbojiaaaDoorTie.lean); close each card by the builder's one call (the guide's Derived/Test/ToyasCard.lean, 'card_holds'). Laid BY PROGRAM, IN A SANDBOX (cutbox-door.mjs). By AI agents, Wed Nov 11 2026. No macro, syntax, notation, axiom, sorry.
-/
import Derived.Test.YtgglejicbojiaaaDoorRows
import GoSem.ClaimSeven
namespace Go.Proofs.YtgglejicbojiaaaDoor
namespace Rows

/-- THE TIED CARD OF 'doorwardlaw07.BlobLays'. -/
def blobLaysCard : Claim7 := { stood := { row := blobLaysRow, standIns := [], harness := (true, "9614267e2d0cebb3b2a210cf9afe94a4c867e968bdafb3ffe77060401b272de7"), looks := false }, kinds := [], alts := [], laidByText := true, laidKinds := [.data, .pinned], laidTests := true, laidLooks := .later }
def BlobLaysCardSaid : Prop := Claim7.holds Tryd.pinned (.plain (OpenSpec.ofChange blobLaysSpec)) blobLaysCard

/-- THE TIED CARD OF 'doorwardlaw07.BlobApart'. -/
def blobApartCard : Claim7 := { stood := { row := blobApartRow, standIns := [], harness := (true, "9614267e2d0cebb3b2a210cf9afe94a4c867e968bdafb3ffe77060401b272de7"), looks := false }, kinds := [], alts := [], laidByText := true, laidKinds := [.data, .pinned], laidTests := true, laidLooks := .later }
def BlobApartCardSaid : Prop := Claim7.holds Tryd.pinned (.plain (OpenSpec.ofChange blobApartSpec)) blobApartCard

/-- THE SECOND FORM's CARD OF 'doorwardlaw07.BlobLays'. -/
def blobLaysUptoCard : Claim7 := { stood := { row := blobLaysUptoRow, standIns := [], harness := (true, "9614267e2d0cebb3b2a210cf9afe94a4c867e968bdafb3ffe77060401b272de7"), looks := false }, kinds := [], alts := [], laidByText := true, laidKinds := [.data, .pinned], laidTests := true, laidLooks := .later }
def BlobLaysUptoCardSaid : Prop := Claim7.holds Tryd.pinned (.plain (OpenSpec.upto blobLaysSpec)) blobLaysUptoCard

/-- THE SECOND FORM's CARD OF 'doorwardlaw07.BlobApart'. -/
def blobApartUptoCard : Claim7 := { stood := { row := blobApartUptoRow, standIns := [], harness := (true, "9614267e2d0cebb3b2a210cf9afe94a4c867e968bdafb3ffe77060401b272de7"), looks := false }, kinds := [], alts := [], laidByText := true, laidKinds := [.data, .pinned], laidTests := true, laidLooks := .later }
def BlobApartUptoCardSaid : Prop := Claim7.holds Tryd.pinned (.plain (OpenSpec.upto blobApartSpec)) blobApartUptoCard
end Rows
end Go.Proofs.YtgglejicbojiaaaDoor
