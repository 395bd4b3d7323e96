/-
  DERIVED. GIVEN WITH THE SEED: THE CARDS: each row of YtabkpoolhcpihaaDoorRows.lean that lists a variable, with what it lists TIED to the program's text (the seventh form; the later family's looks); each row that meets fmt, with fmt's text TOLD by the authors' own Lean function (tested against real Go, not proved from fmt's source: count such statements apart). THE CARD IS WHAT COUNTS. Prove the row's statement (the work); the ties are given (YtabkpoolhcpihaaDoorTie.lean); close each card by the builder's one call (the guide's Derived/Test/ToyasCard.lean, 'card_holds'). Laid BY PROGRAM, IN A SANDBOX (cutbox-door.mjs). By AI agents, Wed Nov 11 2026. No macro, syntax, notation, axiom, sorry.
-/
import Derived.Test.YtabkpoolhcpihaaDoorRows
import GoSem.ClaimSeven
namespace Go.Proofs.YtabkpoolhcpihaaDoor
namespace Rows

/-- THE TIED CARD OF 'doorwardlaw03.DiskTells'. -/
def diskTellsCard : Claim7 := { stood := { row := diskTellsRow, standIns := [], harness := (true, "1ede93d60d7f4637a081873104184c813125d8a400b6076d00564cf9c04347e0"), looks := false }, kinds := [], alts := [], laidByText := true, laidKinds := [.data, .pinned], laidTests := true, laidLooks := .later }
def DiskTellsCardSaid : Prop := Claim7.holds Tryd.pinned (.plain (OpenSpec.ofChange diskTellsSpec)) diskTellsCard

/-- THE TIED CARD OF 'doorwardlaw03.DiskCalls'. -/
def diskCallsCard : Claim7 := { stood := { row := diskCallsRow, standIns := [], harness := (true, "1ede93d60d7f4637a081873104184c813125d8a400b6076d00564cf9c04347e0"), looks := false }, kinds := [], alts := [], laidByText := true, laidKinds := [.data, .pinned], laidTests := true, laidLooks := .later }
def DiskCallsCardSaid : Prop := Claim7.holds Tryd.pinned (.plain (OpenSpec.ofChange diskCallsSpec)) diskCallsCard

/-- THE TIED CARD OF 'doorwardlaw03.DiskLeft'. -/
def diskLeftCard : Claim7 := { stood := { row := diskLeftRow, standIns := [], harness := (true, "1ede93d60d7f4637a081873104184c813125d8a400b6076d00564cf9c04347e0"), looks := false }, kinds := [], alts := [], laidByText := true, laidKinds := [.data, .pinned], laidTests := true, laidLooks := .later }
def DiskLeftCardSaid : Prop := Claim7.holds Tryd.pinned (.plain (OpenSpec.ofChange diskLeftSpec)) diskLeftCard

/-- THE SECOND FORM's CARD OF 'doorwardlaw03.DiskTells'. -/
def diskTellsUptoCard : Claim7 := { stood := { row := diskTellsUptoRow, standIns := [], harness := (true, "1ede93d60d7f4637a081873104184c813125d8a400b6076d00564cf9c04347e0"), looks := false }, kinds := [], alts := [], laidByText := true, laidKinds := [.data, .pinned], laidTests := true, laidLooks := .later }
def DiskTellsUptoCardSaid : Prop := Claim7.holds Tryd.pinned (.plain (OpenSpec.upto diskTellsSpec)) diskTellsUptoCard

/-- THE SECOND FORM's CARD OF 'doorwardlaw03.DiskCalls'. -/
def diskCallsUptoCard : Claim7 := { stood := { row := diskCallsUptoRow, standIns := [], harness := (true, "1ede93d60d7f4637a081873104184c813125d8a400b6076d00564cf9c04347e0"), looks := false }, kinds := [], alts := [], laidByText := true, laidKinds := [.data, .pinned], laidTests := true, laidLooks := .later }
def DiskCallsUptoCardSaid : Prop := Claim7.holds Tryd.pinned (.plain (OpenSpec.upto diskCallsSpec)) diskCallsUptoCard

/-- THE SECOND FORM's CARD OF 'doorwardlaw03.DiskLeft'. -/
def diskLeftUptoCard : Claim7 := { stood := { row := diskLeftUptoRow, standIns := [], harness := (true, "1ede93d60d7f4637a081873104184c813125d8a400b6076d00564cf9c04347e0"), looks := false }, kinds := [], alts := [], laidByText := true, laidKinds := [.data, .pinned], laidTests := true, laidLooks := .later }
def DiskLeftUptoCardSaid : Prop := Claim7.holds Tryd.pinned (.plain (OpenSpec.upto diskLeftSpec)) diskLeftUptoCard
end Rows
end Go.Proofs.YtabkpoolhcpihaaDoor
