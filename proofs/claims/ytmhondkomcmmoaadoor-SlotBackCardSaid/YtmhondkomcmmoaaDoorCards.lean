/-
  DERIVED. GIVEN WITH THE SEED: THE CARDS: each row of YtmhondkomcmmoaaDoorRows.lean that lists a variable, with what it lists TIED to the program's text (the seventh form; the later family's looks); each row that meets fmt, with fmt's text TOLD by the authors' own Lean function (tested against real Go, not proved from fmt's source: count such statements apart). THE CARD IS WHAT COUNTS. Prove the row's statement (the work); the ties are given (YtmhondkomcmmoaaDoorTie.lean); close each card by the builder's one call (the guide's Derived/Test/ToyasCard.lean, 'card_holds'). Laid BY PROGRAM, IN A SANDBOX (cutbox-door.mjs). By AI agents, Wed Nov 11 2026. No macro, syntax, notation, axiom, sorry.
-/
import Derived.Test.YtmhondkomcmmoaaDoorRows
import GoSem.ClaimSeven
namespace Go.Proofs.YtmhondkomcmmoaaDoor
namespace Rows

/-- THE TIED CARD OF 'doorwardlaw04.SlotWrites'. -/
def slotWritesCard : Claim7 := { stood := { row := slotWritesRow, standIns := [], harness := (true, "cc989a9c52a20b1817aa87e980c00ada041d216208d7315ead770f703e58a358"), looks := false }, kinds := [], alts := [], laidByText := true, laidKinds := [.data, .pinned], laidTests := true, laidLooks := .later }
def SlotWritesCardSaid : Prop := Claim7.holds Tryd.pinned (.plain (OpenSpec.ofChange slotWritesSpec)) slotWritesCard

/-- THE TIED CARD OF 'doorwardlaw04.SlotReads'. -/
def slotReadsCard : Claim7 := { stood := { row := slotReadsRow, standIns := [], harness := (true, "cc989a9c52a20b1817aa87e980c00ada041d216208d7315ead770f703e58a358"), looks := false }, kinds := [], alts := [], laidByText := true, laidKinds := [.data, .pinned], laidTests := true, laidLooks := .later }
def SlotReadsCardSaid : Prop := Claim7.holds Tryd.pinned (.plain (OpenSpec.ofChange slotReadsSpec)) slotReadsCard

/-- THE TIED CARD OF 'doorwardlaw04.SlotBack'. -/
def slotBackCard : Claim7 := { stood := { row := slotBackRow, standIns := [], harness := (true, "cc989a9c52a20b1817aa87e980c00ada041d216208d7315ead770f703e58a358"), looks := false }, kinds := [], alts := [], laidByText := true, laidKinds := [.data, .pinned], laidTests := true, laidLooks := .later }
def SlotBackCardSaid : Prop := Claim7.holds Tryd.pinned (.plain (OpenSpec.ofChange slotBackSpec)) slotBackCard

/-- THE TIED CARD OF 'doorwardlaw04.SlotUnlike'. -/
def slotUnlikeCard : Claim7 := { stood := { row := slotUnlikeRow, standIns := [], harness := (true, "cc989a9c52a20b1817aa87e980c00ada041d216208d7315ead770f703e58a358"), looks := false }, kinds := [], alts := [], laidByText := true, laidKinds := [.data, .pinned], laidTests := true, laidLooks := .later }
def SlotUnlikeCardSaid : Prop := Claim7.holds Tryd.pinned (.plain (OpenSpec.ofChange slotUnlikeSpec)) slotUnlikeCard

/-- THE SECOND FORM's CARD OF 'doorwardlaw04.SlotWrites'. -/
def slotWritesUptoCard : Claim7 := { stood := { row := slotWritesUptoRow, standIns := [], harness := (true, "cc989a9c52a20b1817aa87e980c00ada041d216208d7315ead770f703e58a358"), looks := false }, kinds := [], alts := [], laidByText := true, laidKinds := [.data, .pinned], laidTests := true, laidLooks := .later }
def SlotWritesUptoCardSaid : Prop := Claim7.holds Tryd.pinned (.plain (OpenSpec.upto slotWritesSpec)) slotWritesUptoCard

/-- THE SECOND FORM's CARD OF 'doorwardlaw04.SlotReads'. -/
def slotReadsUptoCard : Claim7 := { stood := { row := slotReadsUptoRow, standIns := [], harness := (true, "cc989a9c52a20b1817aa87e980c00ada041d216208d7315ead770f703e58a358"), looks := false }, kinds := [], alts := [], laidByText := true, laidKinds := [.data, .pinned], laidTests := true, laidLooks := .later }
def SlotReadsUptoCardSaid : Prop := Claim7.holds Tryd.pinned (.plain (OpenSpec.upto slotReadsSpec)) slotReadsUptoCard

/-- THE SECOND FORM's CARD OF 'doorwardlaw04.SlotBack'. -/
def slotBackUptoCard : Claim7 := { stood := { row := slotBackUptoRow, standIns := [], harness := (true, "cc989a9c52a20b1817aa87e980c00ada041d216208d7315ead770f703e58a358"), looks := false }, kinds := [], alts := [], laidByText := true, laidKinds := [.data, .pinned], laidTests := true, laidLooks := .later }
def SlotBackUptoCardSaid : Prop := Claim7.holds Tryd.pinned (.plain (OpenSpec.upto slotBackSpec)) slotBackUptoCard

/-- THE SECOND FORM's CARD OF 'doorwardlaw04.SlotUnlike'. -/
def slotUnlikeUptoCard : Claim7 := { stood := { row := slotUnlikeUptoRow, standIns := [], harness := (true, "cc989a9c52a20b1817aa87e980c00ada041d216208d7315ead770f703e58a358"), looks := false }, kinds := [], alts := [], laidByText := true, laidKinds := [.data, .pinned], laidTests := true, laidLooks := .later }
def SlotUnlikeUptoCardSaid : Prop := Claim7.holds Tryd.pinned (.plain (OpenSpec.upto slotUnlikeSpec)) slotUnlikeUptoCard
end Rows
end Go.Proofs.YtmhondkomcmmoaaDoor
