/-
  DERIVED. GIVEN WITH THE SEED: THE CARDS: each row of YtmehkneofinmiabGreatDoorRows.lean that lists a variable, with what it lists TIED to the program's text (the seventh form; the later family's looks); each row that meets fmt, with fmt's text TOLD by the authors' own Lean function (tested against real Go, not proved from fmt's source: count such statements apart). THE CARD IS WHAT COUNTS. Prove the row's statement (the work); the ties are given (YtmehkneofinmiabGreatDoorTie.lean); close each card by the builder's one call (the guide's Derived/Test/ToyasCard.lean, 'card_holds'). Laid BY PROGRAM, IN A SANDBOX (cutbox-door.mjs). By AI agents, Wed Nov 11 2026. No macro, syntax, notation, axiom, sorry.
-/
import Derived.Test.YtmehkneofinmiabGreatDoorRows
import GoSem.ClaimSeven
namespace Go.Proofs.YtmehkneofinmiabGreatDoor
namespace Rows

/-- THE TIED CARD OF 'vaultkeep.Paged'. -/
def pagedCard : Claim7 := { stood := { row := pagedRow, standIns := [], harness := (true, "1641fad44a7aa86f88754b3dac4aeeea0f495e8564dc7feecbececbaebf5f9f9"), looks := false }, kinds := [], alts := [], goes := true, laidByText := true, laidKinds := [.data, .data, .data, .data, .pinned, .pinned], laidTests := true, laidLooks := .later }
def PagedCardSaid : Prop := Claim7.holds Tryz.pinned (.plain (OpenSpec.ofChange pagedSpec)) pagedCard

/-- THE TIED CARD OF 'vaultkeep.Swapped'. -/
def swappedCard : Claim7 := { stood := { row := swappedRow, standIns := [], harness := (true, "1641fad44a7aa86f88754b3dac4aeeea0f495e8564dc7feecbececbaebf5f9f9"), looks := false }, kinds := [], alts := [], goes := true, laidByText := true, laidKinds := [.data, .data, .data, .data, .pinned, .pinned], laidTests := true, laidLooks := .later }
def SwappedCardSaid : Prop := Claim7.holds Tryz.pinned (.plain (OpenSpec.ofChange swappedSpec)) swappedCard

/-- THE TIED CARD OF 'vaultkeep.Refused'. -/
def refusedCard : Claim7 := { stood := { row := refusedRow, standIns := [], harness := (true, "1641fad44a7aa86f88754b3dac4aeeea0f495e8564dc7feecbececbaebf5f9f9"), looks := false }, kinds := [], alts := [], goes := true, laidByText := true, laidKinds := [.data, .data, .data, .data, .pinned, .pinned], laidTests := true, laidLooks := .later }
def RefusedCardSaid : Prop := Claim7.holds Tryz.pinned (.plain (OpenSpec.ofChange refusedSpec)) refusedCard

/-- THE TIED CARD OF 'vaultkeep.Batched'. -/
def batchedCard : Claim7 := { stood := { row := batchedRow, standIns := [], harness := (true, "1641fad44a7aa86f88754b3dac4aeeea0f495e8564dc7feecbececbaebf5f9f9"), looks := false }, kinds := [], alts := [], goes := true, laidByText := true, laidKinds := [.data, .data, .data, .data, .pinned, .pinned], laidTests := true, laidLooks := .later }
def BatchedCardSaid : Prop := Claim7.holds Tryz.pinned (.plain (OpenSpec.ofChange batchedSpec)) batchedCard

/-- THE TIED CARD OF 'vaultkeep.Recovered'. -/
def recoveredCard : Claim7 := { stood := { row := recoveredRow, standIns := [], harness := (true, "1641fad44a7aa86f88754b3dac4aeeea0f495e8564dc7feecbececbaebf5f9f9"), looks := false }, kinds := [], alts := [], goes := true, laidByText := true, laidKinds := [.data, .data, .data, .data, .pinned, .pinned], laidTests := true, laidLooks := .later }
def RecoveredCardSaid : Prop := Claim7.holds Tryz.pinned (.plain (OpenSpec.ofChange recoveredSpec)) recoveredCard

/-- THE TIED CARD OF 'vaultkeep.Total'. -/
def totalCard : Claim7 := { stood := { row := totalRow, standIns := [], harness := (true, "1641fad44a7aa86f88754b3dac4aeeea0f495e8564dc7feecbececbaebf5f9f9"), looks := false }, kinds := [], alts := [], goes := true, laidByText := true, laidKinds := [.data, .data, .data, .data, .pinned, .pinned], laidTests := true, laidLooks := .later }
def TotalCardSaid : Prop := Claim7.holds Tryz.pinned (.plain (OpenSpec.ofChange totalSpec)) totalCard
end Rows
end Go.Proofs.YtmehkneofinmiabGreatDoor
