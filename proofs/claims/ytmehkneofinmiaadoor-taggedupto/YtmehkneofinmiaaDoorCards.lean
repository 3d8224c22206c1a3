/-
  DERIVED. GIVEN WITH THE SEED: THE CARDS: each row of YtmehkneofinmiaaDoorRows.lean that lists a variable, with what it lists TIED to the program's text (the seventh form; the later family's looks); each row that meets fmt, with fmt's text TOLD by the authors' own Lean function (tested against real Go, not proved from fmt's source: count such statements apart). THE CARD IS WHAT COUNTS. Prove the row's statement (the work); the ties are given (YtmehkneofinmiaaDoorTie.lean); close each card by the builder's one call (the guide's Derived/Test/ToyasCard.lean, 'card_holds'). Laid BY PROGRAM, IN A SANDBOX (cutbox-door.mjs). By AI agents, Wed Nov 11 2026. No macro, syntax, notation, axiom, sorry.
-/
import Derived.Test.YtmehkneofinmiaaDoorRows
import GoSem.ClaimSeven
namespace Go.Proofs.YtmehkneofinmiaaDoor
namespace Rows

/-- THE TIED CARD OF 'vaultlaw.Dates'. -/
def datesCard : Claim7 := { stood := { row := datesRow, standIns := [], harness := (true, "9a5a8f42312948031e5953d32c3528b1d02201c3c48c8123aaad0e7460985ce7"), looks := false }, kinds := [], alts := [], laidByText := true, laidKinds := [.data, .data, .data], laidTests := true, laidLooks := .later }
def DatesCardSaid : Prop := Claim7.holds Tryd.pinned (.plain (OpenSpec.ofChange datesSpec)) datesCard

/-- THE TIED CARD OF 'vaultlaw.Tagged'. -/
def taggedCard : Claim7 := { stood := { row := taggedRow, standIns := [], harness := (true, "9a5a8f42312948031e5953d32c3528b1d02201c3c48c8123aaad0e7460985ce7"), looks := false }, kinds := [], alts := [], laidByText := true, laidKinds := [.data, .data, .data, .data, .pinned], laidTests := true, laidLooks := .later }
def TaggedCardSaid : Prop := Claim7.holds Tryd.pinned (.plain (OpenSpec.ofChange taggedSpec)) taggedCard

/-- THE TIED CARD OF 'vaultkeep.Round'. -/
def roundCard : Claim7 := { stood := { row := roundRow, standIns := [], harness := (true, "9a5a8f42312948031e5953d32c3528b1d02201c3c48c8123aaad0e7460985ce7"), looks := false }, kinds := [], alts := [], laidByText := true, laidKinds := [.data, .data, .data], laidTests := true, laidLooks := .later }
def RoundCardSaid : Prop := Claim7.holds Tryd.pinned (.plain (OpenSpec.ofChange roundSpec)) roundCard

/-- THE TIED CARD OF 'vaultkeep.Quoted'. -/
def quotedCard : Claim7 := { stood := { row := quotedRow, standIns := [], harness := (true, "9a5a8f42312948031e5953d32c3528b1d02201c3c48c8123aaad0e7460985ce7"), looks := false }, kinds := [], alts := [], laidByText := true, laidKinds := [.data, .pinned], laidTests := true, laidLooks := .later }
def QuotedCardSaid : Prop := Claim7.holds Tryd.pinned (.plain (OpenSpec.ofChange quotedSpec)) quotedCard

/-- THE SECOND FORM's CARD OF 'vaultlaw.Dates'. -/
def datesUptoCard : Claim7 := { stood := { row := datesUptoRow, standIns := [], harness := (true, "9a5a8f42312948031e5953d32c3528b1d02201c3c48c8123aaad0e7460985ce7"), looks := false }, kinds := [], alts := [], laidByText := true, laidKinds := [.data, .data, .data], laidTests := true, laidLooks := .later }
def DatesUptoCardSaid : Prop := Claim7.holds Tryd.pinned (.plain (OpenSpec.upto datesSpec)) datesUptoCard

/-- THE SECOND FORM's CARD OF 'vaultlaw.Tagged'. -/
def taggedUptoCard : Claim7 := { stood := { row := taggedUptoRow, standIns := [], harness := (true, "9a5a8f42312948031e5953d32c3528b1d02201c3c48c8123aaad0e7460985ce7"), looks := false }, kinds := [], alts := [], laidByText := true, laidKinds := [.data, .data, .data, .data, .pinned], laidTests := true, laidLooks := .later }
def TaggedUptoCardSaid : Prop := Claim7.holds Tryd.pinned (.plain (OpenSpec.upto taggedSpec)) taggedUptoCard

/-- THE SECOND FORM's CARD OF 'vaultkeep.Round'. -/
def roundUptoCard : Claim7 := { stood := { row := roundUptoRow, standIns := [], harness := (true, "9a5a8f42312948031e5953d32c3528b1d02201c3c48c8123aaad0e7460985ce7"), looks := false }, kinds := [], alts := [], laidByText := true, laidKinds := [.data, .data, .data], laidTests := true, laidLooks := .later }
def RoundUptoCardSaid : Prop := Claim7.holds Tryd.pinned (.plain (OpenSpec.upto roundSpec)) roundUptoCard

/-- THE SECOND FORM's CARD OF 'vaultkeep.Quoted'. -/
def quotedUptoCard : Claim7 := { stood := { row := quotedUptoRow, standIns := [], harness := (true, "9a5a8f42312948031e5953d32c3528b1d02201c3c48c8123aaad0e7460985ce7"), looks := false }, kinds := [], alts := [], laidByText := true, laidKinds := [.data, .pinned], laidTests := true, laidLooks := .later }
def QuotedUptoCardSaid : Prop := Claim7.holds Tryd.pinned (.plain (OpenSpec.upto quotedSpec)) quotedUptoCard
end Rows
end Go.Proofs.YtmehkneofinmiaaDoor
