/-
  DERIVED. GIVEN WITH THE SEED: THE CARDS: each row of YtmehkneofinmiaaGreatDoorRows.lean that lists a variable, with what it lists TIED to the program's text (the seventh form; the later family's looks); each row that meets fmt, with fmt's text TOLD by the authors' own Lean function (tested against real Go, not proved from fmt's source: count such statements apart). THE CARD IS WHAT COUNTS. Prove the row's statement (the work); the ties are given (YtmehkneofinmiaaGreatDoorTie.lean); close each card by the builder's one call (the guide's Derived/Test/ToyasCard.lean, 'card_holds'). Laid BY PROGRAM, IN A SANDBOX (cutbox-door.mjs). By AI agents, Wed Nov 11 2026. No macro, syntax, notation, axiom, sorry.
-/
import Derived.Test.YtmehkneofinmiaaGreatDoorRows
import GoSem.ClaimSeven
namespace Go.Proofs.YtmehkneofinmiaaGreatDoor
namespace Rows

/-- THE TIED CARD OF 'vaultlaw.Does'. -/
def doesCard : Claim7 := { stood := { row := doesRow, standIns := [], harness := (true, "2736e1f697c0b78e7efed1c853d0741618a22f2b2f5bd9af351f4d179a2ad871"), looks := false }, kinds := [], alts := [], goes := true, laidByText := true, laidKinds := [.data, .data, .data, .data, .pinned, .pinned], laidTests := true, laidLooks := .later }
def DoesCardSaid : Prop := Claim7.holds Tryz.pinned (.plain (OpenSpec.ofChange doesSpec)) doesCard

/-- THE TIED CARD OF 'vaultlaw.Batches'. -/
def batchesCard : Claim7 := { stood := { row := batchesRow, standIns := [], harness := (true, "2736e1f697c0b78e7efed1c853d0741618a22f2b2f5bd9af351f4d179a2ad871"), looks := false }, kinds := [], alts := [], goes := true, laidByText := true, laidKinds := [.data, .data, .data, .data, .pinned, .pinned], laidTests := true, laidLooks := .later }
def BatchesCardSaid : Prop := Claim7.holds Tryz.pinned (.plain (OpenSpec.ofChange batchesSpec)) batchesCard

/-- THE TIED CARD OF 'vaultlaw.Opens'. -/
def opensCard : Claim7 := { stood := { row := opensRow, standIns := [], harness := (true, "2736e1f697c0b78e7efed1c853d0741618a22f2b2f5bd9af351f4d179a2ad871"), looks := false }, kinds := [], alts := [], goes := true, laidByText := true, laidKinds := [.data, .data, .data, .data, .pinned, .pinned], laidTests := true, laidLooks := .later }
def OpensCardSaid : Prop := Claim7.holds Tryz.pinned (.plain (OpenSpec.ofChange opensSpec)) opensCard

/-- THE TIED CARD OF 'vaultlaw.All'. -/
def allCard : Claim7 := { stood := { row := allRow, standIns := [], harness := (true, "2736e1f697c0b78e7efed1c853d0741618a22f2b2f5bd9af351f4d179a2ad871"), looks := false }, kinds := [], alts := [], goes := true, laidByText := true, laidKinds := [.data, .data, .data, .data, .pinned, .pinned], laidTests := true, laidLooks := .later }
def AllCardSaid : Prop := Claim7.holds Tryz.pinned (.plain (OpenSpec.ofChange allSpec)) allCard

/-- THE TIED CARD OF 'vaultkeep.Kept'. -/
def keptCard : Claim7 := { stood := { row := keptRow, standIns := [], harness := (true, "2736e1f697c0b78e7efed1c853d0741618a22f2b2f5bd9af351f4d179a2ad871"), looks := false }, kinds := [], alts := [], goes := true, laidByText := true, laidKinds := [.data, .data, .data, .data, .pinned, .pinned], laidTests := true, laidLooks := .later }
def KeptCardSaid : Prop := Claim7.holds Tryz.pinned (.plain (OpenSpec.ofChange keptSpec)) keptCard

/-- THE TIED CARD OF 'vaultkeep.Headed'. -/
def headedCard : Claim7 := { stood := { row := headedRow, standIns := [], harness := (true, "2736e1f697c0b78e7efed1c853d0741618a22f2b2f5bd9af351f4d179a2ad871"), looks := false }, kinds := [], alts := [], goes := true, laidByText := true, laidKinds := [.data, .data, .data, .data, .pinned, .pinned], laidTests := true, laidLooks := .later }
def HeadedCardSaid : Prop := Claim7.holds Tryz.pinned (.plain (OpenSpec.ofChange headedSpec)) headedCard

/-- THE TIED CARD OF 'vaultkeep.Listed'. -/
def listedCard : Claim7 := { stood := { row := listedRow, standIns := [], harness := (true, "2736e1f697c0b78e7efed1c853d0741618a22f2b2f5bd9af351f4d179a2ad871"), looks := false }, kinds := [], alts := [], goes := true, laidByText := true, laidKinds := [.data, .data, .data, .data, .pinned, .pinned], laidTests := true, laidLooks := .later }
def ListedCardSaid : Prop := Claim7.holds Tryz.pinned (.plain (OpenSpec.ofChange listedSpec)) listedCard
end Rows
end Go.Proofs.YtmehkneofinmiaaGreatDoor
