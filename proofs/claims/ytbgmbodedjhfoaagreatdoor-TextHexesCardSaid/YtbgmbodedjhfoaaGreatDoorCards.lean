/-
  DERIVED. GIVEN WITH THE SEED: THE CARDS: each row of YtbgmbodedjhfoaaGreatDoorRows.lean that lists a variable, with what it lists TIED to the program's text (the seventh form; the later family's looks); each row that meets fmt, with fmt's text TOLD by the authors' own Lean function (tested against real Go, not proved from fmt's source: count such statements apart). THE CARD IS WHAT COUNTS. Prove the row's statement (the work); the ties are given (YtbgmbodedjhfoaaGreatDoorTie.lean); close each card by the builder's one call (the guide's Derived/Test/ToyasCard.lean, 'card_holds'). Laid BY PROGRAM, IN A SANDBOX (cutbox-door.mjs). By AI agents, Wed Nov 11 2026. No macro, syntax, notation, axiom, sorry.
-/
import Derived.Test.YtbgmbodedjhfoaaGreatDoorRows
import GoSem.ClaimSeven
namespace Go.Proofs.YtbgmbodedjhfoaaGreatDoor
namespace Rows

/-- THE TIED CARD OF 'tenorlaw2.TextHexes'. -/
def textHexesCard : Claim7 := { stood := { row := textHexesRow, standIns := [], harness := (true, "7a23e2edc8e98fbdf2f78d89658c570cfebf8f45f0ef3f41eba09aed95a4f822"), looks := true }, kinds := [], alts := [], laidByText := true, laidKinds := [.data, .data, .widerDeep, .widerDeep, .data, .data, .data, .data, .data, .data, .sentinel, .sentinel, .pinned, .pinned, .pinned], laidTests := true, laidLooks := .later }
def TextHexesCardSaid : Prop := Claim7.holds Tryz.pinned (.plain (OpenSpec.ofChange textHexesSpec)) textHexesCard

/-- THE TIED CARD OF 'tenorlaw2.TextBack'. -/
def textBackCard : Claim7 := { stood := { row := textBackRow, standIns := [], harness := (true, "7a23e2edc8e98fbdf2f78d89658c570cfebf8f45f0ef3f41eba09aed95a4f822"), looks := true }, kinds := [], alts := [], laidByText := true, laidKinds := [.data, .data, .widerDeep, .widerDeep, .data, .data, .data, .data, .data, .data, .sentinel, .sentinel, .pinned, .pinned, .pinned], laidTests := true, laidLooks := .later }
def TextBackCardSaid : Prop := Claim7.holds Tryz.pinned (.plain (OpenSpec.ofChange textBackSpec)) textBackCard

/-- THE SECOND FORM's CARD OF 'tenorlaw2.TextHexes'. -/
def textHexesUptoCard : Claim7 := { stood := { row := textHexesUptoRow, standIns := [], harness := (true, "7a23e2edc8e98fbdf2f78d89658c570cfebf8f45f0ef3f41eba09aed95a4f822"), looks := true }, kinds := [], alts := [], laidByText := true, laidKinds := [.data, .data, .widerDeep, .widerDeep, .data, .data, .data, .data, .data, .data, .sentinel, .sentinel, .pinned, .pinned, .pinned], laidTests := true, laidLooks := .later }
def TextHexesUptoCardSaid : Prop := Claim7.holds Tryz.pinned (.plain (OpenSpec.upto textHexesSpec)) textHexesUptoCard

/-- THE SECOND FORM's CARD OF 'tenorlaw2.TextBack'. -/
def textBackUptoCard : Claim7 := { stood := { row := textBackUptoRow, standIns := [], harness := (true, "7a23e2edc8e98fbdf2f78d89658c570cfebf8f45f0ef3f41eba09aed95a4f822"), looks := true }, kinds := [], alts := [], laidByText := true, laidKinds := [.data, .data, .widerDeep, .widerDeep, .data, .data, .data, .data, .data, .data, .sentinel, .sentinel, .pinned, .pinned, .pinned], laidTests := true, laidLooks := .later }
def TextBackUptoCardSaid : Prop := Claim7.holds Tryz.pinned (.plain (OpenSpec.upto textBackSpec)) textBackUptoCard
end Rows
end Go.Proofs.YtbgmbodedjhfoaaGreatDoor
