/-
  DERIVED. GIVEN WITH THE SEED: THE CARDS: each row of YtgpcebjcleljkaaGreatDoorRows.lean that lists a variable, with what it lists TIED to the program's text (the seventh form; the later family's looks); each row that meets fmt, with fmt's text TOLD by the authors' own Lean function (tested against real Go, not proved from fmt's source: count such statements apart). THE CARD IS WHAT COUNTS. Prove the row's statement (the work); the ties are given (YtgpcebjcleljkaaGreatDoorTie.lean); close each card by the builder's one call (the guide's Derived/Test/ToyasCard.lean, 'card_holds'). Laid BY PROGRAM, IN A SANDBOX (cutbox-door.mjs). By AI agents, Wed Nov 11 2026. No macro, syntax, notation, axiom, sorry.
-/
import Derived.Test.YtgpcebjcleljkaaGreatDoorRows
import GoSem.ClaimSeven
namespace Go.Proofs.YtgpcebjcleljkaaGreatDoor
namespace Rows

/-- THE TIED CARD OF 'tenorlaw2.TextInts'. -/
def textIntsCard : Claim7 := { stood := { row := textIntsRow, standIns := [], harness := (true, "b18338817154eeedb7d3cea44d216b8347857edbc7fd4bf5f1b97dc324e28609"), looks := true }, kinds := [], alts := [], laidByText := true, laidKinds := [.data, .data, .widerDeep, .widerDeep, .data, .data, .data, .data, .data, .data, .sentinel, .sentinel, .pinned, .pinned, .pinned], laidTests := true, laidLooks := .later }
def TextIntsCardSaid : Prop := Claim7.holds Tryz.pinned (.plain (OpenSpec.ofChange textIntsSpec)) textIntsCard

/-- THE SECOND FORM's CARD OF 'tenorlaw2.TextInts'. -/
def textIntsUptoCard : Claim7 := { stood := { row := textIntsUptoRow, standIns := [], harness := (true, "b18338817154eeedb7d3cea44d216b8347857edbc7fd4bf5f1b97dc324e28609"), looks := true }, kinds := [], alts := [], laidByText := true, laidKinds := [.data, .data, .widerDeep, .widerDeep, .data, .data, .data, .data, .data, .data, .sentinel, .sentinel, .pinned, .pinned, .pinned], laidTests := true, laidLooks := .later }
def TextIntsUptoCardSaid : Prop := Claim7.holds Tryz.pinned (.plain (OpenSpec.upto textIntsSpec)) textIntsUptoCard
end Rows
end Go.Proofs.YtgpcebjcleljkaaGreatDoor
