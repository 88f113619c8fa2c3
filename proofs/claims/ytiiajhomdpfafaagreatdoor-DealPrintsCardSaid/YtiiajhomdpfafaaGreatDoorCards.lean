/-
  DERIVED. GIVEN WITH THE SEED: THE CARDS: each row of YtiiajhomdpfafaaGreatDoorRows.lean that lists a variable, with what it lists TIED to the program's text (the seventh form; the later family's looks); each row that meets fmt, with fmt's text TOLD by the authors' own Lean function (tested against real Go, not proved from fmt's source: count such statements apart). THE CARD IS WHAT COUNTS. Prove the row's statement (the work); the ties are given (YtiiajhomdpfafaaGreatDoorTie.lean); close each card by the builder's one call (the guide's Derived/Test/ToyasCard.lean, 'card_holds'). Laid BY PROGRAM, IN A SANDBOX (cutbox-door.mjs). By AI agents, Wed Nov 11 2026. No macro, syntax, notation, axiom, sorry.
-/
import Derived.Test.YtiiajhomdpfafaaGreatDoorRows
import GoSem.ClaimSeven
namespace Go.Proofs.YtiiajhomdpfafaaGreatDoor
namespace Rows

/-- THE TIED CARD OF 'tenorlaw17.DealChecks'. -/
def dealChecksCard : Claim7 := { stood := { row := dealChecksRow, standIns := [], harness := (true, "2620ee27e935efb6675557e12ae42f99adfbb7446c19a2a1886cd83f9249f2bc"), looks := true }, kinds := [], alts := [], laidByText := true, laidKinds := [.data, .data, .widerDeep, .widerDeep, .data, .data, .data, .data, .data, .data, .sentinel, .sentinel, .pinned, .pinned, .pinned], laidTests := true, laidLooks := .later }
def DealChecksCardSaid : Prop := Claim7.holds Tryz.pinned (.plain (OpenSpec.ofChange dealChecksSpec)) dealChecksCard

/-- THE TIED CARD OF 'tenorlaw17.DealPrints'. -/
def dealPrintsCard : Claim7 := { stood := { row := dealPrintsRow, standIns := [], harness := (true, "2620ee27e935efb6675557e12ae42f99adfbb7446c19a2a1886cd83f9249f2bc"), looks := true }, kinds := [], alts := [], laidByText := true, laidKinds := [.data, .data, .widerDeep, .widerDeep, .data, .data, .data, .data, .data, .data, .sentinel, .sentinel, .pinned, .pinned, .pinned], laidTests := true, laidLooks := .later }
def DealPrintsCardSaid : Prop := Claim7.holds Tryz.pinned (.plain (OpenSpec.ofChange dealPrintsSpec)) dealPrintsCard

/-- THE SECOND FORM's CARD OF 'tenorlaw17.DealChecks'. -/
def dealChecksUptoCard : Claim7 := { stood := { row := dealChecksUptoRow, standIns := [], harness := (true, "2620ee27e935efb6675557e12ae42f99adfbb7446c19a2a1886cd83f9249f2bc"), looks := true }, kinds := [], alts := [], laidByText := true, laidKinds := [.data, .data, .widerDeep, .widerDeep, .data, .data, .data, .data, .data, .data, .sentinel, .sentinel, .pinned, .pinned, .pinned], laidTests := true, laidLooks := .later }
def DealChecksUptoCardSaid : Prop := Claim7.holds Tryz.pinned (.plain (OpenSpec.upto dealChecksSpec)) dealChecksUptoCard

/-- THE SECOND FORM's CARD OF 'tenorlaw17.DealPrints'. -/
def dealPrintsUptoCard : Claim7 := { stood := { row := dealPrintsUptoRow, standIns := [], harness := (true, "2620ee27e935efb6675557e12ae42f99adfbb7446c19a2a1886cd83f9249f2bc"), looks := true }, kinds := [], alts := [], laidByText := true, laidKinds := [.data, .data, .widerDeep, .widerDeep, .data, .data, .data, .data, .data, .data, .sentinel, .sentinel, .pinned, .pinned, .pinned], laidTests := true, laidLooks := .later }
def DealPrintsUptoCardSaid : Prop := Claim7.holds Tryz.pinned (.plain (OpenSpec.upto dealPrintsSpec)) dealPrintsUptoCard
end Rows
end Go.Proofs.YtiiajhomdpfafaaGreatDoor
