/-
  DERIVED. GIVEN WITH THE SEED: THE CARDS: each row of YtienedhaogjahaaGreatDoorRows.lean that lists a variable, with what it lists TIED to the program's text (the seventh form; the later family's looks); each row that meets fmt, with fmt's text TOLD by the authors' own Lean function (tested against real Go, not proved from fmt's source: count such statements apart). THE CARD IS WHAT COUNTS. Prove the row's statement (the work); the ties are given (YtienedhaogjahaaGreatDoorTie.lean); close each card by the builder's one call (the guide's Derived/Test/ToyasCard.lean, 'card_holds'). Laid BY PROGRAM, IN A SANDBOX (cutbox-door.mjs). By AI agents, Wed Nov 11 2026. No macro, syntax, notation, axiom, sorry.
-/
import Derived.Test.YtienedhaogjahaaGreatDoorRows
import GoSem.ClaimSeven
namespace Go.Proofs.YtienedhaogjahaaGreatDoor
namespace Rows

/-- THE TIED CARD OF 'tenorlaw18.CodeCompiles'. -/
def codeCompilesCard : Claim7 := { stood := { row := codeCompilesRow, standIns := [], harness := (true, "861087ab6c4fca8481e97efd7b778a8a1438ab10ed3b134f7f3666fe5c26584b"), looks := true }, kinds := [], alts := [], laidByText := true, laidKinds := [.data, .data, .widerDeep, .widerDeep, .data, .data, .data, .data, .data, .data, .sentinel, .sentinel, .pinned, .pinned, .pinned], laidTests := true, laidLooks := .later }
def CodeCompilesCardSaid : Prop := Claim7.holds Tryz.pinned (.plain (OpenSpec.ofChange codeCompilesSpec)) codeCompilesCard

/-- THE TIED CARD OF 'tenorlaw18.CodeBacks'. -/
def codeBacksCard : Claim7 := { stood := { row := codeBacksRow, standIns := [], harness := (true, "861087ab6c4fca8481e97efd7b778a8a1438ab10ed3b134f7f3666fe5c26584b"), looks := true }, kinds := [], alts := [], laidByText := true, laidKinds := [.data, .data, .widerDeep, .widerDeep, .data, .data, .data, .data, .data, .data, .sentinel, .sentinel, .pinned, .pinned, .pinned], laidTests := true, laidLooks := .later }
def CodeBacksCardSaid : Prop := Claim7.holds Tryz.pinned (.plain (OpenSpec.ofChange codeBacksSpec)) codeBacksCard

/-- THE TIED CARD OF 'tenorlaw18.CodeRound'. -/
def codeRoundCard : Claim7 := { stood := { row := codeRoundRow, standIns := [], harness := (true, "861087ab6c4fca8481e97efd7b778a8a1438ab10ed3b134f7f3666fe5c26584b"), looks := true }, kinds := [], alts := [], laidByText := true, laidKinds := [.data, .data, .widerDeep, .widerDeep, .data, .data, .data, .data, .data, .data, .sentinel, .sentinel, .pinned, .pinned, .pinned], laidTests := true, laidLooks := .later }
def CodeRoundCardSaid : Prop := Claim7.holds Tryz.pinned (.plain (OpenSpec.ofChange codeRoundSpec)) codeRoundCard

/-- THE TIED CARD OF 'tenorlaw18.CodeLent'. -/
def codeLentCard : Claim7 := { stood := { row := codeLentRow, standIns := [], harness := (true, "861087ab6c4fca8481e97efd7b778a8a1438ab10ed3b134f7f3666fe5c26584b"), looks := true }, kinds := [], alts := [], laidByText := true, laidKinds := [.data, .data, .widerDeep, .widerDeep, .data, .data, .data, .data, .data, .data, .sentinel, .sentinel, .pinned, .pinned, .pinned], laidTests := true, laidLooks := .later }
def CodeLentCardSaid : Prop := Claim7.holds Tryz.pinned (.plain (OpenSpec.ofChange codeLentSpec)) codeLentCard

/-- THE SECOND FORM's CARD OF 'tenorlaw18.CodeCompiles'. -/
def codeCompilesUptoCard : Claim7 := { stood := { row := codeCompilesUptoRow, standIns := [], harness := (true, "861087ab6c4fca8481e97efd7b778a8a1438ab10ed3b134f7f3666fe5c26584b"), looks := true }, kinds := [], alts := [], laidByText := true, laidKinds := [.data, .data, .widerDeep, .widerDeep, .data, .data, .data, .data, .data, .data, .sentinel, .sentinel, .pinned, .pinned, .pinned], laidTests := true, laidLooks := .later }
def CodeCompilesUptoCardSaid : Prop := Claim7.holds Tryz.pinned (.plain (OpenSpec.upto codeCompilesSpec)) codeCompilesUptoCard

/-- THE SECOND FORM's CARD OF 'tenorlaw18.CodeBacks'. -/
def codeBacksUptoCard : Claim7 := { stood := { row := codeBacksUptoRow, standIns := [], harness := (true, "861087ab6c4fca8481e97efd7b778a8a1438ab10ed3b134f7f3666fe5c26584b"), looks := true }, kinds := [], alts := [], laidByText := true, laidKinds := [.data, .data, .widerDeep, .widerDeep, .data, .data, .data, .data, .data, .data, .sentinel, .sentinel, .pinned, .pinned, .pinned], laidTests := true, laidLooks := .later }
def CodeBacksUptoCardSaid : Prop := Claim7.holds Tryz.pinned (.plain (OpenSpec.upto codeBacksSpec)) codeBacksUptoCard

/-- THE SECOND FORM's CARD OF 'tenorlaw18.CodeRound'. -/
def codeRoundUptoCard : Claim7 := { stood := { row := codeRoundUptoRow, standIns := [], harness := (true, "861087ab6c4fca8481e97efd7b778a8a1438ab10ed3b134f7f3666fe5c26584b"), looks := true }, kinds := [], alts := [], laidByText := true, laidKinds := [.data, .data, .widerDeep, .widerDeep, .data, .data, .data, .data, .data, .data, .sentinel, .sentinel, .pinned, .pinned, .pinned], laidTests := true, laidLooks := .later }
def CodeRoundUptoCardSaid : Prop := Claim7.holds Tryz.pinned (.plain (OpenSpec.upto codeRoundSpec)) codeRoundUptoCard

/-- THE SECOND FORM's CARD OF 'tenorlaw18.CodeLent'. -/
def codeLentUptoCard : Claim7 := { stood := { row := codeLentUptoRow, standIns := [], harness := (true, "861087ab6c4fca8481e97efd7b778a8a1438ab10ed3b134f7f3666fe5c26584b"), looks := true }, kinds := [], alts := [], laidByText := true, laidKinds := [.data, .data, .widerDeep, .widerDeep, .data, .data, .data, .data, .data, .data, .sentinel, .sentinel, .pinned, .pinned, .pinned], laidTests := true, laidLooks := .later }
def CodeLentUptoCardSaid : Prop := Claim7.holds Tryz.pinned (.plain (OpenSpec.upto codeLentSpec)) codeLentUptoCard
end Rows
end Go.Proofs.YtienedhaogjahaaGreatDoor
