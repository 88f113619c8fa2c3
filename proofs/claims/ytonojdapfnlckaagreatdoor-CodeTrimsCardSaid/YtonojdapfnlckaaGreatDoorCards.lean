/-
  DERIVED. GIVEN WITH THE SEED: THE CARDS: each row of YtonojdapfnlckaaGreatDoorRows.lean that lists a variable, with what it lists TIED to the program's text (the seventh form; the later family's looks); each row that meets fmt, with fmt's text TOLD by the authors' own Lean function (tested against real Go, not proved from fmt's source: count such statements apart). THE CARD IS WHAT COUNTS. Prove the row's statement (the work); the ties are given (YtonojdapfnlckaaGreatDoorTie.lean); close each card by the builder's one call (the guide's Derived/Test/ToyasCard.lean, 'card_holds'). Laid BY PROGRAM, IN A SANDBOX (cutbox-door.mjs). By AI agents, Wed Nov 11 2026. No macro, syntax, notation, axiom, sorry.
-/
import Derived.Test.YtonojdapfnlckaaGreatDoorRows
import GoSem.ClaimSeven
namespace Go.Proofs.YtonojdapfnlckaaGreatDoor
namespace Rows

/-- THE TIED CARD OF 'tenorlaw18.CodeTrims'. -/
def codeTrimsCard : Claim7 := { stood := { row := codeTrimsRow, standIns := [], harness := (true, "bc769b8c72dee009e624396d687dc5e70a1bb2342c1ef53f963aa6d11a9747a6"), looks := true }, kinds := [], alts := [], laidByText := true, laidKinds := [.data, .data, .widerDeep, .widerDeep, .data, .data, .data, .data, .data, .data, .sentinel, .sentinel, .pinned, .pinned, .pinned], laidTests := true, laidLooks := .later }
def CodeTrimsCardSaid : Prop := Claim7.holds Tryz.pinned (.plain (OpenSpec.ofChange codeTrimsSpec)) codeTrimsCard

/-- THE TIED CARD OF 'tenorlaw18.CodeLeast'. -/
def codeLeastCard : Claim7 := { stood := { row := codeLeastRow, standIns := [], harness := (true, "bc769b8c72dee009e624396d687dc5e70a1bb2342c1ef53f963aa6d11a9747a6"), looks := true }, kinds := [], alts := [], laidByText := true, laidKinds := [.data, .data, .widerDeep, .widerDeep, .data, .data, .data, .data, .data, .data, .sentinel, .sentinel, .pinned, .pinned, .pinned], laidTests := true, laidLooks := .later }
def CodeLeastCardSaid : Prop := Claim7.holds Tryz.pinned (.plain (OpenSpec.ofChange codeLeastSpec)) codeLeastCard

/-- THE SECOND FORM's CARD OF 'tenorlaw18.CodeTrims'. -/
def codeTrimsUptoCard : Claim7 := { stood := { row := codeTrimsUptoRow, standIns := [], harness := (true, "bc769b8c72dee009e624396d687dc5e70a1bb2342c1ef53f963aa6d11a9747a6"), looks := true }, kinds := [], alts := [], laidByText := true, laidKinds := [.data, .data, .widerDeep, .widerDeep, .data, .data, .data, .data, .data, .data, .sentinel, .sentinel, .pinned, .pinned, .pinned], laidTests := true, laidLooks := .later }
def CodeTrimsUptoCardSaid : Prop := Claim7.holds Tryz.pinned (.plain (OpenSpec.upto codeTrimsSpec)) codeTrimsUptoCard

/-- THE SECOND FORM's CARD OF 'tenorlaw18.CodeLeast'. -/
def codeLeastUptoCard : Claim7 := { stood := { row := codeLeastUptoRow, standIns := [], harness := (true, "bc769b8c72dee009e624396d687dc5e70a1bb2342c1ef53f963aa6d11a9747a6"), looks := true }, kinds := [], alts := [], laidByText := true, laidKinds := [.data, .data, .widerDeep, .widerDeep, .data, .data, .data, .data, .data, .data, .sentinel, .sentinel, .pinned, .pinned, .pinned], laidTests := true, laidLooks := .later }
def CodeLeastUptoCardSaid : Prop := Claim7.holds Tryz.pinned (.plain (OpenSpec.upto codeLeastSpec)) codeLeastUptoCard
end Rows
end Go.Proofs.YtonojdapfnlckaaGreatDoor
