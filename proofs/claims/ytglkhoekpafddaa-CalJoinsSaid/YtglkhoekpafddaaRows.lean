/-
  No cell of these rows narrows 'for every input' (looked for: loops, veiled, ifaces, maps, wideKeys, modest, calm, conditions, laid).
  DERIVED. THE GIVEN ROWS OF THIS SEAT. 6 by the template 'for every input the law returns true; each argument reads behind the call as it read before'; 0 by the template 'total and deterministic' (their statements: YtglkhoekpafddaaTotals.lean).
  GIVEN WITH THE SEED: the statements are not yours to turn. If you find one false, say at which input.
  Laid BY PROGRAM, IN A SANDBOX (cutbox-rows.mjs): the forced cells as the released guide's own fill.sh prints them over the translation 554624da754a5dd0… (all of the seat's roots in one cut). By AI agents, Wed Nov 11 2026. No macro, syntax, notation, axiom, sorry.
-/
import Derived.Test.YtglkhoekpafddaaChecked
import GoSem.Claim
import GoSem.ClaimJoined
import GoSem.ClaimMapViews
import Derived.JoinedTies
import Derived.KernelRfl
namespace Go.Proofs.Ytglkhoekpafddaa
/- THE CELL 'sum', in the pinned program and in every row, IS THE sha256 OF THE DUMP (.gsa) THAT YtglkhoekpafddaaProg.lean LOADS. Nothing in Lean hashes anything: it is a label: what it is worth is what the hold of that sum in a sandbox is worth. -/
noncomputable def Try.pinned : Pinned := { name := "ytglkhoekpafddaa", sum := "554624da754a5dd0bbefb3a27d83f08c9d8f37f8befc36670aed3af73d499806", checked := Try.checked }
namespace Rows
def none {H : Type} : Left H := { results := [], args := [] }

/-- 'tenorlaw6.CalChecks': WHATEVER THE INPUT: true; the input reads as it did. -/
def calChecksSpec : ChangeSpec := { name := "calChecks", fn := fun _ => fun
  | [d1, d2, d3] => { results := [.lit (.bool true)], args := [d1, d2, d3] }
  | _ => none }
def calChecksRow : OpenClaim := { program := "ytglkhoekpafddaa", sum := "554624da754a5dd0bbefb3a27d83f08c9d8f37f8befc36670aed3af73d499806", func := "tenor/tenorlaw6.CalChecks", spec := "calChecks", unfollowed := true, recurses := true, apart := false }
def CalChecksSaid : Prop := calChecksRow.holds Try.pinned (OpenSpec.ofChange calChecksSpec)

/-- ITS FALSE NEIGHBOUR: 'it returns false'. Refute it at one input. -/
def calChecksWrong : ChangeSpec := { name := "calChecks", fn := fun _ => fun
  | [d1, d2, d3] => { results := [.lit (.bool false)], args := [d1, d2, d3] }
  | _ => none }
def CalChecksWrongFalsely : Prop := calChecksRow.holds Try.pinned (OpenSpec.ofChange calChecksWrong)

/-- 'tenorlaw6.CalDays': WHATEVER THE INPUT: true; the input reads as it did. -/
def calDaysSpec : ChangeSpec := { name := "calDays", fn := fun _ => fun
  | [d1, d2] => { results := [.lit (.bool true)], args := [d1, d2] }
  | _ => none }
def calDaysRow : OpenClaim := { program := "ytglkhoekpafddaa", sum := "554624da754a5dd0bbefb3a27d83f08c9d8f37f8befc36670aed3af73d499806", func := "tenor/tenorlaw6.CalDays", spec := "calDays", unfollowed := true, recurses := true, apart := false }
def CalDaysSaid : Prop := calDaysRow.holds Try.pinned (OpenSpec.ofChange calDaysSpec)

/-- ITS FALSE NEIGHBOUR: 'it returns false'. Refute it at one input. -/
def calDaysWrong : ChangeSpec := { name := "calDays", fn := fun _ => fun
  | [d1, d2] => { results := [.lit (.bool false)], args := [d1, d2] }
  | _ => none }
def CalDaysWrongFalsely : Prop := calDaysRow.holds Try.pinned (OpenSpec.ofChange calDaysWrong)

/-- 'tenorlaw6.CalMoves': WHATEVER THE INPUT: true; the input reads as it did. -/
def calMovesSpec : ChangeSpec := { name := "calMoves", fn := fun _ => fun
  | [d1, d2, d3] => { results := [.lit (.bool true)], args := [d1, d2, d3] }
  | _ => none }
def calMovesRow : OpenClaim := { program := "ytglkhoekpafddaa", sum := "554624da754a5dd0bbefb3a27d83f08c9d8f37f8befc36670aed3af73d499806", func := "tenor/tenorlaw6.CalMoves", spec := "calMoves", unfollowed := true, recurses := true, apart := false }
def CalMovesSaid : Prop := calMovesRow.holds Try.pinned (OpenSpec.ofChange calMovesSpec)

/-- ITS FALSE NEIGHBOUR: 'it returns false'. Refute it at one input. -/
def calMovesWrong : ChangeSpec := { name := "calMoves", fn := fun _ => fun
  | [d1, d2, d3] => { results := [.lit (.bool false)], args := [d1, d2, d3] }
  | _ => none }
def CalMovesWrongFalsely : Prop := calMovesRow.holds Try.pinned (OpenSpec.ofChange calMovesWrong)

/-- 'tenorlaw6.CalAdds': WHATEVER THE INPUT: true; the input reads as it did. -/
def calAddsSpec : ChangeSpec := { name := "calAdds", fn := fun _ => fun
  | [d1, d2, d3] => { results := [.lit (.bool true)], args := [d1, d2, d3] }
  | _ => none }
def calAddsRow : OpenClaim := { program := "ytglkhoekpafddaa", sum := "554624da754a5dd0bbefb3a27d83f08c9d8f37f8befc36670aed3af73d499806", func := "tenor/tenorlaw6.CalAdds", spec := "calAdds", unfollowed := true, recurses := true, apart := false }
def CalAddsSaid : Prop := calAddsRow.holds Try.pinned (OpenSpec.ofChange calAddsSpec)

/-- ITS FALSE NEIGHBOUR: 'it returns false'. Refute it at one input. -/
def calAddsWrong : ChangeSpec := { name := "calAdds", fn := fun _ => fun
  | [d1, d2, d3] => { results := [.lit (.bool false)], args := [d1, d2, d3] }
  | _ => none }
def CalAddsWrongFalsely : Prop := calAddsRow.holds Try.pinned (OpenSpec.ofChange calAddsWrong)

/-- 'tenorlaw6.CalCounts': WHATEVER THE INPUT: true; the input reads as it did. -/
def calCountsSpec : ChangeSpec := { name := "calCounts", fn := fun _ => fun
  | [d1, d2, d3] => { results := [.lit (.bool true)], args := [d1, d2, d3] }
  | _ => none }
def calCountsRow : OpenClaim := { program := "ytglkhoekpafddaa", sum := "554624da754a5dd0bbefb3a27d83f08c9d8f37f8befc36670aed3af73d499806", func := "tenor/tenorlaw6.CalCounts", spec := "calCounts", unfollowed := true, recurses := true, apart := false }
def CalCountsSaid : Prop := calCountsRow.holds Try.pinned (OpenSpec.ofChange calCountsSpec)

/-- ITS FALSE NEIGHBOUR: 'it returns false'. Refute it at one input. -/
def calCountsWrong : ChangeSpec := { name := "calCounts", fn := fun _ => fun
  | [d1, d2, d3] => { results := [.lit (.bool false)], args := [d1, d2, d3] }
  | _ => none }
def CalCountsWrongFalsely : Prop := calCountsRow.holds Try.pinned (OpenSpec.ofChange calCountsWrong)

/-- 'tenorlaw6.CalJoins': WHATEVER THE INPUT: true; the input reads as it did. -/
def calJoinsSpec : ChangeSpec := { name := "calJoins", fn := fun _ => fun
  | [d1, d2] => { results := [.lit (.bool true)], args := [d1, d2] }
  | _ => none }
def calJoinsRow : OpenClaim := { program := "ytglkhoekpafddaa", sum := "554624da754a5dd0bbefb3a27d83f08c9d8f37f8befc36670aed3af73d499806", func := "tenor/tenorlaw6.CalJoins", spec := "calJoins", unfollowed := true, recurses := true, apart := false }
def CalJoinsSaid : Prop := calJoinsRow.holds Try.pinned (OpenSpec.ofChange calJoinsSpec)

/-- ITS FALSE NEIGHBOUR: 'it returns false'. Refute it at one input. -/
def calJoinsWrong : ChangeSpec := { name := "calJoins", fn := fun _ => fun
  | [d1, d2] => { results := [.lit (.bool false)], args := [d1, d2] }
  | _ => none }
def CalJoinsWrongFalsely : Prop := calJoinsRow.holds Try.pinned (OpenSpec.ofChange calJoinsWrong)

/- THE SECOND FORM. 'bulk': how many values and letters a reading holds, each counted each time it is reached (what is shared counts as often as it is met; a slice's spare places count too). A statement '..UptoSaid' is the law's where the arguments, and the package variables that the reading takes, are together of bulk at most 1048576: NARROWER than '..Said'. Prove '..Said' where nothing that the law and all that it calls make is longer than what came in: it says more and counts as full. Else prove '..UptoSaid'. A law counts once. -/
mutual
def uptoBulk {H : Type} : DataW H → Nat
  | .lit (.string bytes) => bytes.length + 1
  | .lit _ => 1
  | .nil => 1
  | .ptr d => uptoBulk d + 1
  | .slice elems spare => uptoBulkAll elems + uptoBulkAll spare + 1
  | .agg parts => uptoBulkAll parts + 1
  | .iface _ d => uptoBulk d + 1
  | .map entries => uptoBulkEntries entries + 1
  | .held _ => 1
def uptoBulkAll {H : Type} : List (DataW H) → Nat
  | [] => 0
  | d :: r => uptoBulk d + uptoBulkAll r
def uptoBulkEntries {H : Type} : List (Lit × DataW H) → Nat
  | [] => 0
  | x :: r => uptoBulkEntry x + uptoBulkEntries r
def uptoBulkEntry {H : Type} : Lit × DataW H → Nat
  | (.string bytes, d) => bytes.length + uptoBulk d + 1
  | (_, d) => uptoBulk d + 1
 end
def uptoSmall : (H : Type) → List (DataW H) → Bool := fun _ ds => decide (uptoBulkAll ds ≤ 1048576)
def OpenSpec.upto (s : _root_.Go.ChangeSpec) : _root_.Go.OpenSpec := { _root_.Go.OpenSpec.ofChange s with cond := some uptoSmall }

/-- 'tenorlaw6.CalChecks', WHERE WHAT IT READS IS OF BULK AT MOST 1048576: true; the input reads as it did. -/
def calChecksUptoRow : OpenClaim := { program := "ytglkhoekpafddaa", sum := "554624da754a5dd0bbefb3a27d83f08c9d8f37f8befc36670aed3af73d499806", func := "tenor/tenorlaw6.CalChecks", spec := "calChecks", unfollowed := true, recurses := true, apart := false, narrowed := true }
def CalChecksUptoSaid : Prop := calChecksUptoRow.holds Try.pinned (OpenSpec.upto calChecksSpec)

/-- 'tenorlaw6.CalDays', WHERE WHAT IT READS IS OF BULK AT MOST 1048576: true; the input reads as it did. -/
def calDaysUptoRow : OpenClaim := { program := "ytglkhoekpafddaa", sum := "554624da754a5dd0bbefb3a27d83f08c9d8f37f8befc36670aed3af73d499806", func := "tenor/tenorlaw6.CalDays", spec := "calDays", unfollowed := true, recurses := true, apart := false, narrowed := true }
def CalDaysUptoSaid : Prop := calDaysUptoRow.holds Try.pinned (OpenSpec.upto calDaysSpec)

/-- 'tenorlaw6.CalMoves', WHERE WHAT IT READS IS OF BULK AT MOST 1048576: true; the input reads as it did. -/
def calMovesUptoRow : OpenClaim := { program := "ytglkhoekpafddaa", sum := "554624da754a5dd0bbefb3a27d83f08c9d8f37f8befc36670aed3af73d499806", func := "tenor/tenorlaw6.CalMoves", spec := "calMoves", unfollowed := true, recurses := true, apart := false, narrowed := true }
def CalMovesUptoSaid : Prop := calMovesUptoRow.holds Try.pinned (OpenSpec.upto calMovesSpec)

/-- 'tenorlaw6.CalAdds', WHERE WHAT IT READS IS OF BULK AT MOST 1048576: true; the input reads as it did. -/
def calAddsUptoRow : OpenClaim := { program := "ytglkhoekpafddaa", sum := "554624da754a5dd0bbefb3a27d83f08c9d8f37f8befc36670aed3af73d499806", func := "tenor/tenorlaw6.CalAdds", spec := "calAdds", unfollowed := true, recurses := true, apart := false, narrowed := true }
def CalAddsUptoSaid : Prop := calAddsUptoRow.holds Try.pinned (OpenSpec.upto calAddsSpec)

/-- 'tenorlaw6.CalCounts', WHERE WHAT IT READS IS OF BULK AT MOST 1048576: true; the input reads as it did. -/
def calCountsUptoRow : OpenClaim := { program := "ytglkhoekpafddaa", sum := "554624da754a5dd0bbefb3a27d83f08c9d8f37f8befc36670aed3af73d499806", func := "tenor/tenorlaw6.CalCounts", spec := "calCounts", unfollowed := true, recurses := true, apart := false, narrowed := true }
def CalCountsUptoSaid : Prop := calCountsUptoRow.holds Try.pinned (OpenSpec.upto calCountsSpec)

/-- 'tenorlaw6.CalJoins', WHERE WHAT IT READS IS OF BULK AT MOST 1048576: true; the input reads as it did. -/
def calJoinsUptoRow : OpenClaim := { program := "ytglkhoekpafddaa", sum := "554624da754a5dd0bbefb3a27d83f08c9d8f37f8befc36670aed3af73d499806", func := "tenor/tenorlaw6.CalJoins", spec := "calJoins", unfollowed := true, recurses := true, apart := false, narrowed := true }
def CalJoinsUptoSaid : Prop := calJoinsUptoRow.holds Try.pinned (OpenSpec.upto calJoinsSpec)

end Rows
end Go.Proofs.Ytglkhoekpafddaa
