/-
  No cell of these rows narrows 'for every input' (looked for: loops, veiled, ifaces, maps, wideKeys, modest, calm, conditions, laid).
  DERIVED. THE GIVEN ROWS OF THIS SEAT. 4 by the template 'for every input the law returns true; each argument reads behind the call as it read before'; 0 by the template 'total and deterministic' (their statements: YtgigmepilpfefaaTotals.lean).
  GIVEN WITH THE SEED: the statements are not yours to turn. If you find one false, say at which input.
  Laid BY PROGRAM, IN A SANDBOX (cutbox-rows.mjs): the forced cells as the released guide's own fill.sh prints them over the translation 670453dd22eab777… (all of the seat's roots in one cut). By AI agents, Wed Nov 11 2026. No macro, syntax, notation, axiom, sorry.
-/
import Derived.Test.YtgigmepilpfefaaChecked
import GoSem.Claim
import GoSem.ClaimJoined
import GoSem.ClaimMapViews
import Derived.JoinedTies
import Derived.KernelRfl
namespace Go.Proofs.Ytgigmepilpfefaa
/- THE CELL 'sum', in the pinned program and in every row, IS THE sha256 OF THE DUMP (.gsa) THAT YtgigmepilpfefaaProg.lean LOADS. Nothing in Lean hashes anything: it is a label: what it is worth is what the hold of that sum in a sandbox is worth. -/
noncomputable def Try.pinned : Pinned := { name := "ytgigmepilpfefaa", sum := "670453dd22eab77750ec57c29f0981c11c9a8b5e95f8e419b9ee043555c43530", checked := Try.checked }
namespace Rows
def none {H : Type} : Left H := { results := [], args := [] }

/-- 'tenorlaw5.DateCivil': WHATEVER THE INPUT: true; the input reads as it did. -/
def dateCivilSpec : ChangeSpec := { name := "dateCivil", fn := fun _ => fun
  | [d1, d2, d3, d4] => { results := [.lit (.bool true)], args := [d1, d2, d3, d4] }
  | _ => none }
def dateCivilRow : OpenClaim := { program := "ytgigmepilpfefaa", sum := "670453dd22eab77750ec57c29f0981c11c9a8b5e95f8e419b9ee043555c43530", func := "tenor/tenorlaw5.DateCivil", spec := "dateCivil", apart := false }
def DateCivilSaid : Prop := dateCivilRow.holds Try.pinned (OpenSpec.ofChange dateCivilSpec)

/-- ITS FALSE NEIGHBOUR: 'it returns false'. Refute it at one input. -/
def dateCivilWrong : ChangeSpec := { name := "dateCivil", fn := fun _ => fun
  | [d1, d2, d3, d4] => { results := [.lit (.bool false)], args := [d1, d2, d3, d4] }
  | _ => none }
def DateCivilWrongFalsely : Prop := dateCivilRow.holds Try.pinned (OpenSpec.ofChange dateCivilWrong)

/-- 'tenorlaw5.DateMonths': WHATEVER THE INPUT: true; the input reads as it did. -/
def dateMonthsSpec : ChangeSpec := { name := "dateMonths", fn := fun _ => fun
  | [d1, d2, d3] => { results := [.lit (.bool true)], args := [d1, d2, d3] }
  | _ => none }
def dateMonthsRow : OpenClaim := { program := "ytgigmepilpfefaa", sum := "670453dd22eab77750ec57c29f0981c11c9a8b5e95f8e419b9ee043555c43530", func := "tenor/tenorlaw5.DateMonths", spec := "dateMonths", apart := false }
def DateMonthsSaid : Prop := dateMonthsRow.holds Try.pinned (OpenSpec.ofChange dateMonthsSpec)

/-- ITS FALSE NEIGHBOUR: 'it returns false'. Refute it at one input. -/
def dateMonthsWrong : ChangeSpec := { name := "dateMonths", fn := fun _ => fun
  | [d1, d2, d3] => { results := [.lit (.bool false)], args := [d1, d2, d3] }
  | _ => none }
def DateMonthsWrongFalsely : Prop := dateMonthsRow.holds Try.pinned (OpenSpec.ofChange dateMonthsWrong)

/-- 'tenorlaw5.DateNamed': WHATEVER THE INPUT: true; the input reads as it did. -/
def dateNamedSpec : ChangeSpec := { name := "dateNamed", fn := fun _ => fun
  | [d1, d2] => { results := [.lit (.bool true)], args := [d1, d2] }
  | _ => none }
def dateNamedRow : OpenClaim := { program := "ytgigmepilpfefaa", sum := "670453dd22eab77750ec57c29f0981c11c9a8b5e95f8e419b9ee043555c43530", func := "tenor/tenorlaw5.DateNamed", spec := "dateNamed", apart := false }
def DateNamedSaid : Prop := dateNamedRow.holds Try.pinned (OpenSpec.ofChange dateNamedSpec)

/-- ITS FALSE NEIGHBOUR: 'it returns false'. Refute it at one input. -/
def dateNamedWrong : ChangeSpec := { name := "dateNamed", fn := fun _ => fun
  | [d1, d2] => { results := [.lit (.bool false)], args := [d1, d2] }
  | _ => none }
def DateNamedWrongFalsely : Prop := dateNamedRow.holds Try.pinned (OpenSpec.ofChange dateNamedWrong)

/-- 'tenorlaw5.DateMoves': WHATEVER THE INPUT: true; the input reads as it did. -/
def dateMovesSpec : ChangeSpec := { name := "dateMoves", fn := fun _ => fun
  | [d1, d2] => { results := [.lit (.bool true)], args := [d1, d2] }
  | _ => none }
def dateMovesRow : OpenClaim := { program := "ytgigmepilpfefaa", sum := "670453dd22eab77750ec57c29f0981c11c9a8b5e95f8e419b9ee043555c43530", func := "tenor/tenorlaw5.DateMoves", spec := "dateMoves", apart := false }
def DateMovesSaid : Prop := dateMovesRow.holds Try.pinned (OpenSpec.ofChange dateMovesSpec)

/-- ITS FALSE NEIGHBOUR: 'it returns false'. Refute it at one input. -/
def dateMovesWrong : ChangeSpec := { name := "dateMoves", fn := fun _ => fun
  | [d1, d2] => { results := [.lit (.bool false)], args := [d1, d2] }
  | _ => none }
def DateMovesWrongFalsely : Prop := dateMovesRow.holds Try.pinned (OpenSpec.ofChange dateMovesWrong)

/- THE SECOND FORM. 'bulk': how many values and letters a reading holds, each counted each time it is reached (what is shared counts as often as it is met; a slice's spare places count too). A statement '..UptoSaid' is the law's where the arguments, and the package variables that the reading takes, are together of bulk at most 1048576: NARROWER than '..Said'. Prove '..Said' where nothing that the law and all that it calls make is longer than what came in: it says more and counts as full. Else prove '..UptoSaid'. A law counts once. -/
mutual
def uptoBulk {H : Type} : DataW H → Nat
  | .lit (.string bytes) => bytes.length + 1
  | .lit _ => 1
  | .nil => 1
  | .ptr d => uptoBulk d + 1
  | .slice elems spare => uptoBulkAll elems + uptoBulkAll spare + 1
  | .agg parts => uptoBulkAll parts + 1
  | .iface _ d => uptoBulk d + 1
  | .map entries => uptoBulkEntries entries + 1
  | .held _ => 1
def uptoBulkAll {H : Type} : List (DataW H) → Nat
  | [] => 0
  | d :: r => uptoBulk d + uptoBulkAll r
def uptoBulkEntries {H : Type} : List (Lit × DataW H) → Nat
  | [] => 0
  | x :: r => uptoBulkEntry x + uptoBulkEntries r
def uptoBulkEntry {H : Type} : Lit × DataW H → Nat
  | (.string bytes, d) => bytes.length + uptoBulk d + 1
  | (_, d) => uptoBulk d + 1
 end
def uptoSmall : (H : Type) → List (DataW H) → Bool := fun _ ds => decide (uptoBulkAll ds ≤ 1048576)
def OpenSpec.upto (s : _root_.Go.ChangeSpec) : _root_.Go.OpenSpec := { _root_.Go.OpenSpec.ofChange s with cond := some uptoSmall }

/-- 'tenorlaw5.DateCivil', WHERE WHAT IT READS IS OF BULK AT MOST 1048576: true; the input reads as it did. -/
def dateCivilUptoRow : OpenClaim := { program := "ytgigmepilpfefaa", sum := "670453dd22eab77750ec57c29f0981c11c9a8b5e95f8e419b9ee043555c43530", func := "tenor/tenorlaw5.DateCivil", spec := "dateCivil", apart := false, narrowed := true }
def DateCivilUptoSaid : Prop := dateCivilUptoRow.holds Try.pinned (OpenSpec.upto dateCivilSpec)

/-- 'tenorlaw5.DateMonths', WHERE WHAT IT READS IS OF BULK AT MOST 1048576: true; the input reads as it did. -/
def dateMonthsUptoRow : OpenClaim := { program := "ytgigmepilpfefaa", sum := "670453dd22eab77750ec57c29f0981c11c9a8b5e95f8e419b9ee043555c43530", func := "tenor/tenorlaw5.DateMonths", spec := "dateMonths", apart := false, narrowed := true }
def DateMonthsUptoSaid : Prop := dateMonthsUptoRow.holds Try.pinned (OpenSpec.upto dateMonthsSpec)

/-- 'tenorlaw5.DateNamed', WHERE WHAT IT READS IS OF BULK AT MOST 1048576: true; the input reads as it did. -/
def dateNamedUptoRow : OpenClaim := { program := "ytgigmepilpfefaa", sum := "670453dd22eab77750ec57c29f0981c11c9a8b5e95f8e419b9ee043555c43530", func := "tenor/tenorlaw5.DateNamed", spec := "dateNamed", apart := false, narrowed := true }
def DateNamedUptoSaid : Prop := dateNamedUptoRow.holds Try.pinned (OpenSpec.upto dateNamedSpec)

/-- 'tenorlaw5.DateMoves', WHERE WHAT IT READS IS OF BULK AT MOST 1048576: true; the input reads as it did. -/
def dateMovesUptoRow : OpenClaim := { program := "ytgigmepilpfefaa", sum := "670453dd22eab77750ec57c29f0981c11c9a8b5e95f8e419b9ee043555c43530", func := "tenor/tenorlaw5.DateMoves", spec := "dateMoves", apart := false, narrowed := true }
def DateMovesUptoSaid : Prop := dateMovesUptoRow.holds Try.pinned (OpenSpec.upto dateMovesSpec)

end Rows
end Go.Proofs.Ytgigmepilpfefaa
