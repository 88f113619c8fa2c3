/-
  No cell of these rows narrows 'for every input' (looked for: loops, veiled, ifaces, maps, wideKeys, modest, calm, conditions, laid).
  DERIVED. THE GIVEN ROWS OF THIS SEAT. 5 by the template 'for every input the law returns true; each argument reads behind the call as it read before'; 0 by the template 'total and deterministic' (their statements: YtcbbbkngjdlcjaaTotals.lean).
  GIVEN WITH THE SEED: the statements are not yours to turn. If you find one false, say at which input.
  Laid BY PROGRAM, IN A SANDBOX (cutbox-rows.mjs): the forced cells as the released guide's own fill.sh prints them over the translation 38769995e06fe4d9… (all of the seat's roots in one cut). By AI agents, Wed Nov 11 2026. No macro, syntax, notation, axiom, sorry.
-/
import Derived.Test.YtcbbbkngjdlcjaaChecked
import GoSem.Claim
import GoSem.ClaimJoined
import GoSem.ClaimMapViews
import Derived.JoinedTies
import Derived.KernelRfl
namespace Go.Proofs.Ytcbbbkngjdlcjaa
/- THE CELL 'sum', in the pinned program and in every row, IS THE sha256 OF THE DUMP (.gsa) THAT YtcbbbkngjdlcjaaProg.lean LOADS. Nothing in Lean hashes anything: it is a label: what it is worth is what the hold of that sum in a sandbox is worth. -/
noncomputable def Try.pinned : Pinned := { name := "ytcbbbkngjdlcjaa", sum := "38769995e06fe4d98574f87fb07eb8b35dc3b5e1f327a11165f1a6253e240e17", checked := Try.checked }
namespace Rows
def none {H : Type} : Left H := { results := [], args := [] }

/-- 'tenorlaw7.CountFractions': WHATEVER THE INPUT: true; the input reads as it did. -/
def countFractionsSpec : ChangeSpec := { name := "countFractions", fn := fun _ => fun
  | [d1, d2, d3, d4] => { results := [.lit (.bool true)], args := [d1, d2, d3, d4] }
  | _ => none }
def countFractionsRow : OpenClaim := { program := "ytcbbbkngjdlcjaa", sum := "38769995e06fe4d98574f87fb07eb8b35dc3b5e1f327a11165f1a6253e240e17", func := "tenor/tenorlaw7.CountFractions", spec := "countFractions", unfollowed := true, recurses := true, apart := false }
def CountFractionsSaid : Prop := countFractionsRow.holds Try.pinned (OpenSpec.ofChange countFractionsSpec)

/-- ITS FALSE NEIGHBOUR: 'it returns false'. Refute it at one input. -/
def countFractionsWrong : ChangeSpec := { name := "countFractions", fn := fun _ => fun
  | [d1, d2, d3, d4] => { results := [.lit (.bool false)], args := [d1, d2, d3, d4] }
  | _ => none }
def CountFractionsWrongFalsely : Prop := countFractionsRow.holds Try.pinned (OpenSpec.ofChange countFractionsWrong)

/-- 'tenorlaw7.CountYears': WHATEVER THE INPUT: true; the input reads as it did. -/
def countYearsSpec : ChangeSpec := { name := "countYears", fn := fun _ => fun
  | [d1, d2, d3, d4] => { results := [.lit (.bool true)], args := [d1, d2, d3, d4] }
  | _ => none }
def countYearsRow : OpenClaim := { program := "ytcbbbkngjdlcjaa", sum := "38769995e06fe4d98574f87fb07eb8b35dc3b5e1f327a11165f1a6253e240e17", func := "tenor/tenorlaw7.CountYears", spec := "countYears", inPlace := ["math.Float64bits"], unfollowed := true, recurses := true, apart := false }
def CountYearsSaid : Prop := countYearsRow.holds Try.pinned (OpenSpec.ofChange countYearsSpec)

/-- ITS FALSE NEIGHBOUR: 'it returns false'. Refute it at one input. -/
def countYearsWrong : ChangeSpec := { name := "countYears", fn := fun _ => fun
  | [d1, d2, d3, d4] => { results := [.lit (.bool false)], args := [d1, d2, d3, d4] }
  | _ => none }
def CountYearsWrongFalsely : Prop := countYearsRow.holds Try.pinned (OpenSpec.ofChange countYearsWrong)

/-- 'tenorlaw7.CountAdds': WHATEVER THE INPUT: true; the input reads as it did. -/
def countAddsSpec : ChangeSpec := { name := "countAdds", fn := fun _ => fun
  | [d1, d2, d3, d4, d5] => { results := [.lit (.bool true)], args := [d1, d2, d3, d4, d5] }
  | _ => none }
def countAddsRow : OpenClaim := { program := "ytcbbbkngjdlcjaa", sum := "38769995e06fe4d98574f87fb07eb8b35dc3b5e1f327a11165f1a6253e240e17", func := "tenor/tenorlaw7.CountAdds", spec := "countAdds", unfollowed := true, recurses := true, apart := false }
def CountAddsSaid : Prop := countAddsRow.holds Try.pinned (OpenSpec.ofChange countAddsSpec)

/-- ITS FALSE NEIGHBOUR: 'it returns false'. Refute it at one input. -/
def countAddsWrong : ChangeSpec := { name := "countAdds", fn := fun _ => fun
  | [d1, d2, d3, d4, d5] => { results := [.lit (.bool false)], args := [d1, d2, d3, d4, d5] }
  | _ => none }
def CountAddsWrongFalsely : Prop := countAddsRow.holds Try.pinned (OpenSpec.ofChange countAddsWrong)

/-- 'tenorlaw7.CountTurns': WHATEVER THE INPUT: true; the input reads as it did. -/
def countTurnsSpec : ChangeSpec := { name := "countTurns", fn := fun _ => fun
  | [d1, d2, d3, d4] => { results := [.lit (.bool true)], args := [d1, d2, d3, d4] }
  | _ => none }
def countTurnsRow : OpenClaim := { program := "ytcbbbkngjdlcjaa", sum := "38769995e06fe4d98574f87fb07eb8b35dc3b5e1f327a11165f1a6253e240e17", func := "tenor/tenorlaw7.CountTurns", spec := "countTurns", unfollowed := true, recurses := true, apart := false }
def CountTurnsSaid : Prop := countTurnsRow.holds Try.pinned (OpenSpec.ofChange countTurnsSpec)

/-- ITS FALSE NEIGHBOUR: 'it returns false'. Refute it at one input. -/
def countTurnsWrong : ChangeSpec := { name := "countTurns", fn := fun _ => fun
  | [d1, d2, d3, d4] => { results := [.lit (.bool false)], args := [d1, d2, d3, d4] }
  | _ => none }
def CountTurnsWrongFalsely : Prop := countTurnsRow.holds Try.pinned (OpenSpec.ofChange countTurnsWrong)

/-- 'tenorlaw7.CountRises': WHATEVER THE INPUT: true; the input reads as it did. -/
def countRisesSpec : ChangeSpec := { name := "countRises", fn := fun _ => fun
  | [d1, d2, d3, d4, d5] => { results := [.lit (.bool true)], args := [d1, d2, d3, d4, d5] }
  | _ => none }
def countRisesRow : OpenClaim := { program := "ytcbbbkngjdlcjaa", sum := "38769995e06fe4d98574f87fb07eb8b35dc3b5e1f327a11165f1a6253e240e17", func := "tenor/tenorlaw7.CountRises", spec := "countRises", unfollowed := true, recurses := true, apart := false }
def CountRisesSaid : Prop := countRisesRow.holds Try.pinned (OpenSpec.ofChange countRisesSpec)

/-- ITS FALSE NEIGHBOUR: 'it returns false'. Refute it at one input. -/
def countRisesWrong : ChangeSpec := { name := "countRises", fn := fun _ => fun
  | [d1, d2, d3, d4, d5] => { results := [.lit (.bool false)], args := [d1, d2, d3, d4, d5] }
  | _ => none }
def CountRisesWrongFalsely : Prop := countRisesRow.holds Try.pinned (OpenSpec.ofChange countRisesWrong)

/- THE SECOND FORM. 'bulk': how many values and letters a reading holds, each counted each time it is reached (what is shared counts as often as it is met; a slice's spare places count too). A statement '..UptoSaid' is the law's where the arguments, and the package variables that the reading takes, are together of bulk at most 1048576: NARROWER than '..Said'. Prove '..Said' where nothing that the law and all that it calls make is longer than what came in: it says more and counts as full. Else prove '..UptoSaid'. A law counts once. -/
mutual
def uptoBulk {H : Type} : DataW H → Nat
  | .lit (.string bytes) => bytes.length + 1
  | .lit _ => 1
  | .nil => 1
  | .ptr d => uptoBulk d + 1
  | .slice elems spare => uptoBulkAll elems + uptoBulkAll spare + 1
  | .agg parts => uptoBulkAll parts + 1
  | .iface _ d => uptoBulk d + 1
  | .map entries => uptoBulkEntries entries + 1
  | .held _ => 1
def uptoBulkAll {H : Type} : List (DataW H) → Nat
  | [] => 0
  | d :: r => uptoBulk d + uptoBulkAll r
def uptoBulkEntries {H : Type} : List (Lit × DataW H) → Nat
  | [] => 0
  | x :: r => uptoBulkEntry x + uptoBulkEntries r
def uptoBulkEntry {H : Type} : Lit × DataW H → Nat
  | (.string bytes, d) => bytes.length + uptoBulk d + 1
  | (_, d) => uptoBulk d + 1
 end
def uptoSmall : (H : Type) → List (DataW H) → Bool := fun _ ds => decide (uptoBulkAll ds ≤ 1048576)
def OpenSpec.upto (s : _root_.Go.ChangeSpec) : _root_.Go.OpenSpec := { _root_.Go.OpenSpec.ofChange s with cond := some uptoSmall }

/-- 'tenorlaw7.CountFractions', WHERE WHAT IT READS IS OF BULK AT MOST 1048576: true; the input reads as it did. -/
def countFractionsUptoRow : OpenClaim := { program := "ytcbbbkngjdlcjaa", sum := "38769995e06fe4d98574f87fb07eb8b35dc3b5e1f327a11165f1a6253e240e17", func := "tenor/tenorlaw7.CountFractions", spec := "countFractions", unfollowed := true, recurses := true, apart := false, narrowed := true }
def CountFractionsUptoSaid : Prop := countFractionsUptoRow.holds Try.pinned (OpenSpec.upto countFractionsSpec)

/-- 'tenorlaw7.CountYears', WHERE WHAT IT READS IS OF BULK AT MOST 1048576: true; the input reads as it did. -/
def countYearsUptoRow : OpenClaim := { program := "ytcbbbkngjdlcjaa", sum := "38769995e06fe4d98574f87fb07eb8b35dc3b5e1f327a11165f1a6253e240e17", func := "tenor/tenorlaw7.CountYears", spec := "countYears", inPlace := ["math.Float64bits"], unfollowed := true, recurses := true, apart := false, narrowed := true }
def CountYearsUptoSaid : Prop := countYearsUptoRow.holds Try.pinned (OpenSpec.upto countYearsSpec)

/-- 'tenorlaw7.CountAdds', WHERE WHAT IT READS IS OF BULK AT MOST 1048576: true; the input reads as it did. -/
def countAddsUptoRow : OpenClaim := { program := "ytcbbbkngjdlcjaa", sum := "38769995e06fe4d98574f87fb07eb8b35dc3b5e1f327a11165f1a6253e240e17", func := "tenor/tenorlaw7.CountAdds", spec := "countAdds", unfollowed := true, recurses := true, apart := false, narrowed := true }
def CountAddsUptoSaid : Prop := countAddsUptoRow.holds Try.pinned (OpenSpec.upto countAddsSpec)

/-- 'tenorlaw7.CountTurns', WHERE WHAT IT READS IS OF BULK AT MOST 1048576: true; the input reads as it did. -/
def countTurnsUptoRow : OpenClaim := { program := "ytcbbbkngjdlcjaa", sum := "38769995e06fe4d98574f87fb07eb8b35dc3b5e1f327a11165f1a6253e240e17", func := "tenor/tenorlaw7.CountTurns", spec := "countTurns", unfollowed := true, recurses := true, apart := false, narrowed := true }
def CountTurnsUptoSaid : Prop := countTurnsUptoRow.holds Try.pinned (OpenSpec.upto countTurnsSpec)

/-- 'tenorlaw7.CountRises', WHERE WHAT IT READS IS OF BULK AT MOST 1048576: true; the input reads as it did. -/
def countRisesUptoRow : OpenClaim := { program := "ytcbbbkngjdlcjaa", sum := "38769995e06fe4d98574f87fb07eb8b35dc3b5e1f327a11165f1a6253e240e17", func := "tenor/tenorlaw7.CountRises", spec := "countRises", unfollowed := true, recurses := true, apart := false, narrowed := true }
def CountRisesUptoSaid : Prop := countRisesUptoRow.holds Try.pinned (OpenSpec.upto countRisesSpec)

end Rows
end Go.Proofs.Ytcbbbkngjdlcjaa
