/-
  No cell of these rows narrows 'for every input' (looked for: loops, veiled, ifaces, maps, wideKeys, modest, calm, conditions, laid).
  DERIVED. THE GIVEN ROWS OF THIS SEAT. 6 by the template 'for every input the law returns true; each argument reads behind the call as it read before'; 0 by the template 'total and deterministic' (their statements: YthfipkcpajaifaaTotals.lean).
  GIVEN WITH THE SEED: the statements are not yours to turn. If you find one false, say at which input.
  Laid BY PROGRAM, IN A SANDBOX (cutbox-rows.mjs): the forced cells as the released guide's own fill.sh prints them over the translation 3eb2e6f33168f4b4… (all of the seat's roots in one cut). By AI agents, Wed Nov 11 2026. No macro, syntax, notation, axiom, sorry.
-/
import Derived.Test.YthfipkcpajaifaaChecked
import GoSem.Claim
import GoSem.ClaimJoined
import GoSem.ClaimMapViews
import Derived.JoinedTies
import Derived.KernelRfl
namespace Go.Proofs.Ythfipkcpajaifaa
/- THE CELL 'sum', in the pinned program and in every row, IS THE sha256 OF THE DUMP (.gsa) THAT YthfipkcpajaifaaProg.lean LOADS. Nothing in Lean hashes anything: it is a label: what it is worth is what the hold of that sum in a sandbox is worth. -/
noncomputable def Try.pinned : Pinned := { name := "ythfipkcpajaifaa", sum := "3eb2e6f33168f4b4f1e5f273b8b76a80461abee758b4f1372072c5473b1d1a1d", checked := Try.checked }
namespace Rows
def none {H : Type} : Left H := { results := [], args := [] }

/-- 'tenorlaw8.SchedChecks': WHATEVER THE INPUT: true; the input reads as it did. -/
def schedChecksSpec : ChangeSpec := { name := "schedChecks", fn := fun _ => fun
  | [d] => { results := [.lit (.bool true)], args := [d] }
  | _ => none }
def schedChecksRow : OpenClaim := { program := "ythfipkcpajaifaa", sum := "3eb2e6f33168f4b4f1e5f273b8b76a80461abee758b4f1372072c5473b1d1a1d", func := "tenor/tenorlaw8.SchedChecks", spec := "schedChecks", unfollowed := true, recurses := true, apart := false }
def SchedChecksSaid : Prop := schedChecksRow.holds Try.pinned (OpenSpec.ofChange schedChecksSpec)

/-- ITS FALSE NEIGHBOUR: 'it returns false'. Refute it at one input. -/
def schedChecksWrong : ChangeSpec := { name := "schedChecks", fn := fun _ => fun
  | [d] => { results := [.lit (.bool false)], args := [d] }
  | _ => none }
def SchedChecksWrongFalsely : Prop := schedChecksRow.holds Try.pinned (OpenSpec.ofChange schedChecksWrong)

/-- 'tenorlaw8.SchedPoints': WHATEVER THE INPUT: true; the input reads as it did. -/
def schedPointsSpec : ChangeSpec := { name := "schedPoints", fn := fun _ => fun
  | [d1, d2, d3] => { results := [.lit (.bool true)], args := [d1, d2, d3] }
  | _ => none }
def schedPointsRow : OpenClaim := { program := "ythfipkcpajaifaa", sum := "3eb2e6f33168f4b4f1e5f273b8b76a80461abee758b4f1372072c5473b1d1a1d", func := "tenor/tenorlaw8.SchedPoints", spec := "schedPoints", unfollowed := true, recurses := true, apart := false }
def SchedPointsSaid : Prop := schedPointsRow.holds Try.pinned (OpenSpec.ofChange schedPointsSpec)

/-- ITS FALSE NEIGHBOUR: 'it returns false'. Refute it at one input. -/
def schedPointsWrong : ChangeSpec := { name := "schedPoints", fn := fun _ => fun
  | [d1, d2, d3] => { results := [.lit (.bool false)], args := [d1, d2, d3] }
  | _ => none }
def SchedPointsWrongFalsely : Prop := schedPointsRow.holds Try.pinned (OpenSpec.ofChange schedPointsWrong)

/-- 'tenorlaw8.SchedDates': WHATEVER THE INPUT: true; the input reads as it did. -/
def schedDatesSpec : ChangeSpec := { name := "schedDates", fn := fun _ => fun
  | [d] => { results := [.lit (.bool true)], args := [d] }
  | _ => none }
def schedDatesRow : OpenClaim := { program := "ythfipkcpajaifaa", sum := "3eb2e6f33168f4b4f1e5f273b8b76a80461abee758b4f1372072c5473b1d1a1d", func := "tenor/tenorlaw8.SchedDates", spec := "schedDates", unfollowed := true, recurses := true, apart := false }
def SchedDatesSaid : Prop := schedDatesRow.holds Try.pinned (OpenSpec.ofChange schedDatesSpec)

/-- ITS FALSE NEIGHBOUR: 'it returns false'. Refute it at one input. -/
def schedDatesWrong : ChangeSpec := { name := "schedDates", fn := fun _ => fun
  | [d] => { results := [.lit (.bool false)], args := [d] }
  | _ => none }
def SchedDatesWrongFalsely : Prop := schedDatesRow.holds Try.pinned (OpenSpec.ofChange schedDatesWrong)

/-- 'tenorlaw8.SchedPeriods': WHATEVER THE INPUT: true; the input reads as it did. -/
def schedPeriodsSpec : ChangeSpec := { name := "schedPeriods", fn := fun _ => fun
  | [d] => { results := [.lit (.bool true)], args := [d] }
  | _ => none }
def schedPeriodsRow : OpenClaim := { program := "ythfipkcpajaifaa", sum := "3eb2e6f33168f4b4f1e5f273b8b76a80461abee758b4f1372072c5473b1d1a1d", func := "tenor/tenorlaw8.SchedPeriods", spec := "schedPeriods", unfollowed := true, recurses := true, apart := false }
def SchedPeriodsSaid : Prop := schedPeriodsRow.holds Try.pinned (OpenSpec.ofChange schedPeriodsSpec)

/-- ITS FALSE NEIGHBOUR: 'it returns false'. Refute it at one input. -/
def schedPeriodsWrong : ChangeSpec := { name := "schedPeriods", fn := fun _ => fun
  | [d] => { results := [.lit (.bool false)], args := [d] }
  | _ => none }
def SchedPeriodsWrongFalsely : Prop := schedPeriodsRow.holds Try.pinned (OpenSpec.ofChange schedPeriodsWrong)

/-- 'tenorlaw8.SchedEnds': WHATEVER THE INPUT: true; the input reads as it did. -/
def schedEndsSpec : ChangeSpec := { name := "schedEnds", fn := fun _ => fun
  | [d] => { results := [.lit (.bool true)], args := [d] }
  | _ => none }
def schedEndsRow : OpenClaim := { program := "ythfipkcpajaifaa", sum := "3eb2e6f33168f4b4f1e5f273b8b76a80461abee758b4f1372072c5473b1d1a1d", func := "tenor/tenorlaw8.SchedEnds", spec := "schedEnds", unfollowed := true, recurses := true, apart := false }
def SchedEndsSaid : Prop := schedEndsRow.holds Try.pinned (OpenSpec.ofChange schedEndsSpec)

/-- ITS FALSE NEIGHBOUR: 'it returns false'. Refute it at one input. -/
def schedEndsWrong : ChangeSpec := { name := "schedEnds", fn := fun _ => fun
  | [d] => { results := [.lit (.bool false)], args := [d] }
  | _ => none }
def SchedEndsWrongFalsely : Prop := schedEndsRow.holds Try.pinned (OpenSpec.ofChange schedEndsWrong)

/-- 'tenorlaw8.SchedEven': WHATEVER THE INPUT: true; the input reads as it did. -/
def schedEvenSpec : ChangeSpec := { name := "schedEven", fn := fun _ => fun
  | [d1, d2, d3, d4] => { results := [.lit (.bool true)], args := [d1, d2, d3, d4] }
  | _ => none }
def schedEvenRow : OpenClaim := { program := "ythfipkcpajaifaa", sum := "3eb2e6f33168f4b4f1e5f273b8b76a80461abee758b4f1372072c5473b1d1a1d", func := "tenor/tenorlaw8.SchedEven", spec := "schedEven", unfollowed := true, recurses := true, apart := false }
def SchedEvenSaid : Prop := schedEvenRow.holds Try.pinned (OpenSpec.ofChange schedEvenSpec)

/-- ITS FALSE NEIGHBOUR: 'it returns false'. Refute it at one input. -/
def schedEvenWrong : ChangeSpec := { name := "schedEven", fn := fun _ => fun
  | [d1, d2, d3, d4] => { results := [.lit (.bool false)], args := [d1, d2, d3, d4] }
  | _ => none }
def SchedEvenWrongFalsely : Prop := schedEvenRow.holds Try.pinned (OpenSpec.ofChange schedEvenWrong)

/- THE SECOND FORM. 'bulk': how many values and letters a reading holds, each counted each time it is reached (what is shared counts as often as it is met; a slice's spare places count too). A statement '..UptoSaid' is the law's where the arguments, and the package variables that the reading takes, are together of bulk at most 1048576: NARROWER than '..Said'. Prove '..Said' where nothing that the law and all that it calls make is longer than what came in: it says more and counts as full. Else prove '..UptoSaid'. A law counts once. -/
mutual
def uptoBulk {H : Type} : DataW H → Nat
  | .lit (.string bytes) => bytes.length + 1
  | .lit _ => 1
  | .nil => 1
  | .ptr d => uptoBulk d + 1
  | .slice elems spare => uptoBulkAll elems + uptoBulkAll spare + 1
  | .agg parts => uptoBulkAll parts + 1
  | .iface _ d => uptoBulk d + 1
  | .map entries => uptoBulkEntries entries + 1
  | .held _ => 1
def uptoBulkAll {H : Type} : List (DataW H) → Nat
  | [] => 0
  | d :: r => uptoBulk d + uptoBulkAll r
def uptoBulkEntries {H : Type} : List (Lit × DataW H) → Nat
  | [] => 0
  | x :: r => uptoBulkEntry x + uptoBulkEntries r
def uptoBulkEntry {H : Type} : Lit × DataW H → Nat
  | (.string bytes, d) => bytes.length + uptoBulk d + 1
  | (_, d) => uptoBulk d + 1
 end
def uptoSmall : (H : Type) → List (DataW H) → Bool := fun _ ds => decide (uptoBulkAll ds ≤ 1048576)
def OpenSpec.upto (s : _root_.Go.ChangeSpec) : _root_.Go.OpenSpec := { _root_.Go.OpenSpec.ofChange s with cond := some uptoSmall }

/-- 'tenorlaw8.SchedChecks', WHERE WHAT IT READS IS OF BULK AT MOST 1048576: true; the input reads as it did. -/
def schedChecksUptoRow : OpenClaim := { program := "ythfipkcpajaifaa", sum := "3eb2e6f33168f4b4f1e5f273b8b76a80461abee758b4f1372072c5473b1d1a1d", func := "tenor/tenorlaw8.SchedChecks", spec := "schedChecks", unfollowed := true, recurses := true, apart := false, narrowed := true }
def SchedChecksUptoSaid : Prop := schedChecksUptoRow.holds Try.pinned (OpenSpec.upto schedChecksSpec)

/-- 'tenorlaw8.SchedPoints', WHERE WHAT IT READS IS OF BULK AT MOST 1048576: true; the input reads as it did. -/
def schedPointsUptoRow : OpenClaim := { program := "ythfipkcpajaifaa", sum := "3eb2e6f33168f4b4f1e5f273b8b76a80461abee758b4f1372072c5473b1d1a1d", func := "tenor/tenorlaw8.SchedPoints", spec := "schedPoints", unfollowed := true, recurses := true, apart := false, narrowed := true }
def SchedPointsUptoSaid : Prop := schedPointsUptoRow.holds Try.pinned (OpenSpec.upto schedPointsSpec)

/-- 'tenorlaw8.SchedDates', WHERE WHAT IT READS IS OF BULK AT MOST 1048576: true; the input reads as it did. -/
def schedDatesUptoRow : OpenClaim := { program := "ythfipkcpajaifaa", sum := "3eb2e6f33168f4b4f1e5f273b8b76a80461abee758b4f1372072c5473b1d1a1d", func := "tenor/tenorlaw8.SchedDates", spec := "schedDates", unfollowed := true, recurses := true, apart := false, narrowed := true }
def SchedDatesUptoSaid : Prop := schedDatesUptoRow.holds Try.pinned (OpenSpec.upto schedDatesSpec)

/-- 'tenorlaw8.SchedPeriods', WHERE WHAT IT READS IS OF BULK AT MOST 1048576: true; the input reads as it did. -/
def schedPeriodsUptoRow : OpenClaim := { program := "ythfipkcpajaifaa", sum := "3eb2e6f33168f4b4f1e5f273b8b76a80461abee758b4f1372072c5473b1d1a1d", func := "tenor/tenorlaw8.SchedPeriods", spec := "schedPeriods", unfollowed := true, recurses := true, apart := false, narrowed := true }
def SchedPeriodsUptoSaid : Prop := schedPeriodsUptoRow.holds Try.pinned (OpenSpec.upto schedPeriodsSpec)

/-- 'tenorlaw8.SchedEnds', WHERE WHAT IT READS IS OF BULK AT MOST 1048576: true; the input reads as it did. -/
def schedEndsUptoRow : OpenClaim := { program := "ythfipkcpajaifaa", sum := "3eb2e6f33168f4b4f1e5f273b8b76a80461abee758b4f1372072c5473b1d1a1d", func := "tenor/tenorlaw8.SchedEnds", spec := "schedEnds", unfollowed := true, recurses := true, apart := false, narrowed := true }
def SchedEndsUptoSaid : Prop := schedEndsUptoRow.holds Try.pinned (OpenSpec.upto schedEndsSpec)

/-- 'tenorlaw8.SchedEven', WHERE WHAT IT READS IS OF BULK AT MOST 1048576: true; the input reads as it did. -/
def schedEvenUptoRow : OpenClaim := { program := "ythfipkcpajaifaa", sum := "3eb2e6f33168f4b4f1e5f273b8b76a80461abee758b4f1372072c5473b1d1a1d", func := "tenor/tenorlaw8.SchedEven", spec := "schedEven", unfollowed := true, recurses := true, apart := false, narrowed := true }
def SchedEvenUptoSaid : Prop := schedEvenUptoRow.holds Try.pinned (OpenSpec.upto schedEvenSpec)

end Rows
end Go.Proofs.Ythfipkcpajaifaa
