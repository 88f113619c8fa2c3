/-
  No cell of these rows narrows 'for every input' (looked for: loops, veiled, ifaces, maps, wideKeys, modest, calm, conditions, laid).
  DERIVED. THE GIVEN ROWS OF THIS SEAT. 5 by the template 'for every input the law returns true; each argument reads behind the call as it read before'; 0 by the template 'total and deterministic' (their statements: YtfonoonngdblpaaTotals.lean).
  GIVEN WITH THE SEED: the statements are not yours to turn. If you find one false, say at which input.
  Laid BY PROGRAM, IN A SANDBOX (cutbox-rows.mjs): the forced cells as the released guide's own fill.sh prints them over the translation 33b7bc0ca49072b6… (all of the seat's roots in one cut). By AI agents, Wed Nov 11 2026. No macro, syntax, notation, axiom, sorry.
-/
import Derived.Test.YtfonoonngdblpaaChecked
import GoSem.Claim
import GoSem.ClaimJoined
import GoSem.ClaimMapViews
import Derived.JoinedTies
import Derived.KernelRfl
namespace Go.Proofs.Ytfonoonngdblpaa
/- THE CELL 'sum', in the pinned program and in every row, IS THE sha256 OF THE DUMP (.gsa) THAT YtfonoonngdblpaaProg.lean LOADS. Nothing in Lean hashes anything: it is a label: what it is worth is what the hold of that sum in a sandbox is worth. -/
noncomputable def Try.pinned : Pinned := { name := "ytfonoonngdblpaa", sum := "33b7bc0ca49072b61902144dfd3460b4492fead96c570cf8f8d85f71ace5b4d5", checked := Try.checked }
namespace Rows
def none {H : Type} : Left H := { results := [], args := [] }

/-- 'tenorlaw1.IeeeClasses': WHATEVER THE INPUT: true; the input reads as it did. -/
def ieeeClassesSpec : ChangeSpec := { name := "ieeeClasses", fn := fun _ => fun
  | [d1, d2] => { results := [.lit (.bool true)], args := [d1, d2] }
  | _ => none }
def ieeeClassesRow : OpenClaim := { program := "ytfonoonngdblpaa", sum := "33b7bc0ca49072b61902144dfd3460b4492fead96c570cf8f8d85f71ace5b4d5", func := "tenor/tenorlaw1.IeeeClasses", spec := "ieeeClasses", inPlace := ["math.Float64bits", "math.Float64frombits"], apart := false }
def IeeeClassesSaid : Prop := ieeeClassesRow.holds Try.pinned (OpenSpec.ofChange ieeeClassesSpec)

/-- ITS FALSE NEIGHBOUR: 'it returns false'. Refute it at one input. -/
def ieeeClassesWrong : ChangeSpec := { name := "ieeeClasses", fn := fun _ => fun
  | [d1, d2] => { results := [.lit (.bool false)], args := [d1, d2] }
  | _ => none }
def IeeeClassesWrongFalsely : Prop := ieeeClassesRow.holds Try.pinned (OpenSpec.ofChange ieeeClassesWrong)

/-- 'tenorlaw1.IeeeRanks': WHATEVER THE INPUT: true; the input reads as it did. -/
def ieeeRanksSpec : ChangeSpec := { name := "ieeeRanks", fn := fun _ => fun
  | [d1, d2] => { results := [.lit (.bool true)], args := [d1, d2] }
  | _ => none }
def ieeeRanksRow : OpenClaim := { program := "ytfonoonngdblpaa", sum := "33b7bc0ca49072b61902144dfd3460b4492fead96c570cf8f8d85f71ace5b4d5", func := "tenor/tenorlaw1.IeeeRanks", spec := "ieeeRanks", inPlace := ["math.Float64bits", "math.Float64frombits"], apart := false }
def IeeeRanksSaid : Prop := ieeeRanksRow.holds Try.pinned (OpenSpec.ofChange ieeeRanksSpec)

/-- ITS FALSE NEIGHBOUR: 'it returns false'. Refute it at one input. -/
def ieeeRanksWrong : ChangeSpec := { name := "ieeeRanks", fn := fun _ => fun
  | [d1, d2] => { results := [.lit (.bool false)], args := [d1, d2] }
  | _ => none }
def IeeeRanksWrongFalsely : Prop := ieeeRanksRow.holds Try.pinned (OpenSpec.ofChange ieeeRanksWrong)

/-- 'tenorlaw1.IeeeSteps': WHATEVER THE INPUT: true; the input reads as it did. -/
def ieeeStepsSpec : ChangeSpec := { name := "ieeeSteps", fn := fun _ => fun
  | [d1, d2] => { results := [.lit (.bool true)], args := [d1, d2] }
  | _ => none }
def ieeeStepsRow : OpenClaim := { program := "ytfonoonngdblpaa", sum := "33b7bc0ca49072b61902144dfd3460b4492fead96c570cf8f8d85f71ace5b4d5", func := "tenor/tenorlaw1.IeeeSteps", spec := "ieeeSteps", inPlace := ["math.Float64bits", "math.Float64frombits"], apart := false }
def IeeeStepsSaid : Prop := ieeeStepsRow.holds Try.pinned (OpenSpec.ofChange ieeeStepsSpec)

/-- ITS FALSE NEIGHBOUR: 'it returns false'. Refute it at one input. -/
def ieeeStepsWrong : ChangeSpec := { name := "ieeeSteps", fn := fun _ => fun
  | [d1, d2] => { results := [.lit (.bool false)], args := [d1, d2] }
  | _ => none }
def IeeeStepsWrongFalsely : Prop := ieeeStepsRow.holds Try.pinned (OpenSpec.ofChange ieeeStepsWrong)

/-- 'tenorlaw1.IeeeSplits': WHATEVER THE INPUT: true; the input reads as it did. -/
def ieeeSplitsSpec : ChangeSpec := { name := "ieeeSplits", fn := fun _ => fun
  | [d1, d2, d3] => { results := [.lit (.bool true)], args := [d1, d2, d3] }
  | _ => none }
def ieeeSplitsRow : OpenClaim := { program := "ytfonoonngdblpaa", sum := "33b7bc0ca49072b61902144dfd3460b4492fead96c570cf8f8d85f71ace5b4d5", func := "tenor/tenorlaw1.IeeeSplits", spec := "ieeeSplits", inPlace := ["math.Float64bits", "math.Float64frombits"], apart := false }
def IeeeSplitsSaid : Prop := ieeeSplitsRow.holds Try.pinned (OpenSpec.ofChange ieeeSplitsSpec)

/-- ITS FALSE NEIGHBOUR: 'it returns false'. Refute it at one input. -/
def ieeeSplitsWrong : ChangeSpec := { name := "ieeeSplits", fn := fun _ => fun
  | [d1, d2, d3] => { results := [.lit (.bool false)], args := [d1, d2, d3] }
  | _ => none }
def IeeeSplitsWrongFalsely : Prop := ieeeSplitsRow.holds Try.pinned (OpenSpec.ofChange ieeeSplitsWrong)

/-- 'tenorlaw1.IeeeSingles': WHATEVER THE INPUT: true; the input reads as it did. -/
def ieeeSinglesSpec : ChangeSpec := { name := "ieeeSingles", fn := fun _ => fun
  | [d1, d2] => { results := [.lit (.bool true)], args := [d1, d2] }
  | _ => none }
def ieeeSinglesRow : OpenClaim := { program := "ytfonoonngdblpaa", sum := "33b7bc0ca49072b61902144dfd3460b4492fead96c570cf8f8d85f71ace5b4d5", func := "tenor/tenorlaw1.IeeeSingles", spec := "ieeeSingles", inPlace := ["math.Float32bits", "math.Float64bits", "math.Float64frombits"], apart := false }
def IeeeSinglesSaid : Prop := ieeeSinglesRow.holds Try.pinned (OpenSpec.ofChange ieeeSinglesSpec)

/-- ITS FALSE NEIGHBOUR: 'it returns false'. Refute it at one input. -/
def ieeeSinglesWrong : ChangeSpec := { name := "ieeeSingles", fn := fun _ => fun
  | [d1, d2] => { results := [.lit (.bool false)], args := [d1, d2] }
  | _ => none }
def IeeeSinglesWrongFalsely : Prop := ieeeSinglesRow.holds Try.pinned (OpenSpec.ofChange ieeeSinglesWrong)

/- THE SECOND FORM. 'bulk': how many values and letters a reading holds, each counted each time it is reached (what is shared counts as often as it is met; a slice's spare places count too). A statement '..UptoSaid' is the law's where the arguments, and the package variables that the reading takes, are together of bulk at most 1048576: NARROWER than '..Said'. Prove '..Said' where nothing that the law and all that it calls make is longer than what came in: it says more and counts as full. Else prove '..UptoSaid'. A law counts once. -/
mutual
def uptoBulk {H : Type} : DataW H → Nat
  | .lit (.string bytes) => bytes.length + 1
  | .lit _ => 1
  | .nil => 1
  | .ptr d => uptoBulk d + 1
  | .slice elems spare => uptoBulkAll elems + uptoBulkAll spare + 1
  | .agg parts => uptoBulkAll parts + 1
  | .iface _ d => uptoBulk d + 1
  | .map entries => uptoBulkEntries entries + 1
  | .held _ => 1
def uptoBulkAll {H : Type} : List (DataW H) → Nat
  | [] => 0
  | d :: r => uptoBulk d + uptoBulkAll r
def uptoBulkEntries {H : Type} : List (Lit × DataW H) → Nat
  | [] => 0
  | x :: r => uptoBulkEntry x + uptoBulkEntries r
def uptoBulkEntry {H : Type} : Lit × DataW H → Nat
  | (.string bytes, d) => bytes.length + uptoBulk d + 1
  | (_, d) => uptoBulk d + 1
 end
def uptoSmall : (H : Type) → List (DataW H) → Bool := fun _ ds => decide (uptoBulkAll ds ≤ 1048576)
def OpenSpec.upto (s : _root_.Go.ChangeSpec) : _root_.Go.OpenSpec := { _root_.Go.OpenSpec.ofChange s with cond := some uptoSmall }

/-- 'tenorlaw1.IeeeClasses', WHERE WHAT IT READS IS OF BULK AT MOST 1048576: true; the input reads as it did. -/
def ieeeClassesUptoRow : OpenClaim := { program := "ytfonoonngdblpaa", sum := "33b7bc0ca49072b61902144dfd3460b4492fead96c570cf8f8d85f71ace5b4d5", func := "tenor/tenorlaw1.IeeeClasses", spec := "ieeeClasses", inPlace := ["math.Float64bits", "math.Float64frombits"], apart := false, narrowed := true }
def IeeeClassesUptoSaid : Prop := ieeeClassesUptoRow.holds Try.pinned (OpenSpec.upto ieeeClassesSpec)

/-- 'tenorlaw1.IeeeRanks', WHERE WHAT IT READS IS OF BULK AT MOST 1048576: true; the input reads as it did. -/
def ieeeRanksUptoRow : OpenClaim := { program := "ytfonoonngdblpaa", sum := "33b7bc0ca49072b61902144dfd3460b4492fead96c570cf8f8d85f71ace5b4d5", func := "tenor/tenorlaw1.IeeeRanks", spec := "ieeeRanks", inPlace := ["math.Float64bits", "math.Float64frombits"], apart := false, narrowed := true }
def IeeeRanksUptoSaid : Prop := ieeeRanksUptoRow.holds Try.pinned (OpenSpec.upto ieeeRanksSpec)

/-- 'tenorlaw1.IeeeSteps', WHERE WHAT IT READS IS OF BULK AT MOST 1048576: true; the input reads as it did. -/
def ieeeStepsUptoRow : OpenClaim := { program := "ytfonoonngdblpaa", sum := "33b7bc0ca49072b61902144dfd3460b4492fead96c570cf8f8d85f71ace5b4d5", func := "tenor/tenorlaw1.IeeeSteps", spec := "ieeeSteps", inPlace := ["math.Float64bits", "math.Float64frombits"], apart := false, narrowed := true }
def IeeeStepsUptoSaid : Prop := ieeeStepsUptoRow.holds Try.pinned (OpenSpec.upto ieeeStepsSpec)

/-- 'tenorlaw1.IeeeSplits', WHERE WHAT IT READS IS OF BULK AT MOST 1048576: true; the input reads as it did. -/
def ieeeSplitsUptoRow : OpenClaim := { program := "ytfonoonngdblpaa", sum := "33b7bc0ca49072b61902144dfd3460b4492fead96c570cf8f8d85f71ace5b4d5", func := "tenor/tenorlaw1.IeeeSplits", spec := "ieeeSplits", inPlace := ["math.Float64bits", "math.Float64frombits"], apart := false, narrowed := true }
def IeeeSplitsUptoSaid : Prop := ieeeSplitsUptoRow.holds Try.pinned (OpenSpec.upto ieeeSplitsSpec)

/-- 'tenorlaw1.IeeeSingles', WHERE WHAT IT READS IS OF BULK AT MOST 1048576: true; the input reads as it did. -/
def ieeeSinglesUptoRow : OpenClaim := { program := "ytfonoonngdblpaa", sum := "33b7bc0ca49072b61902144dfd3460b4492fead96c570cf8f8d85f71ace5b4d5", func := "tenor/tenorlaw1.IeeeSingles", spec := "ieeeSingles", inPlace := ["math.Float32bits", "math.Float64bits", "math.Float64frombits"], apart := false, narrowed := true }
def IeeeSinglesUptoSaid : Prop := ieeeSinglesUptoRow.holds Try.pinned (OpenSpec.upto ieeeSinglesSpec)

end Rows
end Go.Proofs.Ytfonoonngdblpaa
