/-
  No cell of these rows narrows 'for every input' (looked for: loops, veiled, ifaces, maps, wideKeys, modest, calm, conditions, laid).
  DERIVED. THE GIVEN ROWS OF THIS SEAT. 4 by the template 'for every input the law returns true; each argument reads behind the call as it read before'; 0 by the template 'total and deterministic' (their statements: YtbkmbdbjeiffpaaTotals.lean).
  GIVEN WITH THE SEED: the statements are not yours to turn. If you find one false, say at which input.
  Laid BY PROGRAM, IN A SANDBOX (cutbox-rows.mjs): the forced cells as the released guide's own fill.sh prints them over the translation 6afdf162bbf51d67… (all of the seat's roots in one cut). By AI agents, Wed Nov 11 2026. No macro, syntax, notation, axiom, sorry.
-/
import Derived.Test.YtbkmbdbjeiffpaaChecked
import GoSem.Claim
import GoSem.ClaimJoined
import GoSem.ClaimMapViews
import Derived.JoinedTies
import Derived.KernelRfl
namespace Go.Proofs.Ytbkmbdbjeiffpaa
/- THE CELL 'sum', in the pinned program and in every row, IS THE sha256 OF THE DUMP (.gsa) THAT YtbkmbdbjeiffpaaProg.lean LOADS. Nothing in Lean hashes anything: it is a label: what it is worth is what the hold of that sum in a sandbox is worth. -/
noncomputable def Try.pinned : Pinned := { name := "ytbkmbdbjeiffpaa", sum := "6afdf162bbf51d67911b90abd19210a2d492fd0e60429eab7c973ebbb93f86ac", checked := Try.checked }
namespace Rows
def none {H : Type} : Left H := { results := [], args := [] }

/-- 'tenorlaw9.RateFactors': WHATEVER THE INPUT: true; the input reads as it did. -/
def rateFactorsSpec : ChangeSpec := { name := "rateFactors", fn := fun _ => fun
  | [d1, d2, d3] => { results := [.lit (.bool true)], args := [d1, d2, d3] }
  | _ => none }
def rateFactorsRow : OpenClaim := { program := "ytbkmbdbjeiffpaa", sum := "6afdf162bbf51d67911b90abd19210a2d492fd0e60429eab7c973ebbb93f86ac", func := "tenor/tenorlaw9.RateFactors", spec := "rateFactors", inPlace := ["math.Float64frombits", "math.Float64bits", "math.archFloor", "math.archTrunc"], unfollowed := true, recurses := true, apart := false }
def RateFactorsSaid : Prop := rateFactorsRow.holds Try.pinned (OpenSpec.ofChange rateFactorsSpec)

/-- ITS FALSE NEIGHBOUR: 'it returns false'. Refute it at one input. -/
def rateFactorsWrong : ChangeSpec := { name := "rateFactors", fn := fun _ => fun
  | [d1, d2, d3] => { results := [.lit (.bool false)], args := [d1, d2, d3] }
  | _ => none }
def RateFactorsWrongFalsely : Prop := rateFactorsRow.holds Try.pinned (OpenSpec.ofChange rateFactorsWrong)

/-- 'tenorlaw9.RateYields': WHATEVER THE INPUT: true; the input reads as it did. -/
def rateYieldsSpec : ChangeSpec := { name := "rateYields", fn := fun _ => fun
  | [d1, d2, d3] => { results := [.lit (.bool true)], args := [d1, d2, d3] }
  | _ => none }
def rateYieldsRow : OpenClaim := { program := "ytbkmbdbjeiffpaa", sum := "6afdf162bbf51d67911b90abd19210a2d492fd0e60429eab7c973ebbb93f86ac", func := "tenor/tenorlaw9.RateYields", spec := "rateYields", inPlace := ["math.Float64frombits", "math.Float64bits", "math.archFloor", "math.archTrunc"], unfollowed := true, recurses := true, apart := false }
def RateYieldsSaid : Prop := rateYieldsRow.holds Try.pinned (OpenSpec.ofChange rateYieldsSpec)

/-- ITS FALSE NEIGHBOUR: 'it returns false'. Refute it at one input. -/
def rateYieldsWrong : ChangeSpec := { name := "rateYields", fn := fun _ => fun
  | [d1, d2, d3] => { results := [.lit (.bool false)], args := [d1, d2, d3] }
  | _ => none }
def RateYieldsWrongFalsely : Prop := rateYieldsRow.holds Try.pinned (OpenSpec.ofChange rateYieldsWrong)

/-- 'tenorlaw9.RateOnes': WHATEVER THE INPUT: true; the input reads as it did. -/
def rateOnesSpec : ChangeSpec := { name := "rateOnes", fn := fun _ => fun
  | [d1, d2, d3] => { results := [.lit (.bool true)], args := [d1, d2, d3] }
  | _ => none }
def rateOnesRow : OpenClaim := { program := "ytbkmbdbjeiffpaa", sum := "6afdf162bbf51d67911b90abd19210a2d492fd0e60429eab7c973ebbb93f86ac", func := "tenor/tenorlaw9.RateOnes", spec := "rateOnes", inPlace := ["math.Float64frombits", "math.Float64bits", "math.archFloor", "math.archTrunc"], unfollowed := true, recurses := true, apart := false }
def RateOnesSaid : Prop := rateOnesRow.holds Try.pinned (OpenSpec.ofChange rateOnesSpec)

/-- ITS FALSE NEIGHBOUR: 'it returns false'. Refute it at one input. -/
def rateOnesWrong : ChangeSpec := { name := "rateOnes", fn := fun _ => fun
  | [d1, d2, d3] => { results := [.lit (.bool false)], args := [d1, d2, d3] }
  | _ => none }
def RateOnesWrongFalsely : Prop := rateOnesRow.holds Try.pinned (OpenSpec.ofChange rateOnesWrong)

/-- 'tenorlaw9.RateFalls': WHATEVER THE INPUT: true; the input reads as it did. -/
def rateFallsSpec : ChangeSpec := { name := "rateFalls", fn := fun _ => fun
  | [d1, d2, d3, d4] => { results := [.lit (.bool true)], args := [d1, d2, d3, d4] }
  | _ => none }
def rateFallsRow : OpenClaim := { program := "ytbkmbdbjeiffpaa", sum := "6afdf162bbf51d67911b90abd19210a2d492fd0e60429eab7c973ebbb93f86ac", func := "tenor/tenorlaw9.RateFalls", spec := "rateFalls", inPlace := ["math.Float64frombits", "math.Float64bits", "math.archFloor", "math.archTrunc"], unfollowed := true, recurses := true, apart := false }
def RateFallsSaid : Prop := rateFallsRow.holds Try.pinned (OpenSpec.ofChange rateFallsSpec)

/-- ITS FALSE NEIGHBOUR: 'it returns false'. Refute it at one input. -/
def rateFallsWrong : ChangeSpec := { name := "rateFalls", fn := fun _ => fun
  | [d1, d2, d3, d4] => { results := [.lit (.bool false)], args := [d1, d2, d3, d4] }
  | _ => none }
def RateFallsWrongFalsely : Prop := rateFallsRow.holds Try.pinned (OpenSpec.ofChange rateFallsWrong)

/- THE SECOND FORM. 'bulk': how many values and letters a reading holds, each counted each time it is reached (what is shared counts as often as it is met; a slice's spare places count too). A statement '..UptoSaid' is the law's where the arguments, and the package variables that the reading takes, are together of bulk at most 1048576: NARROWER than '..Said'. Prove '..Said' where nothing that the law and all that it calls make is longer than what came in: it says more and counts as full. Else prove '..UptoSaid'. A law counts once. -/
mutual
def uptoBulk {H : Type} : DataW H → Nat
  | .lit (.string bytes) => bytes.length + 1
  | .lit _ => 1
  | .nil => 1
  | .ptr d => uptoBulk d + 1
  | .slice elems spare => uptoBulkAll elems + uptoBulkAll spare + 1
  | .agg parts => uptoBulkAll parts + 1
  | .iface _ d => uptoBulk d + 1
  | .map entries => uptoBulkEntries entries + 1
  | .held _ => 1
def uptoBulkAll {H : Type} : List (DataW H) → Nat
  | [] => 0
  | d :: r => uptoBulk d + uptoBulkAll r
def uptoBulkEntries {H : Type} : List (Lit × DataW H) → Nat
  | [] => 0
  | x :: r => uptoBulkEntry x + uptoBulkEntries r
def uptoBulkEntry {H : Type} : Lit × DataW H → Nat
  | (.string bytes, d) => bytes.length + uptoBulk d + 1
  | (_, d) => uptoBulk d + 1
 end
def uptoSmall : (H : Type) → List (DataW H) → Bool := fun _ ds => decide (uptoBulkAll ds ≤ 1048576)
def OpenSpec.upto (s : _root_.Go.ChangeSpec) : _root_.Go.OpenSpec := { _root_.Go.OpenSpec.ofChange s with cond := some uptoSmall }

/-- 'tenorlaw9.RateFactors', WHERE WHAT IT READS IS OF BULK AT MOST 1048576: true; the input reads as it did. -/
def rateFactorsUptoRow : OpenClaim := { program := "ytbkmbdbjeiffpaa", sum := "6afdf162bbf51d67911b90abd19210a2d492fd0e60429eab7c973ebbb93f86ac", func := "tenor/tenorlaw9.RateFactors", spec := "rateFactors", inPlace := ["math.Float64frombits", "math.Float64bits", "math.archFloor", "math.archTrunc"], unfollowed := true, recurses := true, apart := false, narrowed := true }
def RateFactorsUptoSaid : Prop := rateFactorsUptoRow.holds Try.pinned (OpenSpec.upto rateFactorsSpec)

/-- 'tenorlaw9.RateYields', WHERE WHAT IT READS IS OF BULK AT MOST 1048576: true; the input reads as it did. -/
def rateYieldsUptoRow : OpenClaim := { program := "ytbkmbdbjeiffpaa", sum := "6afdf162bbf51d67911b90abd19210a2d492fd0e60429eab7c973ebbb93f86ac", func := "tenor/tenorlaw9.RateYields", spec := "rateYields", inPlace := ["math.Float64frombits", "math.Float64bits", "math.archFloor", "math.archTrunc"], unfollowed := true, recurses := true, apart := false, narrowed := true }
def RateYieldsUptoSaid : Prop := rateYieldsUptoRow.holds Try.pinned (OpenSpec.upto rateYieldsSpec)

/-- 'tenorlaw9.RateOnes', WHERE WHAT IT READS IS OF BULK AT MOST 1048576: true; the input reads as it did. -/
def rateOnesUptoRow : OpenClaim := { program := "ytbkmbdbjeiffpaa", sum := "6afdf162bbf51d67911b90abd19210a2d492fd0e60429eab7c973ebbb93f86ac", func := "tenor/tenorlaw9.RateOnes", spec := "rateOnes", inPlace := ["math.Float64frombits", "math.Float64bits", "math.archFloor", "math.archTrunc"], unfollowed := true, recurses := true, apart := false, narrowed := true }
def RateOnesUptoSaid : Prop := rateOnesUptoRow.holds Try.pinned (OpenSpec.upto rateOnesSpec)

/-- 'tenorlaw9.RateFalls', WHERE WHAT IT READS IS OF BULK AT MOST 1048576: true; the input reads as it did. -/
def rateFallsUptoRow : OpenClaim := { program := "ytbkmbdbjeiffpaa", sum := "6afdf162bbf51d67911b90abd19210a2d492fd0e60429eab7c973ebbb93f86ac", func := "tenor/tenorlaw9.RateFalls", spec := "rateFalls", inPlace := ["math.Float64frombits", "math.Float64bits", "math.archFloor", "math.archTrunc"], unfollowed := true, recurses := true, apart := false, narrowed := true }
def RateFallsUptoSaid : Prop := rateFallsUptoRow.holds Try.pinned (OpenSpec.upto rateFallsSpec)

end Rows
end Go.Proofs.Ytbkmbdbjeiffpaa
