/-
  No cell of these rows narrows 'for every input' (looked for: loops, veiled, ifaces, maps, wideKeys, modest, calm, conditions, laid).
  DERIVED. THE GIVEN ROWS OF THIS SEAT. 6 by the template 'for every input the law returns true; each argument reads behind the call as it read before'; 0 by the template 'total and deterministic' (their statements: YtcmbfflemoccmaaGreatTotals.lean).
  GIVEN WITH THE SEED: the statements are not yours to turn. If you find one false, say at which input.
  Laid BY PROGRAM, IN A SANDBOX (cutbox-rows.mjs): the forced cells as the released guide's own fill.sh prints them over the translation 1b1a9039be85b92e… (all of the seat's roots in one cut). By AI agents, Wed Nov 11 2026. No macro, syntax, notation, axiom, sorry.
-/
import Derived.Test.YtcmbfflemoccmaaGreatChecked
import GoSem.Claim
import GoSem.ClaimJoined
import GoSem.ClaimMapViews
import Derived.JoinedTies
import Derived.KernelRfl
namespace Go.Proofs.YtcmbfflemoccmaaGreat
/- THE CELL 'sum', in the pinned program and in every row, IS THE sha256 OF THE DUMP (.gsa) THAT YtcmbfflemoccmaaGreatProg.lean LOADS. Nothing in Lean hashes anything: it is a label: what it is worth is what the hold of that sum in a sandbox is worth. -/
noncomputable def Tryz.pinned : Pinned := { name := "ytcmbfflemoccmaagreat", sum := "1b1a9039be85b92edcce3e4f3b0f48dd4fbee8034e52439557979e50998a24bb", checked := Tryz.checked }
namespace Rows
def none {H : Type} : Left H := { results := [], args := [] }

/-- 'tenorlaw11.CurveChecks': WHATEVER THE INPUT: true; the input reads as it did. -/
def curveChecksSpec : ChangeSpec := { name := "curveChecks", fn := fun _ => fun
  | [d1, d2] => { results := [.lit (.bool true)], args := [d1, d2] }
  | _ => none }
def curveChecksRow : OpenClaim := { program := "ytcmbfflemoccmaagreat", sum := "1b1a9039be85b92edcce3e4f3b0f48dd4fbee8034e52439557979e50998a24bb", func := "tenor/tenorlaw11.CurveChecks", spec := "curveChecks", inPlace := ["math.Float64bits", "math.Float64frombits", "math/bits.Sub64", "math/bits.Add64", "math.archFloor", "math.archTrunc"], unfollowed := true, recurses := true, named := ["math/bits.divideError", "math/bits.overflowError"], apart := false }
def CurveChecksSaid : Prop := curveChecksRow.holds Tryz.pinned (OpenSpec.ofChange curveChecksSpec)

/-- ITS FALSE NEIGHBOUR: 'it returns false'. Refute it at one input. -/
def curveChecksWrong : ChangeSpec := { name := "curveChecks", fn := fun _ => fun
  | [d1, d2] => { results := [.lit (.bool false)], args := [d1, d2] }
  | _ => none }
def CurveChecksWrongFalsely : Prop := curveChecksRow.holds Tryz.pinned (OpenSpec.ofChange curveChecksWrong)

/-- 'tenorlaw11.CurveFactors': WHATEVER THE INPUT: true; the input reads as it did. -/
def curveFactorsSpec : ChangeSpec := { name := "curveFactors", fn := fun _ => fun
  | [d1, d2] => { results := [.lit (.bool true)], args := [d1, d2] }
  | _ => none }
def curveFactorsRow : OpenClaim := { program := "ytcmbfflemoccmaagreat", sum := "1b1a9039be85b92edcce3e4f3b0f48dd4fbee8034e52439557979e50998a24bb", func := "tenor/tenorlaw11.CurveFactors", spec := "curveFactors", inPlace := ["math.Float64bits", "math.Float64frombits", "math/bits.Sub64", "math/bits.Add64", "math.archFloor", "math.archTrunc"], unfollowed := true, recurses := true, named := ["math/bits.divideError", "math/bits.overflowError"], apart := false }
def CurveFactorsSaid : Prop := curveFactorsRow.holds Tryz.pinned (OpenSpec.ofChange curveFactorsSpec)

/-- ITS FALSE NEIGHBOUR: 'it returns false'. Refute it at one input. -/
def curveFactorsWrong : ChangeSpec := { name := "curveFactors", fn := fun _ => fun
  | [d1, d2] => { results := [.lit (.bool false)], args := [d1, d2] }
  | _ => none }
def CurveFactorsWrongFalsely : Prop := curveFactorsRow.holds Tryz.pinned (OpenSpec.ofChange curveFactorsWrong)

/-- 'tenorlaw11.CurveRates': WHATEVER THE INPUT: true; the input reads as it did. -/
def curveRatesSpec : ChangeSpec := { name := "curveRates", fn := fun _ => fun
  | [d1, d2, d3, d4, d5, d6] => { results := [.lit (.bool true)], args := [d1, d2, d3, d4, d5, d6] }
  | _ => none }
def curveRatesRow : OpenClaim := { program := "ytcmbfflemoccmaagreat", sum := "1b1a9039be85b92edcce3e4f3b0f48dd4fbee8034e52439557979e50998a24bb", func := "tenor/tenorlaw11.CurveRates", spec := "curveRates", inPlace := ["math.Float64bits", "math.Float64frombits", "math/bits.Sub64", "math/bits.Add64", "math.archFloor", "math.archTrunc"], unfollowed := true, recurses := true, named := ["math/bits.divideError", "math/bits.overflowError"], apart := false }
def CurveRatesSaid : Prop := curveRatesRow.holds Tryz.pinned (OpenSpec.ofChange curveRatesSpec)

/-- ITS FALSE NEIGHBOUR: 'it returns false'. Refute it at one input. -/
def curveRatesWrong : ChangeSpec := { name := "curveRates", fn := fun _ => fun
  | [d1, d2, d3, d4, d5, d6] => { results := [.lit (.bool false)], args := [d1, d2, d3, d4, d5, d6] }
  | _ => none }
def CurveRatesWrongFalsely : Prop := curveRatesRow.holds Tryz.pinned (OpenSpec.ofChange curveRatesWrong)

/-- 'tenorlaw11.CurveSingles': WHATEVER THE INPUT: true; the input reads as it did. -/
def curveSinglesSpec : ChangeSpec := { name := "curveSingles", fn := fun _ => fun
  | [d] => { results := [.lit (.bool true)], args := [d] }
  | _ => none }
def curveSinglesRow : OpenClaim := { program := "ytcmbfflemoccmaagreat", sum := "1b1a9039be85b92edcce3e4f3b0f48dd4fbee8034e52439557979e50998a24bb", func := "tenor/tenorlaw11.CurveSingles", spec := "curveSingles", inPlace := ["math.Float64bits", "math.Float64frombits", "math/bits.Sub64", "math/bits.Add64", "math.archFloor", "math.archTrunc"], unfollowed := true, recurses := true, named := ["math/bits.divideError", "math/bits.overflowError"], apart := false }
def CurveSinglesSaid : Prop := curveSinglesRow.holds Tryz.pinned (OpenSpec.ofChange curveSinglesSpec)

/-- ITS FALSE NEIGHBOUR: 'it returns false'. Refute it at one input. -/
def curveSinglesWrong : ChangeSpec := { name := "curveSingles", fn := fun _ => fun
  | [d] => { results := [.lit (.bool false)], args := [d] }
  | _ => none }
def CurveSinglesWrongFalsely : Prop := curveSinglesRow.holds Tryz.pinned (OpenSpec.ofChange curveSinglesWrong)

/-- 'tenorlaw11.CurveFalls': WHATEVER THE INPUT: true; the input reads as it did. -/
def curveFallsSpec : ChangeSpec := { name := "curveFalls", fn := fun _ => fun
  | [d1, d2, d3] => { results := [.lit (.bool true)], args := [d1, d2, d3] }
  | _ => none }
def curveFallsRow : OpenClaim := { program := "ytcmbfflemoccmaagreat", sum := "1b1a9039be85b92edcce3e4f3b0f48dd4fbee8034e52439557979e50998a24bb", func := "tenor/tenorlaw11.CurveFalls", spec := "curveFalls", inPlace := ["math.Float64bits", "math.Float64frombits", "math/bits.Sub64", "math/bits.Add64", "math.archFloor", "math.archTrunc"], unfollowed := true, recurses := true, named := ["math/bits.divideError", "math/bits.overflowError"], apart := false }
def CurveFallsSaid : Prop := curveFallsRow.holds Tryz.pinned (OpenSpec.ofChange curveFallsSpec)

/-- ITS FALSE NEIGHBOUR: 'it returns false'. Refute it at one input. -/
def curveFallsWrong : ChangeSpec := { name := "curveFalls", fn := fun _ => fun
  | [d1, d2, d3] => { results := [.lit (.bool false)], args := [d1, d2, d3] }
  | _ => none }
def CurveFallsWrongFalsely : Prop := curveFallsRow.holds Tryz.pinned (OpenSpec.ofChange curveFallsWrong)

/-- 'tenorlaw11.CurveHalf': WHATEVER THE INPUT: true; the input reads as it did. -/
def curveHalfSpec : ChangeSpec := { name := "curveHalf", fn := fun _ => fun
  | [d] => { results := [.lit (.bool true)], args := [d] }
  | _ => none }
def curveHalfRow : OpenClaim := { program := "ytcmbfflemoccmaagreat", sum := "1b1a9039be85b92edcce3e4f3b0f48dd4fbee8034e52439557979e50998a24bb", func := "tenor/tenorlaw11.CurveHalf", spec := "curveHalf", inPlace := ["math.Float64bits", "math.Float64frombits", "math/bits.Sub64", "math/bits.Add64", "math.archFloor", "math.archTrunc"], unfollowed := true, recurses := true, named := ["math/bits.divideError", "math/bits.overflowError"], apart := false }
def CurveHalfSaid : Prop := curveHalfRow.holds Tryz.pinned (OpenSpec.ofChange curveHalfSpec)

/-- ITS FALSE NEIGHBOUR: 'it returns false'. Refute it at one input. -/
def curveHalfWrong : ChangeSpec := { name := "curveHalf", fn := fun _ => fun
  | [d] => { results := [.lit (.bool false)], args := [d] }
  | _ => none }
def CurveHalfWrongFalsely : Prop := curveHalfRow.holds Tryz.pinned (OpenSpec.ofChange curveHalfWrong)

/- THE SECOND FORM. 'bulk': how many values and letters a reading holds, each counted each time it is reached (what is shared counts as often as it is met; a slice's spare places count too). A statement '..UptoSaid' is the law's where the arguments, and the package variables that the reading takes, are together of bulk at most 1048576: NARROWER than '..Said'. Prove '..Said' where nothing that the law and all that it calls make is longer than what came in: it says more and counts as full. Else prove '..UptoSaid'. A law counts once. -/
mutual
def uptoBulk {H : Type} : DataW H → Nat
  | .lit (.string bytes) => bytes.length + 1
  | .lit _ => 1
  | .nil => 1
  | .ptr d => uptoBulk d + 1
  | .slice elems spare => uptoBulkAll elems + uptoBulkAll spare + 1
  | .agg parts => uptoBulkAll parts + 1
  | .iface _ d => uptoBulk d + 1
  | .map entries => uptoBulkEntries entries + 1
  | .held _ => 1
def uptoBulkAll {H : Type} : List (DataW H) → Nat
  | [] => 0
  | d :: r => uptoBulk d + uptoBulkAll r
def uptoBulkEntries {H : Type} : List (Lit × DataW H) → Nat
  | [] => 0
  | x :: r => uptoBulkEntry x + uptoBulkEntries r
def uptoBulkEntry {H : Type} : Lit × DataW H → Nat
  | (.string bytes, d) => bytes.length + uptoBulk d + 1
  | (_, d) => uptoBulk d + 1
 end
def uptoSmall : (H : Type) → List (DataW H) → Bool := fun _ ds => decide (uptoBulkAll ds ≤ 1048576)
def OpenSpec.upto (s : _root_.Go.ChangeSpec) : _root_.Go.OpenSpec := { _root_.Go.OpenSpec.ofChange s with cond := some uptoSmall }

/-- 'tenorlaw11.CurveChecks', WHERE WHAT IT READS IS OF BULK AT MOST 1048576: true; the input reads as it did. -/
def curveChecksUptoRow : OpenClaim := { program := "ytcmbfflemoccmaagreat", sum := "1b1a9039be85b92edcce3e4f3b0f48dd4fbee8034e52439557979e50998a24bb", func := "tenor/tenorlaw11.CurveChecks", spec := "curveChecks", inPlace := ["math.Float64bits", "math.Float64frombits", "math/bits.Sub64", "math/bits.Add64", "math.archFloor", "math.archTrunc"], unfollowed := true, recurses := true, named := ["math/bits.divideError", "math/bits.overflowError"], apart := false, narrowed := true }
def CurveChecksUptoSaid : Prop := curveChecksUptoRow.holds Tryz.pinned (OpenSpec.upto curveChecksSpec)

/-- 'tenorlaw11.CurveFactors', WHERE WHAT IT READS IS OF BULK AT MOST 1048576: true; the input reads as it did. -/
def curveFactorsUptoRow : OpenClaim := { program := "ytcmbfflemoccmaagreat", sum := "1b1a9039be85b92edcce3e4f3b0f48dd4fbee8034e52439557979e50998a24bb", func := "tenor/tenorlaw11.CurveFactors", spec := "curveFactors", inPlace := ["math.Float64bits", "math.Float64frombits", "math/bits.Sub64", "math/bits.Add64", "math.archFloor", "math.archTrunc"], unfollowed := true, recurses := true, named := ["math/bits.divideError", "math/bits.overflowError"], apart := false, narrowed := true }
def CurveFactorsUptoSaid : Prop := curveFactorsUptoRow.holds Tryz.pinned (OpenSpec.upto curveFactorsSpec)

/-- 'tenorlaw11.CurveRates', WHERE WHAT IT READS IS OF BULK AT MOST 1048576: true; the input reads as it did. -/
def curveRatesUptoRow : OpenClaim := { program := "ytcmbfflemoccmaagreat", sum := "1b1a9039be85b92edcce3e4f3b0f48dd4fbee8034e52439557979e50998a24bb", func := "tenor/tenorlaw11.CurveRates", spec := "curveRates", inPlace := ["math.Float64bits", "math.Float64frombits", "math/bits.Sub64", "math/bits.Add64", "math.archFloor", "math.archTrunc"], unfollowed := true, recurses := true, named := ["math/bits.divideError", "math/bits.overflowError"], apart := false, narrowed := true }
def CurveRatesUptoSaid : Prop := curveRatesUptoRow.holds Tryz.pinned (OpenSpec.upto curveRatesSpec)

/-- 'tenorlaw11.CurveSingles', WHERE WHAT IT READS IS OF BULK AT MOST 1048576: true; the input reads as it did. -/
def curveSinglesUptoRow : OpenClaim := { program := "ytcmbfflemoccmaagreat", sum := "1b1a9039be85b92edcce3e4f3b0f48dd4fbee8034e52439557979e50998a24bb", func := "tenor/tenorlaw11.CurveSingles", spec := "curveSingles", inPlace := ["math.Float64bits", "math.Float64frombits", "math/bits.Sub64", "math/bits.Add64", "math.archFloor", "math.archTrunc"], unfollowed := true, recurses := true, named := ["math/bits.divideError", "math/bits.overflowError"], apart := false, narrowed := true }
def CurveSinglesUptoSaid : Prop := curveSinglesUptoRow.holds Tryz.pinned (OpenSpec.upto curveSinglesSpec)

/-- 'tenorlaw11.CurveFalls', WHERE WHAT IT READS IS OF BULK AT MOST 1048576: true; the input reads as it did. -/
def curveFallsUptoRow : OpenClaim := { program := "ytcmbfflemoccmaagreat", sum := "1b1a9039be85b92edcce3e4f3b0f48dd4fbee8034e52439557979e50998a24bb", func := "tenor/tenorlaw11.CurveFalls", spec := "curveFalls", inPlace := ["math.Float64bits", "math.Float64frombits", "math/bits.Sub64", "math/bits.Add64", "math.archFloor", "math.archTrunc"], unfollowed := true, recurses := true, named := ["math/bits.divideError", "math/bits.overflowError"], apart := false, narrowed := true }
def CurveFallsUptoSaid : Prop := curveFallsUptoRow.holds Tryz.pinned (OpenSpec.upto curveFallsSpec)

/-- 'tenorlaw11.CurveHalf', WHERE WHAT IT READS IS OF BULK AT MOST 1048576: true; the input reads as it did. -/
def curveHalfUptoRow : OpenClaim := { program := "ytcmbfflemoccmaagreat", sum := "1b1a9039be85b92edcce3e4f3b0f48dd4fbee8034e52439557979e50998a24bb", func := "tenor/tenorlaw11.CurveHalf", spec := "curveHalf", inPlace := ["math.Float64bits", "math.Float64frombits", "math/bits.Sub64", "math/bits.Add64", "math.archFloor", "math.archTrunc"], unfollowed := true, recurses := true, named := ["math/bits.divideError", "math/bits.overflowError"], apart := false, narrowed := true }
def CurveHalfUptoSaid : Prop := curveHalfUptoRow.holds Tryz.pinned (OpenSpec.upto curveHalfSpec)

end Rows
end Go.Proofs.YtcmbfflemoccmaaGreat
