/-
  No cell of these rows narrows 'for every input' (looked for: loops, veiled, ifaces, maps, wideKeys, modest, calm, conditions, laid).
  DERIVED. THE GIVEN ROWS OF THIS SEAT. 6 by the template 'for every input the law returns true; each argument reads behind the call as it read before'; 0 by the template 'total and deterministic' (their statements: YtpddmnmhdahnlaaGreatTotals.lean).
  GIVEN WITH THE SEED: the statements are not yours to turn. If you find one false, say at which input.
  Laid BY PROGRAM, IN A SANDBOX (cutbox-rows.mjs): the forced cells as the released guide's own fill.sh prints them over the translation 505b5bc229a0cb1a… (all of the seat's roots in one cut). By AI agents, Wed Nov 11 2026. No macro, syntax, notation, axiom, sorry.
-/
import Derived.Test.YtpddmnmhdahnlaaGreatChecked
import GoSem.Claim
import GoSem.ClaimJoined
import GoSem.ClaimMapViews
import Derived.JoinedTies
import Derived.KernelRfl
namespace Go.Proofs.YtpddmnmhdahnlaaGreat
/- THE CELL 'sum', in the pinned program and in every row, IS THE sha256 OF THE DUMP (.gsa) THAT YtpddmnmhdahnlaaGreatProg.lean LOADS. Nothing in Lean hashes anything: it is a label: what it is worth is what the hold of that sum in a sandbox is worth. -/
noncomputable def Tryz.pinned : Pinned := { name := "ytpddmnmhdahnlaagreat", sum := "505b5bc229a0cb1ab50f8e46fa8bb4dcd432032ca9538ffeaf587254db46e6de", checked := Tryz.checked }
namespace Rows
def none {H : Type} : Left H := { results := [], args := [] }

/-- 'tenorlaw16.RiskBumps': WHATEVER THE INPUT: true; the input reads as it did. -/
def riskBumpsSpec : ChangeSpec := { name := "riskBumps", fn := fun _ => fun
  | [d1, d2, d3] => { results := [.lit (.bool true)], args := [d1, d2, d3] }
  | _ => none }
def riskBumpsRow : OpenClaim := { program := "ytpddmnmhdahnlaagreat", sum := "505b5bc229a0cb1ab50f8e46fa8bb4dcd432032ca9538ffeaf587254db46e6de", func := "tenor/tenorlaw16.RiskBumps", spec := "riskBumps", inPlace := ["math.Float64bits", "math.Float64frombits", "math.archFloor", "math.archTrunc", "math/bits.Sub64", "math/bits.Add64"], unfollowed := true, recurses := true, named := ["math/bits.divideError", "math/bits.overflowError"], apart := false }
def RiskBumpsSaid : Prop := riskBumpsRow.holds Tryz.pinned (OpenSpec.ofChange riskBumpsSpec)

/-- ITS FALSE NEIGHBOUR: 'it returns false'. Refute it at one input. -/
def riskBumpsWrong : ChangeSpec := { name := "riskBumps", fn := fun _ => fun
  | [d1, d2, d3] => { results := [.lit (.bool false)], args := [d1, d2, d3] }
  | _ => none }
def RiskBumpsWrongFalsely : Prop := riskBumpsRow.holds Tryz.pinned (OpenSpec.ofChange riskBumpsWrong)

/-- 'tenorlaw16.RiskLadders': WHATEVER THE INPUT: true; the input reads as it did. -/
def riskLaddersSpec : ChangeSpec := { name := "riskLadders", fn := fun _ => fun
  | [d1, d2, d3, d4] => { results := [.lit (.bool true)], args := [d1, d2, d3, d4] }
  | _ => none }
def riskLaddersRow : OpenClaim := { program := "ytpddmnmhdahnlaagreat", sum := "505b5bc229a0cb1ab50f8e46fa8bb4dcd432032ca9538ffeaf587254db46e6de", func := "tenor/tenorlaw16.RiskLadders", spec := "riskLadders", inPlace := ["math.Float64bits", "math.Float64frombits", "math.archFloor", "math.archTrunc", "math/bits.Sub64", "math/bits.Add64"], unfollowed := true, recurses := true, named := ["math/bits.divideError", "math/bits.overflowError"], apart := false }
def RiskLaddersSaid : Prop := riskLaddersRow.holds Tryz.pinned (OpenSpec.ofChange riskLaddersSpec)

/-- ITS FALSE NEIGHBOUR: 'it returns false'. Refute it at one input. -/
def riskLaddersWrong : ChangeSpec := { name := "riskLadders", fn := fun _ => fun
  | [d1, d2, d3, d4] => { results := [.lit (.bool false)], args := [d1, d2, d3, d4] }
  | _ => none }
def RiskLaddersWrongFalsely : Prop := riskLaddersRow.holds Tryz.pinned (OpenSpec.ofChange riskLaddersWrong)

/-- 'tenorlaw16.RiskDeltas': WHATEVER THE INPUT: true; the input reads as it did. -/
def riskDeltasSpec : ChangeSpec := { name := "riskDeltas", fn := fun _ => fun
  | [d1, d2, d3, d4] => { results := [.lit (.bool true)], args := [d1, d2, d3, d4] }
  | _ => none }
def riskDeltasRow : OpenClaim := { program := "ytpddmnmhdahnlaagreat", sum := "505b5bc229a0cb1ab50f8e46fa8bb4dcd432032ca9538ffeaf587254db46e6de", func := "tenor/tenorlaw16.RiskDeltas", spec := "riskDeltas", inPlace := ["math.Float64bits", "math.Float64frombits", "math.archFloor", "math.archTrunc", "math/bits.Sub64", "math/bits.Add64"], unfollowed := true, recurses := true, named := ["math/bits.divideError", "math/bits.overflowError"], apart := false }
def RiskDeltasSaid : Prop := riskDeltasRow.holds Tryz.pinned (OpenSpec.ofChange riskDeltasSpec)

/-- ITS FALSE NEIGHBOUR: 'it returns false'. Refute it at one input. -/
def riskDeltasWrong : ChangeSpec := { name := "riskDeltas", fn := fun _ => fun
  | [d1, d2, d3, d4] => { results := [.lit (.bool false)], args := [d1, d2, d3, d4] }
  | _ => none }
def RiskDeltasWrongFalsely : Prop := riskDeltasRow.holds Tryz.pinned (OpenSpec.ofChange riskDeltasWrong)

/-- 'tenorlaw16.RiskQuotes': WHATEVER THE INPUT: true; the input reads as it did. -/
def riskQuotesSpec : ChangeSpec := { name := "riskQuotes", fn := fun _ => fun
  | [d1, d2, d3, d4, d5, d6, d7] => { results := [.lit (.bool true)], args := [d1, d2, d3, d4, d5, d6, d7] }
  | _ => none }
def riskQuotesRow : OpenClaim := { program := "ytpddmnmhdahnlaagreat", sum := "505b5bc229a0cb1ab50f8e46fa8bb4dcd432032ca9538ffeaf587254db46e6de", func := "tenor/tenorlaw16.RiskQuotes", spec := "riskQuotes", inPlace := ["math.Float64bits", "math.Float64frombits", "math.archFloor", "math.archTrunc", "math/bits.Sub64", "math/bits.Add64", "math.Float32bits", "math.Float32frombits"], unfollowed := true, recurses := true, named := ["math/bits.divideError", "math/bits.overflowError"], apart := false }
def RiskQuotesSaid : Prop := riskQuotesRow.holds Tryz.pinned (OpenSpec.ofChange riskQuotesSpec)

/-- ITS FALSE NEIGHBOUR: 'it returns false'. Refute it at one input. -/
def riskQuotesWrong : ChangeSpec := { name := "riskQuotes", fn := fun _ => fun
  | [d1, d2, d3, d4, d5, d6, d7] => { results := [.lit (.bool false)], args := [d1, d2, d3, d4, d5, d6, d7] }
  | _ => none }
def RiskQuotesWrongFalsely : Prop := riskQuotesRow.holds Tryz.pinned (OpenSpec.ofChange riskQuotesWrong)

/-- 'tenorlaw16.RiskNone': WHATEVER THE INPUT: true; the input reads as it did. -/
def riskNoneSpec : ChangeSpec := { name := "riskNone", fn := fun _ => fun
  | [d1, d2, d3, d4] => { results := [.lit (.bool true)], args := [d1, d2, d3, d4] }
  | _ => none }
def riskNoneRow : OpenClaim := { program := "ytpddmnmhdahnlaagreat", sum := "505b5bc229a0cb1ab50f8e46fa8bb4dcd432032ca9538ffeaf587254db46e6de", func := "tenor/tenorlaw16.RiskNone", spec := "riskNone", inPlace := ["math.Float64bits", "math.Float64frombits", "math.archFloor", "math.archTrunc", "math/bits.Sub64", "math/bits.Add64"], unfollowed := true, recurses := true, named := ["math/bits.divideError", "math/bits.overflowError"], apart := false }
def RiskNoneSaid : Prop := riskNoneRow.holds Tryz.pinned (OpenSpec.ofChange riskNoneSpec)

/-- ITS FALSE NEIGHBOUR: 'it returns false'. Refute it at one input. -/
def riskNoneWrong : ChangeSpec := { name := "riskNone", fn := fun _ => fun
  | [d1, d2, d3, d4] => { results := [.lit (.bool false)], args := [d1, d2, d3, d4] }
  | _ => none }
def RiskNoneWrongFalsely : Prop := riskNoneRow.holds Tryz.pinned (OpenSpec.ofChange riskNoneWrong)

/-- 'tenorlaw16.RiskFar': WHATEVER THE INPUT: true; the input reads as it did. -/
def riskFarSpec : ChangeSpec := { name := "riskFar", fn := fun _ => fun
  | [d1, d2, d3, d4, d5] => { results := [.lit (.bool true)], args := [d1, d2, d3, d4, d5] }
  | _ => none }
def riskFarRow : OpenClaim := { program := "ytpddmnmhdahnlaagreat", sum := "505b5bc229a0cb1ab50f8e46fa8bb4dcd432032ca9538ffeaf587254db46e6de", func := "tenor/tenorlaw16.RiskFar", spec := "riskFar", inPlace := ["math.Float64bits", "math.Float64frombits", "math.archFloor", "math.archTrunc", "math/bits.Sub64", "math/bits.Add64"], unfollowed := true, recurses := true, named := ["math/bits.divideError", "math/bits.overflowError"], apart := false }
def RiskFarSaid : Prop := riskFarRow.holds Tryz.pinned (OpenSpec.ofChange riskFarSpec)

/-- ITS FALSE NEIGHBOUR: 'it returns false'. Refute it at one input. -/
def riskFarWrong : ChangeSpec := { name := "riskFar", fn := fun _ => fun
  | [d1, d2, d3, d4, d5] => { results := [.lit (.bool false)], args := [d1, d2, d3, d4, d5] }
  | _ => none }
def RiskFarWrongFalsely : Prop := riskFarRow.holds Tryz.pinned (OpenSpec.ofChange riskFarWrong)

/- THE SECOND FORM. 'bulk': how many values and letters a reading holds, each counted each time it is reached (what is shared counts as often as it is met; a slice's spare places count too). A statement '..UptoSaid' is the law's where the arguments, and the package variables that the reading takes, are together of bulk at most 1048576: NARROWER than '..Said'. Prove '..Said' where nothing that the law and all that it calls make is longer than what came in: it says more and counts as full. Else prove '..UptoSaid'. A law counts once. -/
mutual
def uptoBulk {H : Type} : DataW H → Nat
  | .lit (.string bytes) => bytes.length + 1
  | .lit _ => 1
  | .nil => 1
  | .ptr d => uptoBulk d + 1
  | .slice elems spare => uptoBulkAll elems + uptoBulkAll spare + 1
  | .agg parts => uptoBulkAll parts + 1
  | .iface _ d => uptoBulk d + 1
  | .map entries => uptoBulkEntries entries + 1
  | .held _ => 1
def uptoBulkAll {H : Type} : List (DataW H) → Nat
  | [] => 0
  | d :: r => uptoBulk d + uptoBulkAll r
def uptoBulkEntries {H : Type} : List (Lit × DataW H) → Nat
  | [] => 0
  | x :: r => uptoBulkEntry x + uptoBulkEntries r
def uptoBulkEntry {H : Type} : Lit × DataW H → Nat
  | (.string bytes, d) => bytes.length + uptoBulk d + 1
  | (_, d) => uptoBulk d + 1
 end
def uptoSmall : (H : Type) → List (DataW H) → Bool := fun _ ds => decide (uptoBulkAll ds ≤ 1048576)
def OpenSpec.upto (s : _root_.Go.ChangeSpec) : _root_.Go.OpenSpec := { _root_.Go.OpenSpec.ofChange s with cond := some uptoSmall }

/-- 'tenorlaw16.RiskBumps', WHERE WHAT IT READS IS OF BULK AT MOST 1048576: true; the input reads as it did. -/
def riskBumpsUptoRow : OpenClaim := { program := "ytpddmnmhdahnlaagreat", sum := "505b5bc229a0cb1ab50f8e46fa8bb4dcd432032ca9538ffeaf587254db46e6de", func := "tenor/tenorlaw16.RiskBumps", spec := "riskBumps", inPlace := ["math.Float64bits", "math.Float64frombits", "math.archFloor", "math.archTrunc", "math/bits.Sub64", "math/bits.Add64"], unfollowed := true, recurses := true, named := ["math/bits.divideError", "math/bits.overflowError"], apart := false, narrowed := true }
def RiskBumpsUptoSaid : Prop := riskBumpsUptoRow.holds Tryz.pinned (OpenSpec.upto riskBumpsSpec)

/-- 'tenorlaw16.RiskLadders', WHERE WHAT IT READS IS OF BULK AT MOST 1048576: true; the input reads as it did. -/
def riskLaddersUptoRow : OpenClaim := { program := "ytpddmnmhdahnlaagreat", sum := "505b5bc229a0cb1ab50f8e46fa8bb4dcd432032ca9538ffeaf587254db46e6de", func := "tenor/tenorlaw16.RiskLadders", spec := "riskLadders", inPlace := ["math.Float64bits", "math.Float64frombits", "math.archFloor", "math.archTrunc", "math/bits.Sub64", "math/bits.Add64"], unfollowed := true, recurses := true, named := ["math/bits.divideError", "math/bits.overflowError"], apart := false, narrowed := true }
def RiskLaddersUptoSaid : Prop := riskLaddersUptoRow.holds Tryz.pinned (OpenSpec.upto riskLaddersSpec)

/-- 'tenorlaw16.RiskDeltas', WHERE WHAT IT READS IS OF BULK AT MOST 1048576: true; the input reads as it did. -/
def riskDeltasUptoRow : OpenClaim := { program := "ytpddmnmhdahnlaagreat", sum := "505b5bc229a0cb1ab50f8e46fa8bb4dcd432032ca9538ffeaf587254db46e6de", func := "tenor/tenorlaw16.RiskDeltas", spec := "riskDeltas", inPlace := ["math.Float64bits", "math.Float64frombits", "math.archFloor", "math.archTrunc", "math/bits.Sub64", "math/bits.Add64"], unfollowed := true, recurses := true, named := ["math/bits.divideError", "math/bits.overflowError"], apart := false, narrowed := true }
def RiskDeltasUptoSaid : Prop := riskDeltasUptoRow.holds Tryz.pinned (OpenSpec.upto riskDeltasSpec)

/-- 'tenorlaw16.RiskQuotes', WHERE WHAT IT READS IS OF BULK AT MOST 1048576: true; the input reads as it did. -/
def riskQuotesUptoRow : OpenClaim := { program := "ytpddmnmhdahnlaagreat", sum := "505b5bc229a0cb1ab50f8e46fa8bb4dcd432032ca9538ffeaf587254db46e6de", func := "tenor/tenorlaw16.RiskQuotes", spec := "riskQuotes", inPlace := ["math.Float64bits", "math.Float64frombits", "math.archFloor", "math.archTrunc", "math/bits.Sub64", "math/bits.Add64", "math.Float32bits", "math.Float32frombits"], unfollowed := true, recurses := true, named := ["math/bits.divideError", "math/bits.overflowError"], apart := false, narrowed := true }
def RiskQuotesUptoSaid : Prop := riskQuotesUptoRow.holds Tryz.pinned (OpenSpec.upto riskQuotesSpec)

/-- 'tenorlaw16.RiskNone', WHERE WHAT IT READS IS OF BULK AT MOST 1048576: true; the input reads as it did. -/
def riskNoneUptoRow : OpenClaim := { program := "ytpddmnmhdahnlaagreat", sum := "505b5bc229a0cb1ab50f8e46fa8bb4dcd432032ca9538ffeaf587254db46e6de", func := "tenor/tenorlaw16.RiskNone", spec := "riskNone", inPlace := ["math.Float64bits", "math.Float64frombits", "math.archFloor", "math.archTrunc", "math/bits.Sub64", "math/bits.Add64"], unfollowed := true, recurses := true, named := ["math/bits.divideError", "math/bits.overflowError"], apart := false, narrowed := true }
def RiskNoneUptoSaid : Prop := riskNoneUptoRow.holds Tryz.pinned (OpenSpec.upto riskNoneSpec)

/-- 'tenorlaw16.RiskFar', WHERE WHAT IT READS IS OF BULK AT MOST 1048576: true; the input reads as it did. -/
def riskFarUptoRow : OpenClaim := { program := "ytpddmnmhdahnlaagreat", sum := "505b5bc229a0cb1ab50f8e46fa8bb4dcd432032ca9538ffeaf587254db46e6de", func := "tenor/tenorlaw16.RiskFar", spec := "riskFar", inPlace := ["math.Float64bits", "math.Float64frombits", "math.archFloor", "math.archTrunc", "math/bits.Sub64", "math/bits.Add64"], unfollowed := true, recurses := true, named := ["math/bits.divideError", "math/bits.overflowError"], apart := false, narrowed := true }
def RiskFarUptoSaid : Prop := riskFarUptoRow.holds Tryz.pinned (OpenSpec.upto riskFarSpec)

end Rows
end Go.Proofs.YtpddmnmhdahnlaaGreat
