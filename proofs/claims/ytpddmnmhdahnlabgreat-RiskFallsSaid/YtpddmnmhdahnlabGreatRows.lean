/-
  No cell of these rows narrows 'for every input' (looked for: loops, veiled, ifaces, maps, wideKeys, modest, calm, conditions, laid).
  DERIVED. THE GIVEN ROWS OF THIS SEAT. 3 by the template 'for every input the law returns true; each argument reads behind the call as it read before'; 0 by the template 'total and deterministic' (their statements: YtpddmnmhdahnlabGreatTotals.lean).
  GIVEN WITH THE SEED: the statements are not yours to turn. If you find one false, say at which input.
  Laid BY PROGRAM, IN A SANDBOX (cutbox-rows.mjs): the forced cells as the released guide's own fill.sh prints them over the translation afa01a61b969f202… (all of the seat's roots in one cut). By AI agents, Wed Nov 11 2026. No macro, syntax, notation, axiom, sorry.
-/
import Derived.Test.YtpddmnmhdahnlabGreatChecked
import GoSem.Claim
import GoSem.ClaimJoined
import GoSem.ClaimMapViews
import Derived.JoinedTies
import Derived.KernelRfl
namespace Go.Proofs.YtpddmnmhdahnlabGreat
/- THE CELL 'sum', in the pinned program and in every row, IS THE sha256 OF THE DUMP (.gsa) THAT YtpddmnmhdahnlabGreatProg.lean LOADS. Nothing in Lean hashes anything: it is a label: what it is worth is what the hold of that sum in a sandbox is worth. -/
noncomputable def Tryz.pinned : Pinned := { name := "ytpddmnmhdahnlabgreat", sum := "afa01a61b969f202d2875a911606b1758ee788bf63c42f3d35f7f95f51472104", checked := Tryz.checked }
namespace Rows
def none {H : Type} : Left H := { results := [], args := [] }

/-- 'tenorlaw16.RiskOne': WHATEVER THE INPUT: true; the input reads as it did. -/
def riskOneSpec : ChangeSpec := { name := "riskOne", fn := fun _ => fun
  | [d1, d2, d3, d4, d5, d6, d7] => { results := [.lit (.bool true)], args := [d1, d2, d3, d4, d5, d6, d7] }
  | _ => none }
def riskOneRow : OpenClaim := { program := "ytpddmnmhdahnlabgreat", sum := "afa01a61b969f202d2875a911606b1758ee788bf63c42f3d35f7f95f51472104", func := "tenor/tenorlaw16.RiskOne", spec := "riskOne", inPlace := ["math.Float64bits", "math.Float64frombits", "math.archFloor", "math.archTrunc", "math/bits.Sub64", "math/bits.Add64"], unfollowed := true, recurses := true, named := ["math/bits.divideError", "math/bits.overflowError"], apart := false }
def RiskOneSaid : Prop := riskOneRow.holds Tryz.pinned (OpenSpec.ofChange riskOneSpec)

/-- ITS FALSE NEIGHBOUR: 'it returns false'. Refute it at one input. -/
def riskOneWrong : ChangeSpec := { name := "riskOne", fn := fun _ => fun
  | [d1, d2, d3, d4, d5, d6, d7] => { results := [.lit (.bool false)], args := [d1, d2, d3, d4, d5, d6, d7] }
  | _ => none }
def RiskOneWrongFalsely : Prop := riskOneRow.holds Tryz.pinned (OpenSpec.ofChange riskOneWrong)

/-- 'tenorlaw16.RiskFalls': WHATEVER THE INPUT: true; the input reads as it did. -/
def riskFallsSpec : ChangeSpec := { name := "riskFalls", fn := fun _ => fun
  | [d1, d2, d3, d4] => { results := [.lit (.bool true)], args := [d1, d2, d3, d4] }
  | _ => none }
def riskFallsRow : OpenClaim := { program := "ytpddmnmhdahnlabgreat", sum := "afa01a61b969f202d2875a911606b1758ee788bf63c42f3d35f7f95f51472104", func := "tenor/tenorlaw16.RiskFalls", spec := "riskFalls", inPlace := ["math.Float64bits", "math.Float64frombits", "math.archFloor", "math.archTrunc", "math/bits.Sub64", "math/bits.Add64"], unfollowed := true, recurses := true, named := ["math/bits.divideError", "math/bits.overflowError"], apart := false }
def RiskFallsSaid : Prop := riskFallsRow.holds Tryz.pinned (OpenSpec.ofChange riskFallsSpec)

/-- ITS FALSE NEIGHBOUR: 'it returns false'. Refute it at one input. -/
def riskFallsWrong : ChangeSpec := { name := "riskFalls", fn := fun _ => fun
  | [d1, d2, d3, d4] => { results := [.lit (.bool false)], args := [d1, d2, d3, d4] }
  | _ => none }
def RiskFallsWrongFalsely : Prop := riskFallsRow.holds Tryz.pinned (OpenSpec.ofChange riskFallsWrong)

/-- 'tenorlaw16.RiskLent': WHATEVER THE INPUT: true; the input reads as it did. -/
def riskLentSpec : ChangeSpec := { name := "riskLent", fn := fun _ => fun
  | [d1, d2, d3, d4, d5] => { results := [.lit (.bool true)], args := [d1, d2, d3, d4, d5] }
  | _ => none }
def riskLentRow : OpenClaim := { program := "ytpddmnmhdahnlabgreat", sum := "afa01a61b969f202d2875a911606b1758ee788bf63c42f3d35f7f95f51472104", func := "tenor/tenorlaw16.RiskLent", spec := "riskLent", inPlace := ["math.Float64bits", "math.Float64frombits", "math.archFloor", "math.archTrunc", "math/bits.Sub64", "math/bits.Add64"], unfollowed := true, recurses := true, named := ["math/bits.divideError", "math/bits.overflowError"], apart := false }
def RiskLentSaid : Prop := riskLentRow.holds Tryz.pinned (OpenSpec.ofChange riskLentSpec)

/-- ITS FALSE NEIGHBOUR: 'it returns false'. Refute it at one input. -/
def riskLentWrong : ChangeSpec := { name := "riskLent", fn := fun _ => fun
  | [d1, d2, d3, d4, d5] => { results := [.lit (.bool false)], args := [d1, d2, d3, d4, d5] }
  | _ => none }
def RiskLentWrongFalsely : Prop := riskLentRow.holds Tryz.pinned (OpenSpec.ofChange riskLentWrong)

/- THE SECOND FORM. 'bulk': how many values and letters a reading holds, each counted each time it is reached (what is shared counts as often as it is met; a slice's spare places count too). A statement '..UptoSaid' is the law's where the arguments, and the package variables that the reading takes, are together of bulk at most 1048576: NARROWER than '..Said'. Prove '..Said' where nothing that the law and all that it calls make is longer than what came in: it says more and counts as full. Else prove '..UptoSaid'. A law counts once. -/
mutual
def uptoBulk {H : Type} : DataW H → Nat
  | .lit (.string bytes) => bytes.length + 1
  | .lit _ => 1
  | .nil => 1
  | .ptr d => uptoBulk d + 1
  | .slice elems spare => uptoBulkAll elems + uptoBulkAll spare + 1
  | .agg parts => uptoBulkAll parts + 1
  | .iface _ d => uptoBulk d + 1
  | .map entries => uptoBulkEntries entries + 1
  | .held _ => 1
def uptoBulkAll {H : Type} : List (DataW H) → Nat
  | [] => 0
  | d :: r => uptoBulk d + uptoBulkAll r
def uptoBulkEntries {H : Type} : List (Lit × DataW H) → Nat
  | [] => 0
  | x :: r => uptoBulkEntry x + uptoBulkEntries r
def uptoBulkEntry {H : Type} : Lit × DataW H → Nat
  | (.string bytes, d) => bytes.length + uptoBulk d + 1
  | (_, d) => uptoBulk d + 1
 end
def uptoSmall : (H : Type) → List (DataW H) → Bool := fun _ ds => decide (uptoBulkAll ds ≤ 1048576)
def OpenSpec.upto (s : _root_.Go.ChangeSpec) : _root_.Go.OpenSpec := { _root_.Go.OpenSpec.ofChange s with cond := some uptoSmall }

/-- 'tenorlaw16.RiskOne', WHERE WHAT IT READS IS OF BULK AT MOST 1048576: true; the input reads as it did. -/
def riskOneUptoRow : OpenClaim := { program := "ytpddmnmhdahnlabgreat", sum := "afa01a61b969f202d2875a911606b1758ee788bf63c42f3d35f7f95f51472104", func := "tenor/tenorlaw16.RiskOne", spec := "riskOne", inPlace := ["math.Float64bits", "math.Float64frombits", "math.archFloor", "math.archTrunc", "math/bits.Sub64", "math/bits.Add64"], unfollowed := true, recurses := true, named := ["math/bits.divideError", "math/bits.overflowError"], apart := false, narrowed := true }
def RiskOneUptoSaid : Prop := riskOneUptoRow.holds Tryz.pinned (OpenSpec.upto riskOneSpec)

/-- 'tenorlaw16.RiskFalls', WHERE WHAT IT READS IS OF BULK AT MOST 1048576: true; the input reads as it did. -/
def riskFallsUptoRow : OpenClaim := { program := "ytpddmnmhdahnlabgreat", sum := "afa01a61b969f202d2875a911606b1758ee788bf63c42f3d35f7f95f51472104", func := "tenor/tenorlaw16.RiskFalls", spec := "riskFalls", inPlace := ["math.Float64bits", "math.Float64frombits", "math.archFloor", "math.archTrunc", "math/bits.Sub64", "math/bits.Add64"], unfollowed := true, recurses := true, named := ["math/bits.divideError", "math/bits.overflowError"], apart := false, narrowed := true }
def RiskFallsUptoSaid : Prop := riskFallsUptoRow.holds Tryz.pinned (OpenSpec.upto riskFallsSpec)

/-- 'tenorlaw16.RiskLent', WHERE WHAT IT READS IS OF BULK AT MOST 1048576: true; the input reads as it did. -/
def riskLentUptoRow : OpenClaim := { program := "ytpddmnmhdahnlabgreat", sum := "afa01a61b969f202d2875a911606b1758ee788bf63c42f3d35f7f95f51472104", func := "tenor/tenorlaw16.RiskLent", spec := "riskLent", inPlace := ["math.Float64bits", "math.Float64frombits", "math.archFloor", "math.archTrunc", "math/bits.Sub64", "math/bits.Add64"], unfollowed := true, recurses := true, named := ["math/bits.divideError", "math/bits.overflowError"], apart := false, narrowed := true }
def RiskLentUptoSaid : Prop := riskLentUptoRow.holds Tryz.pinned (OpenSpec.upto riskLentSpec)

end Rows
end Go.Proofs.YtpddmnmhdahnlabGreat
