/-
  No cell of these rows narrows 'for every input' (looked for: loops, veiled, ifaces, maps, wideKeys, modest, calm, conditions, laid).
  DERIVED. THE GIVEN ROWS OF THIS SEAT. 5 by the template 'for every input the law returns true; each argument reads behind the call as it read before'; 0 by the template 'total and deterministic' (their statements: YtoeifjnknhjchaaTotals.lean).
  GIVEN WITH THE SEED: the statements are not yours to turn. If you find one false, say at which input.
  Laid BY PROGRAM, IN A SANDBOX (cutbox-rows.mjs): the forced cells as the released guide's own fill.sh prints them over the translation 5a92b5880bc8ac2b… (all of the seat's roots in one cut). By AI agents, Wed Nov 11 2026. No macro, syntax, notation, axiom, sorry.
-/
import Derived.Test.YtoeifjnknhjchaaChecked
import GoSem.Claim
import GoSem.ClaimJoined
import GoSem.ClaimMapViews
import Derived.JoinedTies
import Derived.KernelRfl
namespace Go.Proofs.Ytoeifjnknhjchaa
/- THE CELL 'sum', in the pinned program and in every row, IS THE sha256 OF THE DUMP (.gsa) THAT YtoeifjnknhjchaaProg.lean LOADS. Nothing in Lean hashes anything: it is a label: what it is worth is what the hold of that sum in a sandbox is worth. -/
noncomputable def Try.pinned : Pinned := { name := "ytoeifjnknhjchaa", sum := "5a92b5880bc8ac2b1e1936d0833889f29b183556282db9bd2a6bb4b2824bebd1", checked := Try.checked }
namespace Rows
def none {H : Type} : Left H := { results := [], args := [] }

/-- 'tenorlaw12.SolvePolys': WHATEVER THE INPUT: true; the input reads as it did. -/
def solvePolysSpec : ChangeSpec := { name := "solvePolys", fn := fun _ => fun
  | [d1, d2, d3] => { results := [.lit (.bool true)], args := [d1, d2, d3] }
  | _ => none }
def solvePolysRow : OpenClaim := { program := "ytoeifjnknhjchaa", sum := "5a92b5880bc8ac2b1e1936d0833889f29b183556282db9bd2a6bb4b2824bebd1", func := "tenor/tenorlaw12.SolvePolys", spec := "solvePolys", inPlace := ["math.Float64bits", "math.Float64frombits"], unfollowed := true, recurses := true, apart := false }
def SolvePolysSaid : Prop := solvePolysRow.holds Try.pinned (OpenSpec.ofChange solvePolysSpec)

/-- ITS FALSE NEIGHBOUR: 'it returns false'. Refute it at one input. -/
def solvePolysWrong : ChangeSpec := { name := "solvePolys", fn := fun _ => fun
  | [d1, d2, d3] => { results := [.lit (.bool false)], args := [d1, d2, d3] }
  | _ => none }
def SolvePolysWrongFalsely : Prop := solvePolysRow.holds Try.pinned (OpenSpec.ofChange solvePolysWrong)

/-- 'tenorlaw12.SolveBrackets': WHATEVER THE INPUT: true; the input reads as it did. -/
def solveBracketsSpec : ChangeSpec := { name := "solveBrackets", fn := fun _ => fun
  | [d1, d2, d3] => { results := [.lit (.bool true)], args := [d1, d2, d3] }
  | _ => none }
def solveBracketsRow : OpenClaim := { program := "ytoeifjnknhjchaa", sum := "5a92b5880bc8ac2b1e1936d0833889f29b183556282db9bd2a6bb4b2824bebd1", func := "tenor/tenorlaw12.SolveBrackets", spec := "solveBrackets", inPlace := ["math.Float64bits", "math.Float64frombits"], unfollowed := true, recurses := true, apart := false }
def SolveBracketsSaid : Prop := solveBracketsRow.holds Try.pinned (OpenSpec.ofChange solveBracketsSpec)

/-- ITS FALSE NEIGHBOUR: 'it returns false'. Refute it at one input. -/
def solveBracketsWrong : ChangeSpec := { name := "solveBrackets", fn := fun _ => fun
  | [d1, d2, d3] => { results := [.lit (.bool false)], args := [d1, d2, d3] }
  | _ => none }
def SolveBracketsWrongFalsely : Prop := solveBracketsRow.holds Try.pinned (OpenSpec.ofChange solveBracketsWrong)

/-- 'tenorlaw12.SolveJumps': WHATEVER THE INPUT: true; the input reads as it did. -/
def solveJumpsSpec : ChangeSpec := { name := "solveJumps", fn := fun _ => fun
  | [d1, d2, d3, d4] => { results := [.lit (.bool true)], args := [d1, d2, d3, d4] }
  | _ => none }
def solveJumpsRow : OpenClaim := { program := "ytoeifjnknhjchaa", sum := "5a92b5880bc8ac2b1e1936d0833889f29b183556282db9bd2a6bb4b2824bebd1", func := "tenor/tenorlaw12.SolveJumps", spec := "solveJumps", inPlace := ["math.Float64bits", "math.Float64frombits"], unfollowed := true, recurses := true, apart := false }
def SolveJumpsSaid : Prop := solveJumpsRow.holds Try.pinned (OpenSpec.ofChange solveJumpsSpec)

/-- ITS FALSE NEIGHBOUR: 'it returns false'. Refute it at one input. -/
def solveJumpsWrong : ChangeSpec := { name := "solveJumps", fn := fun _ => fun
  | [d1, d2, d3, d4] => { results := [.lit (.bool false)], args := [d1, d2, d3, d4] }
  | _ => none }
def SolveJumpsWrongFalsely : Prop := solveJumpsRow.holds Try.pinned (OpenSpec.ofChange solveJumpsWrong)

/-- 'tenorlaw12.SolveOdd': WHATEVER THE INPUT: true; the input reads as it did. -/
def solveOddSpec : ChangeSpec := { name := "solveOdd", fn := fun _ => fun
  | [d1, d2, d3] => { results := [.lit (.bool true)], args := [d1, d2, d3] }
  | _ => none }
def solveOddRow : OpenClaim := { program := "ytoeifjnknhjchaa", sum := "5a92b5880bc8ac2b1e1936d0833889f29b183556282db9bd2a6bb4b2824bebd1", func := "tenor/tenorlaw12.SolveOdd", spec := "solveOdd", inPlace := ["math.Float64bits", "math.Float64frombits"], unfollowed := true, recurses := true, apart := false }
def SolveOddSaid : Prop := solveOddRow.holds Try.pinned (OpenSpec.ofChange solveOddSpec)

/-- ITS FALSE NEIGHBOUR: 'it returns false'. Refute it at one input. -/
def solveOddWrong : ChangeSpec := { name := "solveOdd", fn := fun _ => fun
  | [d1, d2, d3] => { results := [.lit (.bool false)], args := [d1, d2, d3] }
  | _ => none }
def SolveOddWrongFalsely : Prop := solveOddRow.holds Try.pinned (OpenSpec.ofChange solveOddWrong)

/-- 'tenorlaw12.SolveNil': WHATEVER THE INPUT: true; the input reads as it did. -/
def solveNilSpec : ChangeSpec := { name := "solveNil", fn := fun _ => fun
  | [d1, d2] => { results := [.lit (.bool true)], args := [d1, d2] }
  | _ => none }
def solveNilRow : OpenClaim := { program := "ytoeifjnknhjchaa", sum := "5a92b5880bc8ac2b1e1936d0833889f29b183556282db9bd2a6bb4b2824bebd1", func := "tenor/tenorlaw12.SolveNil", spec := "solveNil", inPlace := ["math.Float64bits", "math.Float64frombits"], unfollowed := true, recurses := true, apart := false }
def SolveNilSaid : Prop := solveNilRow.holds Try.pinned (OpenSpec.ofChange solveNilSpec)

/-- ITS FALSE NEIGHBOUR: 'it returns false'. Refute it at one input. -/
def solveNilWrong : ChangeSpec := { name := "solveNil", fn := fun _ => fun
  | [d1, d2] => { results := [.lit (.bool false)], args := [d1, d2] }
  | _ => none }
def SolveNilWrongFalsely : Prop := solveNilRow.holds Try.pinned (OpenSpec.ofChange solveNilWrong)

/- THE SECOND FORM. 'bulk': how many values and letters a reading holds, each counted each time it is reached (what is shared counts as often as it is met; a slice's spare places count too). A statement '..UptoSaid' is the law's where the arguments, and the package variables that the reading takes, are together of bulk at most 1048576: NARROWER than '..Said'. Prove '..Said' where nothing that the law and all that it calls make is longer than what came in: it says more and counts as full. Else prove '..UptoSaid'. A law counts once. -/
mutual
def uptoBulk {H : Type} : DataW H → Nat
  | .lit (.string bytes) => bytes.length + 1
  | .lit _ => 1
  | .nil => 1
  | .ptr d => uptoBulk d + 1
  | .slice elems spare => uptoBulkAll elems + uptoBulkAll spare + 1
  | .agg parts => uptoBulkAll parts + 1
  | .iface _ d => uptoBulk d + 1
  | .map entries => uptoBulkEntries entries + 1
  | .held _ => 1
def uptoBulkAll {H : Type} : List (DataW H) → Nat
  | [] => 0
  | d :: r => uptoBulk d + uptoBulkAll r
def uptoBulkEntries {H : Type} : List (Lit × DataW H) → Nat
  | [] => 0
  | x :: r => uptoBulkEntry x + uptoBulkEntries r
def uptoBulkEntry {H : Type} : Lit × DataW H → Nat
  | (.string bytes, d) => bytes.length + uptoBulk d + 1
  | (_, d) => uptoBulk d + 1
 end
def uptoSmall : (H : Type) → List (DataW H) → Bool := fun _ ds => decide (uptoBulkAll ds ≤ 1048576)
def OpenSpec.upto (s : _root_.Go.ChangeSpec) : _root_.Go.OpenSpec := { _root_.Go.OpenSpec.ofChange s with cond := some uptoSmall }

/-- 'tenorlaw12.SolvePolys', WHERE WHAT IT READS IS OF BULK AT MOST 1048576: true; the input reads as it did. -/
def solvePolysUptoRow : OpenClaim := { program := "ytoeifjnknhjchaa", sum := "5a92b5880bc8ac2b1e1936d0833889f29b183556282db9bd2a6bb4b2824bebd1", func := "tenor/tenorlaw12.SolvePolys", spec := "solvePolys", inPlace := ["math.Float64bits", "math.Float64frombits"], unfollowed := true, recurses := true, apart := false, narrowed := true }
def SolvePolysUptoSaid : Prop := solvePolysUptoRow.holds Try.pinned (OpenSpec.upto solvePolysSpec)

/-- 'tenorlaw12.SolveBrackets', WHERE WHAT IT READS IS OF BULK AT MOST 1048576: true; the input reads as it did. -/
def solveBracketsUptoRow : OpenClaim := { program := "ytoeifjnknhjchaa", sum := "5a92b5880bc8ac2b1e1936d0833889f29b183556282db9bd2a6bb4b2824bebd1", func := "tenor/tenorlaw12.SolveBrackets", spec := "solveBrackets", inPlace := ["math.Float64bits", "math.Float64frombits"], unfollowed := true, recurses := true, apart := false, narrowed := true }
def SolveBracketsUptoSaid : Prop := solveBracketsUptoRow.holds Try.pinned (OpenSpec.upto solveBracketsSpec)

/-- 'tenorlaw12.SolveJumps', WHERE WHAT IT READS IS OF BULK AT MOST 1048576: true; the input reads as it did. -/
def solveJumpsUptoRow : OpenClaim := { program := "ytoeifjnknhjchaa", sum := "5a92b5880bc8ac2b1e1936d0833889f29b183556282db9bd2a6bb4b2824bebd1", func := "tenor/tenorlaw12.SolveJumps", spec := "solveJumps", inPlace := ["math.Float64bits", "math.Float64frombits"], unfollowed := true, recurses := true, apart := false, narrowed := true }
def SolveJumpsUptoSaid : Prop := solveJumpsUptoRow.holds Try.pinned (OpenSpec.upto solveJumpsSpec)

/-- 'tenorlaw12.SolveOdd', WHERE WHAT IT READS IS OF BULK AT MOST 1048576: true; the input reads as it did. -/
def solveOddUptoRow : OpenClaim := { program := "ytoeifjnknhjchaa", sum := "5a92b5880bc8ac2b1e1936d0833889f29b183556282db9bd2a6bb4b2824bebd1", func := "tenor/tenorlaw12.SolveOdd", spec := "solveOdd", inPlace := ["math.Float64bits", "math.Float64frombits"], unfollowed := true, recurses := true, apart := false, narrowed := true }
def SolveOddUptoSaid : Prop := solveOddUptoRow.holds Try.pinned (OpenSpec.upto solveOddSpec)

/-- 'tenorlaw12.SolveNil', WHERE WHAT IT READS IS OF BULK AT MOST 1048576: true; the input reads as it did. -/
def solveNilUptoRow : OpenClaim := { program := "ytoeifjnknhjchaa", sum := "5a92b5880bc8ac2b1e1936d0833889f29b183556282db9bd2a6bb4b2824bebd1", func := "tenor/tenorlaw12.SolveNil", spec := "solveNil", inPlace := ["math.Float64bits", "math.Float64frombits"], unfollowed := true, recurses := true, apart := false, narrowed := true }
def SolveNilUptoSaid : Prop := solveNilUptoRow.holds Try.pinned (OpenSpec.upto solveNilSpec)

end Rows
end Go.Proofs.Ytoeifjnknhjchaa
