/-
  No cell of these rows narrows 'for every input' (looked for: loops, veiled, ifaces, maps, wideKeys, modest, calm, conditions, laid).
  DERIVED. THE GIVEN ROWS OF THIS SEAT. 6 by the template 'for every input the law returns true; each argument reads behind the call as it read before'; 0 by the template 'total and deterministic' (their statements: YtkooknagalgfpaaGreatTotals.lean).
  GIVEN WITH THE SEED: the statements are not yours to turn. If you find one false, say at which input.
  Laid BY PROGRAM, IN A SANDBOX (cutbox-rows.mjs): the forced cells as the released guide's own fill.sh prints them over the translation 8555b91dc4d3f1a0… (all of the seat's roots in one cut). By AI agents, Wed Nov 11 2026. No macro, syntax, notation, axiom, sorry.
-/
import Derived.Test.YtkooknagalgfpaaGreatChecked
import GoSem.Claim
import GoSem.ClaimJoined
import GoSem.ClaimMapViews
import Derived.JoinedTies
import Derived.KernelRfl
namespace Go.Proofs.YtkooknagalgfpaaGreat
/- THE CELL 'sum', in the pinned program and in every row, IS THE sha256 OF THE DUMP (.gsa) THAT YtkooknagalgfpaaGreatProg.lean LOADS. Nothing in Lean hashes anything: it is a label: what it is worth is what the hold of that sum in a sandbox is worth. -/
noncomputable def Tryz.pinned : Pinned := { name := "ytkooknagalgfpaagreat", sum := "8555b91dc4d3f1a05b0ab691202a8d62391efdd45667577012f2df796579dddc", checked := Tryz.checked }
namespace Rows
def none {H : Type} : Left H := { results := [], args := [] }

/-- 'tenorlaw13.BootChecks': WHATEVER THE INPUT: true; the input reads as it did. -/
def bootChecksSpec : ChangeSpec := { name := "bootChecks", fn := fun _ => fun
  | [d1, d2, d3, d4] => { results := [.lit (.bool true)], args := [d1, d2, d3, d4] }
  | _ => none }
def bootChecksRow : OpenClaim := { program := "ytkooknagalgfpaagreat", sum := "8555b91dc4d3f1a05b0ab691202a8d62391efdd45667577012f2df796579dddc", func := "tenor/tenorlaw13.BootChecks", spec := "bootChecks", inPlace := ["math.Float64bits", "math.Float64frombits", "math/bits.Sub64", "math/bits.Add64", "math.archFloor", "math.archTrunc", "math.Float32bits"], unfollowed := true, recurses := true, named := ["math/bits.divideError", "math/bits.overflowError"], apart := false }
def BootChecksSaid : Prop := bootChecksRow.holds Tryz.pinned (OpenSpec.ofChange bootChecksSpec)

/-- ITS FALSE NEIGHBOUR: 'it returns false'. Refute it at one input. -/
def bootChecksWrong : ChangeSpec := { name := "bootChecks", fn := fun _ => fun
  | [d1, d2, d3, d4] => { results := [.lit (.bool false)], args := [d1, d2, d3, d4] }
  | _ => none }
def BootChecksWrongFalsely : Prop := bootChecksRow.holds Tryz.pinned (OpenSpec.ofChange bootChecksWrong)

/-- 'tenorlaw13.BootWorths': WHATEVER THE INPUT: true; the input reads as it did. -/
def bootWorthsSpec : ChangeSpec := { name := "bootWorths", fn := fun _ => fun
  | [d1, d2, d3] => { results := [.lit (.bool true)], args := [d1, d2, d3] }
  | _ => none }
def bootWorthsRow : OpenClaim := { program := "ytkooknagalgfpaagreat", sum := "8555b91dc4d3f1a05b0ab691202a8d62391efdd45667577012f2df796579dddc", func := "tenor/tenorlaw13.BootWorths", spec := "bootWorths", inPlace := ["math.Float64bits", "math.Float64frombits", "math/bits.Sub64", "math/bits.Add64", "math.archFloor", "math.archTrunc", "math.Float32bits"], unfollowed := true, recurses := true, named := ["math/bits.divideError", "math/bits.overflowError"], apart := false }
def BootWorthsSaid : Prop := bootWorthsRow.holds Tryz.pinned (OpenSpec.ofChange bootWorthsSpec)

/-- ITS FALSE NEIGHBOUR: 'it returns false'. Refute it at one input. -/
def bootWorthsWrong : ChangeSpec := { name := "bootWorths", fn := fun _ => fun
  | [d1, d2, d3] => { results := [.lit (.bool false)], args := [d1, d2, d3] }
  | _ => none }
def BootWorthsWrongFalsely : Prop := bootWorthsRow.holds Tryz.pinned (OpenSpec.ofChange bootWorthsWrong)

/-- 'tenorlaw13.BootBuilds': WHATEVER THE INPUT: true; the input reads as it did. -/
def bootBuildsSpec : ChangeSpec := { name := "bootBuilds", fn := fun _ => fun
  | [d1, d2, d3, d4] => { results := [.lit (.bool true)], args := [d1, d2, d3, d4] }
  | _ => none }
def bootBuildsRow : OpenClaim := { program := "ytkooknagalgfpaagreat", sum := "8555b91dc4d3f1a05b0ab691202a8d62391efdd45667577012f2df796579dddc", func := "tenor/tenorlaw13.BootBuilds", spec := "bootBuilds", inPlace := ["math.Float64bits", "math.Float64frombits", "math/bits.Sub64", "math/bits.Add64", "math.archFloor", "math.archTrunc", "math.Float32bits"], unfollowed := true, recurses := true, named := ["math/bits.divideError", "math/bits.overflowError"], apart := false }
def BootBuildsSaid : Prop := bootBuildsRow.holds Tryz.pinned (OpenSpec.ofChange bootBuildsSpec)

/-- ITS FALSE NEIGHBOUR: 'it returns false'. Refute it at one input. -/
def bootBuildsWrong : ChangeSpec := { name := "bootBuilds", fn := fun _ => fun
  | [d1, d2, d3, d4] => { results := [.lit (.bool false)], args := [d1, d2, d3, d4] }
  | _ => none }
def BootBuildsWrongFalsely : Prop := bootBuildsRow.holds Tryz.pinned (OpenSpec.ofChange bootBuildsWrong)

/-- 'tenorlaw13.BootMeets': WHATEVER THE INPUT: true; the input reads as it did. -/
def bootMeetsSpec : ChangeSpec := { name := "bootMeets", fn := fun _ => fun
  | [d1, d2, d3, d4] => { results := [.lit (.bool true)], args := [d1, d2, d3, d4] }
  | _ => none }
def bootMeetsRow : OpenClaim := { program := "ytkooknagalgfpaagreat", sum := "8555b91dc4d3f1a05b0ab691202a8d62391efdd45667577012f2df796579dddc", func := "tenor/tenorlaw13.BootMeets", spec := "bootMeets", inPlace := ["math.Float64bits", "math.Float64frombits", "math/bits.Sub64", "math/bits.Add64", "math.archFloor", "math.archTrunc"], unfollowed := true, recurses := true, named := ["math/bits.divideError", "math/bits.overflowError"], apart := false }
def BootMeetsSaid : Prop := bootMeetsRow.holds Tryz.pinned (OpenSpec.ofChange bootMeetsSpec)

/-- ITS FALSE NEIGHBOUR: 'it returns false'. Refute it at one input. -/
def bootMeetsWrong : ChangeSpec := { name := "bootMeets", fn := fun _ => fun
  | [d1, d2, d3, d4] => { results := [.lit (.bool false)], args := [d1, d2, d3, d4] }
  | _ => none }
def BootMeetsWrongFalsely : Prop := bootMeetsRow.holds Tryz.pinned (OpenSpec.ofChange bootMeetsWrong)

/-- 'tenorlaw13.BootFirst': WHATEVER THE INPUT: true; the input reads as it did. -/
def bootFirstSpec : ChangeSpec := { name := "bootFirst", fn := fun _ => fun
  | [d1, d2, d3, d4, d5] => { results := [.lit (.bool true)], args := [d1, d2, d3, d4, d5] }
  | _ => none }
def bootFirstRow : OpenClaim := { program := "ytkooknagalgfpaagreat", sum := "8555b91dc4d3f1a05b0ab691202a8d62391efdd45667577012f2df796579dddc", func := "tenor/tenorlaw13.BootFirst", spec := "bootFirst", inPlace := ["math.Float64bits", "math.Float64frombits", "math/bits.Sub64", "math/bits.Add64", "math.archFloor", "math.archTrunc"], unfollowed := true, recurses := true, named := ["math/bits.divideError", "math/bits.overflowError"], apart := false }
def BootFirstSaid : Prop := bootFirstRow.holds Tryz.pinned (OpenSpec.ofChange bootFirstSpec)

/-- ITS FALSE NEIGHBOUR: 'it returns false'. Refute it at one input. -/
def bootFirstWrong : ChangeSpec := { name := "bootFirst", fn := fun _ => fun
  | [d1, d2, d3, d4, d5] => { results := [.lit (.bool false)], args := [d1, d2, d3, d4, d5] }
  | _ => none }
def BootFirstWrongFalsely : Prop := bootFirstRow.holds Tryz.pinned (OpenSpec.ofChange bootFirstWrong)

/-- 'tenorlaw13.BootLent': WHATEVER THE INPUT: true; the input reads as it did. -/
def bootLentSpec : ChangeSpec := { name := "bootLent", fn := fun _ => fun
  | [d1, d2, d3, d4] => { results := [.lit (.bool true)], args := [d1, d2, d3, d4] }
  | _ => none }
def bootLentRow : OpenClaim := { program := "ytkooknagalgfpaagreat", sum := "8555b91dc4d3f1a05b0ab691202a8d62391efdd45667577012f2df796579dddc", func := "tenor/tenorlaw13.BootLent", spec := "bootLent", inPlace := ["math.Float64bits", "math.Float64frombits", "math/bits.Sub64", "math/bits.Add64", "math.archFloor", "math.archTrunc", "math.Float32bits"], unfollowed := true, recurses := true, named := ["math/bits.divideError", "math/bits.overflowError"], apart := false }
def BootLentSaid : Prop := bootLentRow.holds Tryz.pinned (OpenSpec.ofChange bootLentSpec)

/-- ITS FALSE NEIGHBOUR: 'it returns false'. Refute it at one input. -/
def bootLentWrong : ChangeSpec := { name := "bootLent", fn := fun _ => fun
  | [d1, d2, d3, d4] => { results := [.lit (.bool false)], args := [d1, d2, d3, d4] }
  | _ => none }
def BootLentWrongFalsely : Prop := bootLentRow.holds Tryz.pinned (OpenSpec.ofChange bootLentWrong)

/- THE SECOND FORM. 'bulk': how many values and letters a reading holds, each counted each time it is reached (what is shared counts as often as it is met; a slice's spare places count too). A statement '..UptoSaid' is the law's where the arguments, and the package variables that the reading takes, are together of bulk at most 1048576: NARROWER than '..Said'. Prove '..Said' where nothing that the law and all that it calls make is longer than what came in: it says more and counts as full. Else prove '..UptoSaid'. A law counts once. -/
mutual
def uptoBulk {H : Type} : DataW H → Nat
  | .lit (.string bytes) => bytes.length + 1
  | .lit _ => 1
  | .nil => 1
  | .ptr d => uptoBulk d + 1
  | .slice elems spare => uptoBulkAll elems + uptoBulkAll spare + 1
  | .agg parts => uptoBulkAll parts + 1
  | .iface _ d => uptoBulk d + 1
  | .map entries => uptoBulkEntries entries + 1
  | .held _ => 1
def uptoBulkAll {H : Type} : List (DataW H) → Nat
  | [] => 0
  | d :: r => uptoBulk d + uptoBulkAll r
def uptoBulkEntries {H : Type} : List (Lit × DataW H) → Nat
  | [] => 0
  | x :: r => uptoBulkEntry x + uptoBulkEntries r
def uptoBulkEntry {H : Type} : Lit × DataW H → Nat
  | (.string bytes, d) => bytes.length + uptoBulk d + 1
  | (_, d) => uptoBulk d + 1
 end
def uptoSmall : (H : Type) → List (DataW H) → Bool := fun _ ds => decide (uptoBulkAll ds ≤ 1048576)
def OpenSpec.upto (s : _root_.Go.ChangeSpec) : _root_.Go.OpenSpec := { _root_.Go.OpenSpec.ofChange s with cond := some uptoSmall }

/-- 'tenorlaw13.BootChecks', WHERE WHAT IT READS IS OF BULK AT MOST 1048576: true; the input reads as it did. -/
def bootChecksUptoRow : OpenClaim := { program := "ytkooknagalgfpaagreat", sum := "8555b91dc4d3f1a05b0ab691202a8d62391efdd45667577012f2df796579dddc", func := "tenor/tenorlaw13.BootChecks", spec := "bootChecks", inPlace := ["math.Float64bits", "math.Float64frombits", "math/bits.Sub64", "math/bits.Add64", "math.archFloor", "math.archTrunc", "math.Float32bits"], unfollowed := true, recurses := true, named := ["math/bits.divideError", "math/bits.overflowError"], apart := false, narrowed := true }
def BootChecksUptoSaid : Prop := bootChecksUptoRow.holds Tryz.pinned (OpenSpec.upto bootChecksSpec)

/-- 'tenorlaw13.BootWorths', WHERE WHAT IT READS IS OF BULK AT MOST 1048576: true; the input reads as it did. -/
def bootWorthsUptoRow : OpenClaim := { program := "ytkooknagalgfpaagreat", sum := "8555b91dc4d3f1a05b0ab691202a8d62391efdd45667577012f2df796579dddc", func := "tenor/tenorlaw13.BootWorths", spec := "bootWorths", inPlace := ["math.Float64bits", "math.Float64frombits", "math/bits.Sub64", "math/bits.Add64", "math.archFloor", "math.archTrunc", "math.Float32bits"], unfollowed := true, recurses := true, named := ["math/bits.divideError", "math/bits.overflowError"], apart := false, narrowed := true }
def BootWorthsUptoSaid : Prop := bootWorthsUptoRow.holds Tryz.pinned (OpenSpec.upto bootWorthsSpec)

/-- 'tenorlaw13.BootBuilds', WHERE WHAT IT READS IS OF BULK AT MOST 1048576: true; the input reads as it did. -/
def bootBuildsUptoRow : OpenClaim := { program := "ytkooknagalgfpaagreat", sum := "8555b91dc4d3f1a05b0ab691202a8d62391efdd45667577012f2df796579dddc", func := "tenor/tenorlaw13.BootBuilds", spec := "bootBuilds", inPlace := ["math.Float64bits", "math.Float64frombits", "math/bits.Sub64", "math/bits.Add64", "math.archFloor", "math.archTrunc", "math.Float32bits"], unfollowed := true, recurses := true, named := ["math/bits.divideError", "math/bits.overflowError"], apart := false, narrowed := true }
def BootBuildsUptoSaid : Prop := bootBuildsUptoRow.holds Tryz.pinned (OpenSpec.upto bootBuildsSpec)

/-- 'tenorlaw13.BootMeets', WHERE WHAT IT READS IS OF BULK AT MOST 1048576: true; the input reads as it did. -/
def bootMeetsUptoRow : OpenClaim := { program := "ytkooknagalgfpaagreat", sum := "8555b91dc4d3f1a05b0ab691202a8d62391efdd45667577012f2df796579dddc", func := "tenor/tenorlaw13.BootMeets", spec := "bootMeets", inPlace := ["math.Float64bits", "math.Float64frombits", "math/bits.Sub64", "math/bits.Add64", "math.archFloor", "math.archTrunc"], unfollowed := true, recurses := true, named := ["math/bits.divideError", "math/bits.overflowError"], apart := false, narrowed := true }
def BootMeetsUptoSaid : Prop := bootMeetsUptoRow.holds Tryz.pinned (OpenSpec.upto bootMeetsSpec)

/-- 'tenorlaw13.BootFirst', WHERE WHAT IT READS IS OF BULK AT MOST 1048576: true; the input reads as it did. -/
def bootFirstUptoRow : OpenClaim := { program := "ytkooknagalgfpaagreat", sum := "8555b91dc4d3f1a05b0ab691202a8d62391efdd45667577012f2df796579dddc", func := "tenor/tenorlaw13.BootFirst", spec := "bootFirst", inPlace := ["math.Float64bits", "math.Float64frombits", "math/bits.Sub64", "math/bits.Add64", "math.archFloor", "math.archTrunc"], unfollowed := true, recurses := true, named := ["math/bits.divideError", "math/bits.overflowError"], apart := false, narrowed := true }
def BootFirstUptoSaid : Prop := bootFirstUptoRow.holds Tryz.pinned (OpenSpec.upto bootFirstSpec)

/-- 'tenorlaw13.BootLent', WHERE WHAT IT READS IS OF BULK AT MOST 1048576: true; the input reads as it did. -/
def bootLentUptoRow : OpenClaim := { program := "ytkooknagalgfpaagreat", sum := "8555b91dc4d3f1a05b0ab691202a8d62391efdd45667577012f2df796579dddc", func := "tenor/tenorlaw13.BootLent", spec := "bootLent", inPlace := ["math.Float64bits", "math.Float64frombits", "math/bits.Sub64", "math/bits.Add64", "math.archFloor", "math.archTrunc", "math.Float32bits"], unfollowed := true, recurses := true, named := ["math/bits.divideError", "math/bits.overflowError"], apart := false, narrowed := true }
def BootLentUptoSaid : Prop := bootLentUptoRow.holds Tryz.pinned (OpenSpec.upto bootLentSpec)

end Rows
end Go.Proofs.YtkooknagalgfpaaGreat
