/-
  No cell of these rows narrows 'for every input' (looked for: loops, veiled, ifaces, maps, wideKeys, modest, calm, conditions, laid).
  DERIVED. THE GIVEN ROWS OF THIS SEAT. 4 by the template 'for every input the law returns true; each argument reads behind the call as it read before'; 0 by the template 'total and deterministic' (their statements: YtejpplcccbiplaaTotals.lean).
  GIVEN WITH THE SEED: the statements are not yours to turn. If you find one false, say at which input.
  Laid BY PROGRAM, IN A SANDBOX (cutbox-rows.mjs): the forced cells as the released guide's own fill.sh prints them over the translation 7bbd72f89e7b0d71… (all of the seat's roots in one cut). By AI agents, Wed Nov 11 2026. No macro, syntax, notation, axiom, sorry.
-/
import Derived.Test.YtejpplcccbiplaaChecked
import GoSem.Claim
import GoSem.ClaimJoined
import GoSem.ClaimMapViews
import Derived.JoinedTies
import Derived.KernelRfl
namespace Go.Proofs.Ytejpplcccbiplaa
/- THE CELL 'sum', in the pinned program and in every row, IS THE sha256 OF THE DUMP (.gsa) THAT YtejpplcccbiplaaProg.lean LOADS. Nothing in Lean hashes anything: it is a label: what it is worth is what the hold of that sum in a sandbox is worth. -/
noncomputable def Try.pinned : Pinned := { name := "ytejpplcccbiplaa", sum := "7bbd72f89e7b0d71b4f5253f3b62559831a8e975162a8e3884be6e5cbb7a2d23", checked := Try.checked }
namespace Rows
def none {H : Type} : Left H := { results := [], args := [] }

/-- 'tenorlaw3.AccOrder': WHATEVER THE INPUT: true; the input reads as it did. -/
def accOrderSpec : ChangeSpec := { name := "accOrder", fn := fun _ => fun
  | [d1, d2, d3] => { results := [.lit (.bool true)], args := [d1, d2, d3] }
  | _ => none }
def accOrderRow : OpenClaim := { program := "ytejpplcccbiplaa", sum := "7bbd72f89e7b0d71b4f5253f3b62559831a8e975162a8e3884be6e5cbb7a2d23", func := "tenor/tenorlaw3.AccOrder", spec := "accOrder", inPlace := ["math.Float64bits", "math/bits.Sub64", "math/bits.Add64", "math.Float64frombits"], recurses := true, named := ["math/bits.divideError", "math/bits.overflowError"], apart := false }
def AccOrderSaid : Prop := accOrderRow.holds Try.pinned (OpenSpec.ofChange accOrderSpec)

/-- ITS FALSE NEIGHBOUR: 'it returns false'. Refute it at one input. -/
def accOrderWrong : ChangeSpec := { name := "accOrder", fn := fun _ => fun
  | [d1, d2, d3] => { results := [.lit (.bool false)], args := [d1, d2, d3] }
  | _ => none }
def AccOrderWrongFalsely : Prop := accOrderRow.holds Try.pinned (OpenSpec.ofChange accOrderWrong)

/-- 'tenorlaw3.AccGone': WHATEVER THE INPUT: true; the input reads as it did. -/
def accGoneSpec : ChangeSpec := { name := "accGone", fn := fun _ => fun
  | [d1, d2] => { results := [.lit (.bool true)], args := [d1, d2] }
  | _ => none }
def accGoneRow : OpenClaim := { program := "ytejpplcccbiplaa", sum := "7bbd72f89e7b0d71b4f5253f3b62559831a8e975162a8e3884be6e5cbb7a2d23", func := "tenor/tenorlaw3.AccGone", spec := "accGone", inPlace := ["math.Float64bits", "math/bits.Sub64", "math/bits.Add64", "math.Float64frombits"], recurses := true, named := ["math/bits.divideError", "math/bits.overflowError"], apart := false }
def AccGoneSaid : Prop := accGoneRow.holds Try.pinned (OpenSpec.ofChange accGoneSpec)

/-- ITS FALSE NEIGHBOUR: 'it returns false'. Refute it at one input. -/
def accGoneWrong : ChangeSpec := { name := "accGone", fn := fun _ => fun
  | [d1, d2] => { results := [.lit (.bool false)], args := [d1, d2] }
  | _ => none }
def AccGoneWrongFalsely : Prop := accGoneRow.holds Try.pinned (OpenSpec.ofChange accGoneWrong)

/-- 'tenorlaw3.AccNear': WHATEVER THE INPUT: true; the input reads as it did. -/
def accNearSpec : ChangeSpec := { name := "accNear", fn := fun _ => fun
  | [d] => { results := [.lit (.bool true)], args := [d] }
  | _ => none }
def accNearRow : OpenClaim := { program := "ytejpplcccbiplaa", sum := "7bbd72f89e7b0d71b4f5253f3b62559831a8e975162a8e3884be6e5cbb7a2d23", func := "tenor/tenorlaw3.AccNear", spec := "accNear", inPlace := ["math.Float64bits", "math/bits.Sub64", "math/bits.Add64", "math.Float64frombits"], recurses := true, named := ["math/bits.divideError", "math/bits.overflowError"], apart := false }
def AccNearSaid : Prop := accNearRow.holds Try.pinned (OpenSpec.ofChange accNearSpec)

/-- ITS FALSE NEIGHBOUR: 'it returns false'. Refute it at one input. -/
def accNearWrong : ChangeSpec := { name := "accNear", fn := fun _ => fun
  | [d] => { results := [.lit (.bool false)], args := [d] }
  | _ => none }
def AccNearWrongFalsely : Prop := accNearRow.holds Try.pinned (OpenSpec.ofChange accNearWrong)

/-- 'tenorlaw3.AccWhole': WHATEVER THE INPUT: true; the input reads as it did. -/
def accWholeSpec : ChangeSpec := { name := "accWhole", fn := fun _ => fun
  | [d] => { results := [.lit (.bool true)], args := [d] }
  | _ => none }
def accWholeRow : OpenClaim := { program := "ytejpplcccbiplaa", sum := "7bbd72f89e7b0d71b4f5253f3b62559831a8e975162a8e3884be6e5cbb7a2d23", func := "tenor/tenorlaw3.AccWhole", spec := "accWhole", inPlace := ["math.Float64bits", "math.Float64frombits", "math/bits.Sub64", "math/bits.Add64"], recurses := true, named := ["math/bits.divideError", "math/bits.overflowError"], apart := false }
def AccWholeSaid : Prop := accWholeRow.holds Try.pinned (OpenSpec.ofChange accWholeSpec)

/-- ITS FALSE NEIGHBOUR: 'it returns false'. Refute it at one input. -/
def accWholeWrong : ChangeSpec := { name := "accWhole", fn := fun _ => fun
  | [d] => { results := [.lit (.bool false)], args := [d] }
  | _ => none }
def AccWholeWrongFalsely : Prop := accWholeRow.holds Try.pinned (OpenSpec.ofChange accWholeWrong)

/- THE SECOND FORM. 'bulk': how many values and letters a reading holds, each counted each time it is reached (what is shared counts as often as it is met; a slice's spare places count too). A statement '..UptoSaid' is the law's where the arguments, and the package variables that the reading takes, are together of bulk at most 1048576: NARROWER than '..Said'. Prove '..Said' where nothing that the law and all that it calls make is longer than what came in: it says more and counts as full. Else prove '..UptoSaid'. A law counts once. -/
mutual
def uptoBulk {H : Type} : DataW H → Nat
  | .lit (.string bytes) => bytes.length + 1
  | .lit _ => 1
  | .nil => 1
  | .ptr d => uptoBulk d + 1
  | .slice elems spare => uptoBulkAll elems + uptoBulkAll spare + 1
  | .agg parts => uptoBulkAll parts + 1
  | .iface _ d => uptoBulk d + 1
  | .map entries => uptoBulkEntries entries + 1
  | .held _ => 1
def uptoBulkAll {H : Type} : List (DataW H) → Nat
  | [] => 0
  | d :: r => uptoBulk d + uptoBulkAll r
def uptoBulkEntries {H : Type} : List (Lit × DataW H) → Nat
  | [] => 0
  | x :: r => uptoBulkEntry x + uptoBulkEntries r
def uptoBulkEntry {H : Type} : Lit × DataW H → Nat
  | (.string bytes, d) => bytes.length + uptoBulk d + 1
  | (_, d) => uptoBulk d + 1
 end
def uptoSmall : (H : Type) → List (DataW H) → Bool := fun _ ds => decide (uptoBulkAll ds ≤ 1048576)
def OpenSpec.upto (s : _root_.Go.ChangeSpec) : _root_.Go.OpenSpec := { _root_.Go.OpenSpec.ofChange s with cond := some uptoSmall }

/-- 'tenorlaw3.AccOrder', WHERE WHAT IT READS IS OF BULK AT MOST 1048576: true; the input reads as it did. -/
def accOrderUptoRow : OpenClaim := { program := "ytejpplcccbiplaa", sum := "7bbd72f89e7b0d71b4f5253f3b62559831a8e975162a8e3884be6e5cbb7a2d23", func := "tenor/tenorlaw3.AccOrder", spec := "accOrder", inPlace := ["math.Float64bits", "math/bits.Sub64", "math/bits.Add64", "math.Float64frombits"], recurses := true, named := ["math/bits.divideError", "math/bits.overflowError"], apart := false, narrowed := true }
def AccOrderUptoSaid : Prop := accOrderUptoRow.holds Try.pinned (OpenSpec.upto accOrderSpec)

/-- 'tenorlaw3.AccGone', WHERE WHAT IT READS IS OF BULK AT MOST 1048576: true; the input reads as it did. -/
def accGoneUptoRow : OpenClaim := { program := "ytejpplcccbiplaa", sum := "7bbd72f89e7b0d71b4f5253f3b62559831a8e975162a8e3884be6e5cbb7a2d23", func := "tenor/tenorlaw3.AccGone", spec := "accGone", inPlace := ["math.Float64bits", "math/bits.Sub64", "math/bits.Add64", "math.Float64frombits"], recurses := true, named := ["math/bits.divideError", "math/bits.overflowError"], apart := false, narrowed := true }
def AccGoneUptoSaid : Prop := accGoneUptoRow.holds Try.pinned (OpenSpec.upto accGoneSpec)

/-- 'tenorlaw3.AccNear', WHERE WHAT IT READS IS OF BULK AT MOST 1048576: true; the input reads as it did. -/
def accNearUptoRow : OpenClaim := { program := "ytejpplcccbiplaa", sum := "7bbd72f89e7b0d71b4f5253f3b62559831a8e975162a8e3884be6e5cbb7a2d23", func := "tenor/tenorlaw3.AccNear", spec := "accNear", inPlace := ["math.Float64bits", "math/bits.Sub64", "math/bits.Add64", "math.Float64frombits"], recurses := true, named := ["math/bits.divideError", "math/bits.overflowError"], apart := false, narrowed := true }
def AccNearUptoSaid : Prop := accNearUptoRow.holds Try.pinned (OpenSpec.upto accNearSpec)

/-- 'tenorlaw3.AccWhole', WHERE WHAT IT READS IS OF BULK AT MOST 1048576: true; the input reads as it did. -/
def accWholeUptoRow : OpenClaim := { program := "ytejpplcccbiplaa", sum := "7bbd72f89e7b0d71b4f5253f3b62559831a8e975162a8e3884be6e5cbb7a2d23", func := "tenor/tenorlaw3.AccWhole", spec := "accWhole", inPlace := ["math.Float64bits", "math.Float64frombits", "math/bits.Sub64", "math/bits.Add64"], recurses := true, named := ["math/bits.divideError", "math/bits.overflowError"], apart := false, narrowed := true }
def AccWholeUptoSaid : Prop := accWholeUptoRow.holds Try.pinned (OpenSpec.upto accWholeSpec)

end Rows
end Go.Proofs.Ytejpplcccbiplaa
