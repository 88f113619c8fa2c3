/-
  No cell of these rows narrows 'for every input' (looked for: loops, veiled, ifaces, maps, wideKeys, modest, calm, conditions, laid).
  DERIVED. THE GIVEN ROWS OF THIS SEAT. 4 by the template 'for every input the law returns true; each argument reads behind the call as it read before'; 0 by the template 'total and deterministic' (their statements: YtjfldlllofjnbaaGreatTotals.lean).
  GIVEN WITH THE SEED: the statements are not yours to turn. If you find one false, say at which input.
  Laid BY PROGRAM, IN A SANDBOX (cutbox-rows.mjs): the forced cells as the released guide's own fill.sh prints them over the translation 25ff6be410c7d38e… (all of the seat's roots in one cut). By AI agents, Wed Nov 11 2026. No macro, syntax, notation, axiom, sorry.
-/
import Derived.Test.YtjfldlllofjnbaaGreatChecked
import GoSem.Claim
import GoSem.ClaimJoined
import GoSem.ClaimMapViews
import Derived.JoinedTies
import Derived.KernelRfl
namespace Go.Proofs.YtjfldlllofjnbaaGreat
/- THE CELL 'sum', in the pinned program and in every row, IS THE sha256 OF THE DUMP (.gsa) THAT YtjfldlllofjnbaaGreatProg.lean LOADS. Nothing in Lean hashes anything: it is a label: what it is worth is what the hold of that sum in a sandbox is worth. -/
noncomputable def Tryz.pinned : Pinned := { name := "ytjfldlllofjnbaagreat", sum := "25ff6be410c7d38e9e563b8c697ce48e037b57f0b6d2f0c311d39bc1b69e282b", checked := Tryz.checked }
namespace Rows
def none {H : Type} : Left H := { results := [], args := [] }

/-- 'tenorlaw14.FlowFixed': WHATEVER THE INPUT: true; the input reads as it did. -/
def flowFixedSpec : ChangeSpec := { name := "flowFixed", fn := fun _ => fun
  | [d] => { results := [.lit (.bool true)], args := [d] }
  | _ => none }
def flowFixedRow : OpenClaim := { program := "ytjfldlllofjnbaagreat", sum := "25ff6be410c7d38e9e563b8c697ce48e037b57f0b6d2f0c311d39bc1b69e282b", func := "tenor/tenorlaw14.FlowFixed", spec := "flowFixed", inPlace := ["math.Float64bits", "math.Float64frombits", "math/bits.Sub64", "math/bits.Add64"], unfollowed := true, recurses := true, plainKeys := false, apart := false }
def FlowFixedSaid : Prop := flowFixedRow.holds Tryz.pinned (OpenSpec.ofChange flowFixedSpec)

/-- ITS FALSE NEIGHBOUR: 'it returns false'. Refute it at one input. -/
def flowFixedWrong : ChangeSpec := { name := "flowFixed", fn := fun _ => fun
  | [d] => { results := [.lit (.bool false)], args := [d] }
  | _ => none }
def FlowFixedWrongFalsely : Prop := flowFixedRow.holds Tryz.pinned (OpenSpec.ofChange flowFixedWrong)

/-- 'tenorlaw14.FlowFloat': WHATEVER THE INPUT: true; the input reads as it did. -/
def flowFloatSpec : ChangeSpec := { name := "flowFloat", fn := fun _ => fun
  | [d1, d2] => { results := [.lit (.bool true)], args := [d1, d2] }
  | _ => none }
def flowFloatRow : OpenClaim := { program := "ytjfldlllofjnbaagreat", sum := "25ff6be410c7d38e9e563b8c697ce48e037b57f0b6d2f0c311d39bc1b69e282b", func := "tenor/tenorlaw14.FlowFloat", spec := "flowFloat", inPlace := ["math.Float64bits", "math.Float64frombits", "math/bits.Sub64", "math/bits.Add64", "math.archFloor", "math.archTrunc"], unfollowed := true, recurses := true, named := ["math/bits.divideError", "math/bits.overflowError"], plainKeys := false, apart := false }
def FlowFloatSaid : Prop := flowFloatRow.holds Tryz.pinned (OpenSpec.ofChange flowFloatSpec)

/-- ITS FALSE NEIGHBOUR: 'it returns false'. Refute it at one input. -/
def flowFloatWrong : ChangeSpec := { name := "flowFloat", fn := fun _ => fun
  | [d1, d2] => { results := [.lit (.bool false)], args := [d1, d2] }
  | _ => none }
def FlowFloatWrongFalsely : Prop := flowFloatRow.holds Tryz.pinned (OpenSpec.ofChange flowFloatWrong)

/-- 'tenorlaw14.FlowLists': WHATEVER THE INPUT: true; the input reads as it did. -/
def flowListsSpec : ChangeSpec := { name := "flowLists", fn := fun _ => fun
  | [d1, d2, d3, d4, d5] => { results := [.lit (.bool true)], args := [d1, d2, d3, d4, d5] }
  | _ => none }
def flowListsRow : OpenClaim := { program := "ytjfldlllofjnbaagreat", sum := "25ff6be410c7d38e9e563b8c697ce48e037b57f0b6d2f0c311d39bc1b69e282b", func := "tenor/tenorlaw14.FlowLists", spec := "flowLists", inPlace := ["math.Float64bits", "math.Float64frombits", "math/bits.Sub64", "math/bits.Add64"], unfollowed := true, recurses := true, plainKeys := false, apart := false }
def FlowListsSaid : Prop := flowListsRow.holds Tryz.pinned (OpenSpec.ofChange flowListsSpec)

/-- ITS FALSE NEIGHBOUR: 'it returns false'. Refute it at one input. -/
def flowListsWrong : ChangeSpec := { name := "flowLists", fn := fun _ => fun
  | [d1, d2, d3, d4, d5] => { results := [.lit (.bool false)], args := [d1, d2, d3, d4, d5] }
  | _ => none }
def FlowListsWrongFalsely : Prop := flowListsRow.holds Tryz.pinned (OpenSpec.ofChange flowListsWrong)

/-- 'tenorlaw14.FlowNets': WHATEVER THE INPUT: true; the input reads as it did. -/
def flowNetsSpec : ChangeSpec := { name := "flowNets", fn := fun _ => fun
  | [d] => { results := [.lit (.bool true)], args := [d] }
  | _ => none }
def flowNetsRow : OpenClaim := { program := "ytjfldlllofjnbaagreat", sum := "25ff6be410c7d38e9e563b8c697ce48e037b57f0b6d2f0c311d39bc1b69e282b", func := "tenor/tenorlaw14.FlowNets", spec := "flowNets", inPlace := ["math.Float64bits", "math.Float64frombits", "math/bits.Sub64", "math/bits.Add64"], unfollowed := true, recurses := true, plainKeys := false, apart := false }
def FlowNetsSaid : Prop := flowNetsRow.holds Tryz.pinned (OpenSpec.ofChange flowNetsSpec)

/-- ITS FALSE NEIGHBOUR: 'it returns false'. Refute it at one input. -/
def flowNetsWrong : ChangeSpec := { name := "flowNets", fn := fun _ => fun
  | [d] => { results := [.lit (.bool false)], args := [d] }
  | _ => none }
def FlowNetsWrongFalsely : Prop := flowNetsRow.holds Tryz.pinned (OpenSpec.ofChange flowNetsWrong)

/- THE SECOND FORM. 'bulk': how many values and letters a reading holds, each counted each time it is reached (what is shared counts as often as it is met; a slice's spare places count too). A statement '..UptoSaid' is the law's where the arguments, and the package variables that the reading takes, are together of bulk at most 1048576: NARROWER than '..Said'. Prove '..Said' where nothing that the law and all that it calls make is longer than what came in: it says more and counts as full. Else prove '..UptoSaid'. A law counts once. -/
mutual
def uptoBulk {H : Type} : DataW H → Nat
  | .lit (.string bytes) => bytes.length + 1
  | .lit _ => 1
  | .nil => 1
  | .ptr d => uptoBulk d + 1
  | .slice elems spare => uptoBulkAll elems + uptoBulkAll spare + 1
  | .agg parts => uptoBulkAll parts + 1
  | .iface _ d => uptoBulk d + 1
  | .map entries => uptoBulkEntries entries + 1
  | .held _ => 1
def uptoBulkAll {H : Type} : List (DataW H) → Nat
  | [] => 0
  | d :: r => uptoBulk d + uptoBulkAll r
def uptoBulkEntries {H : Type} : List (Lit × DataW H) → Nat
  | [] => 0
  | x :: r => uptoBulkEntry x + uptoBulkEntries r
def uptoBulkEntry {H : Type} : Lit × DataW H → Nat
  | (.string bytes, d) => bytes.length + uptoBulk d + 1
  | (_, d) => uptoBulk d + 1
 end
def uptoSmall : (H : Type) → List (DataW H) → Bool := fun _ ds => decide (uptoBulkAll ds ≤ 1048576)
def OpenSpec.upto (s : _root_.Go.ChangeSpec) : _root_.Go.OpenSpec := { _root_.Go.OpenSpec.ofChange s with cond := some uptoSmall }

/-- 'tenorlaw14.FlowFixed', WHERE WHAT IT READS IS OF BULK AT MOST 1048576: true; the input reads as it did. -/
def flowFixedUptoRow : OpenClaim := { program := "ytjfldlllofjnbaagreat", sum := "25ff6be410c7d38e9e563b8c697ce48e037b57f0b6d2f0c311d39bc1b69e282b", func := "tenor/tenorlaw14.FlowFixed", spec := "flowFixed", inPlace := ["math.Float64bits", "math.Float64frombits", "math/bits.Sub64", "math/bits.Add64"], unfollowed := true, recurses := true, plainKeys := false, apart := false, narrowed := true }
def FlowFixedUptoSaid : Prop := flowFixedUptoRow.holds Tryz.pinned (OpenSpec.upto flowFixedSpec)

/-- 'tenorlaw14.FlowFloat', WHERE WHAT IT READS IS OF BULK AT MOST 1048576: true; the input reads as it did. -/
def flowFloatUptoRow : OpenClaim := { program := "ytjfldlllofjnbaagreat", sum := "25ff6be410c7d38e9e563b8c697ce48e037b57f0b6d2f0c311d39bc1b69e282b", func := "tenor/tenorlaw14.FlowFloat", spec := "flowFloat", inPlace := ["math.Float64bits", "math.Float64frombits", "math/bits.Sub64", "math/bits.Add64", "math.archFloor", "math.archTrunc"], unfollowed := true, recurses := true, named := ["math/bits.divideError", "math/bits.overflowError"], plainKeys := false, apart := false, narrowed := true }
def FlowFloatUptoSaid : Prop := flowFloatUptoRow.holds Tryz.pinned (OpenSpec.upto flowFloatSpec)

/-- 'tenorlaw14.FlowLists', WHERE WHAT IT READS IS OF BULK AT MOST 1048576: true; the input reads as it did. -/
def flowListsUptoRow : OpenClaim := { program := "ytjfldlllofjnbaagreat", sum := "25ff6be410c7d38e9e563b8c697ce48e037b57f0b6d2f0c311d39bc1b69e282b", func := "tenor/tenorlaw14.FlowLists", spec := "flowLists", inPlace := ["math.Float64bits", "math.Float64frombits", "math/bits.Sub64", "math/bits.Add64"], unfollowed := true, recurses := true, plainKeys := false, apart := false, narrowed := true }
def FlowListsUptoSaid : Prop := flowListsUptoRow.holds Tryz.pinned (OpenSpec.upto flowListsSpec)

/-- 'tenorlaw14.FlowNets', WHERE WHAT IT READS IS OF BULK AT MOST 1048576: true; the input reads as it did. -/
def flowNetsUptoRow : OpenClaim := { program := "ytjfldlllofjnbaagreat", sum := "25ff6be410c7d38e9e563b8c697ce48e037b57f0b6d2f0c311d39bc1b69e282b", func := "tenor/tenorlaw14.FlowNets", spec := "flowNets", inPlace := ["math.Float64bits", "math.Float64frombits", "math/bits.Sub64", "math/bits.Add64"], unfollowed := true, recurses := true, plainKeys := false, apart := false, narrowed := true }
def FlowNetsUptoSaid : Prop := flowNetsUptoRow.holds Tryz.pinned (OpenSpec.upto flowNetsSpec)

end Rows
end Go.Proofs.YtjfldlllofjnbaaGreat
