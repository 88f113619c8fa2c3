/-
  No cell of these rows narrows 'for every input' (looked for: loops, veiled, ifaces, maps, wideKeys, modest, calm, conditions, laid).
  DERIVED. THE GIVEN ROWS OF THIS SEAT. 3 by the template 'for every input the law returns true; each argument reads behind the call as it read before'; 0 by the template 'total and deterministic' (their statements: YtglkhoekpafddabTotals.lean).
  GIVEN WITH THE SEED: the statements are not yours to turn. If you find one false, say at which input.
  Laid BY PROGRAM, IN A SANDBOX (cutbox-rows.mjs): the forced cells as the released guide's own fill.sh prints them over the translation 841f21a0234cdff8… (all of the seat's roots in one cut). By AI agents, Wed Nov 11 2026. No macro, syntax, notation, axiom, sorry.
-/
import Derived.Test.YtglkhoekpafddabChecked
import GoSem.Claim
import GoSem.ClaimJoined
import GoSem.ClaimMapViews
import Derived.JoinedTies
import Derived.KernelRfl
namespace Go.Proofs.Ytglkhoekpafddab
/- THE CELL 'sum', in the pinned program and in every row, IS THE sha256 OF THE DUMP (.gsa) THAT YtglkhoekpafddabProg.lean LOADS. Nothing in Lean hashes anything: it is a label: what it is worth is what the hold of that sum in a sandbox is worth. -/
noncomputable def Try.pinned : Pinned := { name := "ytglkhoekpafddab", sum := "841f21a0234cdff8c1687b66252075c52d209e5e6ce7050f19332bb92ae46b9e", checked := Try.checked }
namespace Rows
def none {H : Type} : Left H := { results := [], args := [] }

/-- 'tenorlaw6.CalOpen': WHATEVER THE INPUT: true; the input reads as it did. -/
def calOpenSpec : ChangeSpec := { name := "calOpen", fn := fun _ => fun
  | [d1, d2, d3] => { results := [.lit (.bool true)], args := [d1, d2, d3] }
  | _ => none }
def calOpenRow : OpenClaim := { program := "ytglkhoekpafddab", sum := "841f21a0234cdff8c1687b66252075c52d209e5e6ce7050f19332bb92ae46b9e", func := "tenor/tenorlaw6.CalOpen", spec := "calOpen", unfollowed := true, recurses := true, apart := false }
def CalOpenSaid : Prop := calOpenRow.holds Try.pinned (OpenSpec.ofChange calOpenSpec)

/-- ITS FALSE NEIGHBOUR: 'it returns false'. Refute it at one input. -/
def calOpenWrong : ChangeSpec := { name := "calOpen", fn := fun _ => fun
  | [d1, d2, d3] => { results := [.lit (.bool false)], args := [d1, d2, d3] }
  | _ => none }
def CalOpenWrongFalsely : Prop := calOpenRow.holds Try.pinned (OpenSpec.ofChange calOpenWrong)

/-- 'tenorlaw6.CalSteps': WHATEVER THE INPUT: true; the input reads as it did. -/
def calStepsSpec : ChangeSpec := { name := "calSteps", fn := fun _ => fun
  | [d1, d2, d3, d4] => { results := [.lit (.bool true)], args := [d1, d2, d3, d4] }
  | _ => none }
def calStepsRow : OpenClaim := { program := "ytglkhoekpafddab", sum := "841f21a0234cdff8c1687b66252075c52d209e5e6ce7050f19332bb92ae46b9e", func := "tenor/tenorlaw6.CalSteps", spec := "calSteps", unfollowed := true, recurses := true, apart := false }
def CalStepsSaid : Prop := calStepsRow.holds Try.pinned (OpenSpec.ofChange calStepsSpec)

/-- ITS FALSE NEIGHBOUR: 'it returns false'. Refute it at one input. -/
def calStepsWrong : ChangeSpec := { name := "calSteps", fn := fun _ => fun
  | [d1, d2, d3, d4] => { results := [.lit (.bool false)], args := [d1, d2, d3, d4] }
  | _ => none }
def CalStepsWrongFalsely : Prop := calStepsRow.holds Try.pinned (OpenSpec.ofChange calStepsWrong)

/-- 'tenorlaw6.CalBoth': WHATEVER THE INPUT: true; the input reads as it did. -/
def calBothSpec : ChangeSpec := { name := "calBoth", fn := fun _ => fun
  | [d1, d2, d3] => { results := [.lit (.bool true)], args := [d1, d2, d3] }
  | _ => none }
def calBothRow : OpenClaim := { program := "ytglkhoekpafddab", sum := "841f21a0234cdff8c1687b66252075c52d209e5e6ce7050f19332bb92ae46b9e", func := "tenor/tenorlaw6.CalBoth", spec := "calBoth", unfollowed := true, recurses := true, apart := false }
def CalBothSaid : Prop := calBothRow.holds Try.pinned (OpenSpec.ofChange calBothSpec)

/-- ITS FALSE NEIGHBOUR: 'it returns false'. Refute it at one input. -/
def calBothWrong : ChangeSpec := { name := "calBoth", fn := fun _ => fun
  | [d1, d2, d3] => { results := [.lit (.bool false)], args := [d1, d2, d3] }
  | _ => none }
def CalBothWrongFalsely : Prop := calBothRow.holds Try.pinned (OpenSpec.ofChange calBothWrong)

/- THE SECOND FORM. 'bulk': how many values and letters a reading holds, each counted each time it is reached (what is shared counts as often as it is met; a slice's spare places count too). A statement '..UptoSaid' is the law's where the arguments, and the package variables that the reading takes, are together of bulk at most 1048576: NARROWER than '..Said'. Prove '..Said' where nothing that the law and all that it calls make is longer than what came in: it says more and counts as full. Else prove '..UptoSaid'. A law counts once. -/
mutual
def uptoBulk {H : Type} : DataW H → Nat
  | .lit (.string bytes) => bytes.length + 1
  | .lit _ => 1
  | .nil => 1
  | .ptr d => uptoBulk d + 1
  | .slice elems spare => uptoBulkAll elems + uptoBulkAll spare + 1
  | .agg parts => uptoBulkAll parts + 1
  | .iface _ d => uptoBulk d + 1
  | .map entries => uptoBulkEntries entries + 1
  | .held _ => 1
def uptoBulkAll {H : Type} : List (DataW H) → Nat
  | [] => 0
  | d :: r => uptoBulk d + uptoBulkAll r
def uptoBulkEntries {H : Type} : List (Lit × DataW H) → Nat
  | [] => 0
  | x :: r => uptoBulkEntry x + uptoBulkEntries r
def uptoBulkEntry {H : Type} : Lit × DataW H → Nat
  | (.string bytes, d) => bytes.length + uptoBulk d + 1
  | (_, d) => uptoBulk d + 1
 end
def uptoSmall : (H : Type) → List (DataW H) → Bool := fun _ ds => decide (uptoBulkAll ds ≤ 1048576)
def OpenSpec.upto (s : _root_.Go.ChangeSpec) : _root_.Go.OpenSpec := { _root_.Go.OpenSpec.ofChange s with cond := some uptoSmall }

/-- 'tenorlaw6.CalOpen', WHERE WHAT IT READS IS OF BULK AT MOST 1048576: true; the input reads as it did. -/
def calOpenUptoRow : OpenClaim := { program := "ytglkhoekpafddab", sum := "841f21a0234cdff8c1687b66252075c52d209e5e6ce7050f19332bb92ae46b9e", func := "tenor/tenorlaw6.CalOpen", spec := "calOpen", unfollowed := true, recurses := true, apart := false, narrowed := true }
def CalOpenUptoSaid : Prop := calOpenUptoRow.holds Try.pinned (OpenSpec.upto calOpenSpec)

/-- 'tenorlaw6.CalSteps', WHERE WHAT IT READS IS OF BULK AT MOST 1048576: true; the input reads as it did. -/
def calStepsUptoRow : OpenClaim := { program := "ytglkhoekpafddab", sum := "841f21a0234cdff8c1687b66252075c52d209e5e6ce7050f19332bb92ae46b9e", func := "tenor/tenorlaw6.CalSteps", spec := "calSteps", unfollowed := true, recurses := true, apart := false, narrowed := true }
def CalStepsUptoSaid : Prop := calStepsUptoRow.holds Try.pinned (OpenSpec.upto calStepsSpec)

/-- 'tenorlaw6.CalBoth', WHERE WHAT IT READS IS OF BULK AT MOST 1048576: true; the input reads as it did. -/
def calBothUptoRow : OpenClaim := { program := "ytglkhoekpafddab", sum := "841f21a0234cdff8c1687b66252075c52d209e5e6ce7050f19332bb92ae46b9e", func := "tenor/tenorlaw6.CalBoth", spec := "calBoth", unfollowed := true, recurses := true, apart := false, narrowed := true }
def CalBothUptoSaid : Prop := calBothUptoRow.holds Try.pinned (OpenSpec.upto calBothSpec)

end Rows
end Go.Proofs.Ytglkhoekpafddab
