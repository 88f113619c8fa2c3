/-
  No cell of these rows narrows 'for every input' (looked for: loops, veiled, ifaces, maps, wideKeys, modest, calm, conditions, laid).
  DERIVED. THE GIVEN ROWS OF THIS SEAT. 5 by the template 'for every input the law returns true; each argument reads behind the call as it read before'; 0 by the template 'total and deterministic' (their statements: YtjjlnmihkadlmaaGreatTotals.lean).
  GIVEN WITH THE SEED: the statements are not yours to turn. If you find one false, say at which input.
  Laid BY PROGRAM, IN A SANDBOX (cutbox-rows.mjs): the forced cells as the released guide's own fill.sh prints them over the translation 6b71ddd04801c8ef… (all of the seat's roots in one cut). By AI agents, Wed Nov 11 2026. No macro, syntax, notation, axiom, sorry.
-/
import Derived.Test.YtjjlnmihkadlmaaGreatChecked
import GoSem.Claim
import GoSem.ClaimJoined
import GoSem.ClaimMapViews
import Derived.JoinedTies
import Derived.KernelRfl
namespace Go.Proofs.YtjjlnmihkadlmaaGreat
/- THE CELL 'sum', in the pinned program and in every row, IS THE sha256 OF THE DUMP (.gsa) THAT YtjjlnmihkadlmaaGreatProg.lean LOADS. Nothing in Lean hashes anything: it is a label: what it is worth is what the hold of that sum in a sandbox is worth. -/
noncomputable def Tryz.pinned : Pinned := { name := "ytjjlnmihkadlmaagreat", sum := "6b71ddd04801c8ef2c1b0e7f89d5d5938a707f8d6aa82bbfafc77ee4b27cc306", checked := Tryz.checked }
namespace Rows
def none {H : Type} : Left H := { results := [], args := [] }

/-- 'tenorlaw24.LifePlays': WHATEVER THE INPUT: true; the input reads as it did. -/
def lifePlaysSpec : ChangeSpec := { name := "lifePlays", fn := fun _ => fun
  | [d1, d2, d3, d4] => { results := [.lit (.bool true)], args := [d1, d2, d3, d4] }
  | _ => none }
def lifePlaysRow : OpenClaim := { program := "ytjjlnmihkadlmaagreat", sum := "6b71ddd04801c8ef2c1b0e7f89d5d5938a707f8d6aa82bbfafc77ee4b27cc306", func := "tenor/tenorlaw24.LifePlays", spec := "lifePlays", inPlace := ["math.Float64bits", "math.Float64frombits", "math/bits.Sub64", "math/bits.Add64", "math.archFloor", "math.archTrunc"], unfollowed := true, recurses := true, named := ["math/bits.divideError", "math/bits.overflowError"], apart := false }
def LifePlaysSaid : Prop := lifePlaysRow.holds Tryz.pinned (OpenSpec.ofChange lifePlaysSpec)

/-- ITS FALSE NEIGHBOUR: 'it returns false'. Refute it at one input. -/
def lifePlaysWrong : ChangeSpec := { name := "lifePlays", fn := fun _ => fun
  | [d1, d2, d3, d4] => { results := [.lit (.bool false)], args := [d1, d2, d3, d4] }
  | _ => none }
def LifePlaysWrongFalsely : Prop := lifePlaysRow.holds Tryz.pinned (OpenSpec.ofChange lifePlaysWrong)

/-- 'tenorlaw24.LifeRolls': WHATEVER THE INPUT: true; the input reads as it did. -/
def lifeRollsSpec : ChangeSpec := { name := "lifeRolls", fn := fun _ => fun
  | [d1, d2] => { results := [.lit (.bool true)], args := [d1, d2] }
  | _ => none }
def lifeRollsRow : OpenClaim := { program := "ytjjlnmihkadlmaagreat", sum := "6b71ddd04801c8ef2c1b0e7f89d5d5938a707f8d6aa82bbfafc77ee4b27cc306", func := "tenor/tenorlaw24.LifeRolls", spec := "lifeRolls", inPlace := ["math.Float64bits", "math.Float64frombits", "math/bits.Sub64", "math/bits.Add64", "math.archFloor", "math.archTrunc"], unfollowed := true, recurses := true, named := ["math/bits.divideError", "math/bits.overflowError"], apart := false }
def LifeRollsSaid : Prop := lifeRollsRow.holds Tryz.pinned (OpenSpec.ofChange lifeRollsSpec)

/-- ITS FALSE NEIGHBOUR: 'it returns false'. Refute it at one input. -/
def lifeRollsWrong : ChangeSpec := { name := "lifeRolls", fn := fun _ => fun
  | [d1, d2] => { results := [.lit (.bool false)], args := [d1, d2] }
  | _ => none }
def LifeRollsWrongFalsely : Prop := lifeRollsRow.holds Tryz.pinned (OpenSpec.ofChange lifeRollsWrong)

/-- 'tenorlaw24.LifeSteps': WHATEVER THE INPUT: true; the input reads as it did. -/
def lifeStepsSpec : ChangeSpec := { name := "lifeSteps", fn := fun _ => fun
  | [d1, d2, d3, d4, d5] => { results := [.lit (.bool true)], args := [d1, d2, d3, d4, d5] }
  | _ => none }
def lifeStepsRow : OpenClaim := { program := "ytjjlnmihkadlmaagreat", sum := "6b71ddd04801c8ef2c1b0e7f89d5d5938a707f8d6aa82bbfafc77ee4b27cc306", func := "tenor/tenorlaw24.LifeSteps", spec := "lifeSteps", inPlace := ["math.Float64bits", "math.Float64frombits", "math/bits.Sub64", "math/bits.Add64", "math.archFloor", "math.archTrunc"], unfollowed := true, recurses := true, named := ["math/bits.divideError", "math/bits.overflowError"], apart := false }
def LifeStepsSaid : Prop := lifeStepsRow.holds Tryz.pinned (OpenSpec.ofChange lifeStepsSpec)

/-- ITS FALSE NEIGHBOUR: 'it returns false'. Refute it at one input. -/
def lifeStepsWrong : ChangeSpec := { name := "lifeSteps", fn := fun _ => fun
  | [d1, d2, d3, d4, d5] => { results := [.lit (.bool false)], args := [d1, d2, d3, d4, d5] }
  | _ => none }
def LifeStepsWrongFalsely : Prop := lifeStepsRow.holds Tryz.pinned (OpenSpec.ofChange lifeStepsWrong)

/-- 'tenorlaw24.LifeFalls': WHATEVER THE INPUT: true; the input reads as it did. -/
def lifeFallsSpec : ChangeSpec := { name := "lifeFalls", fn := fun _ => fun
  | [d1, d2] => { results := [.lit (.bool true)], args := [d1, d2] }
  | _ => none }
def lifeFallsRow : OpenClaim := { program := "ytjjlnmihkadlmaagreat", sum := "6b71ddd04801c8ef2c1b0e7f89d5d5938a707f8d6aa82bbfafc77ee4b27cc306", func := "tenor/tenorlaw24.LifeFalls", spec := "lifeFalls", inPlace := ["math.Float64bits", "math.Float64frombits", "math/bits.Sub64", "math/bits.Add64", "math.archFloor", "math.archTrunc"], unfollowed := true, recurses := true, named := ["math/bits.divideError", "math/bits.overflowError"], apart := false }
def LifeFallsSaid : Prop := lifeFallsRow.holds Tryz.pinned (OpenSpec.ofChange lifeFallsSpec)

/-- ITS FALSE NEIGHBOUR: 'it returns false'. Refute it at one input. -/
def lifeFallsWrong : ChangeSpec := { name := "lifeFalls", fn := fun _ => fun
  | [d1, d2] => { results := [.lit (.bool false)], args := [d1, d2] }
  | _ => none }
def LifeFallsWrongFalsely : Prop := lifeFallsRow.holds Tryz.pinned (OpenSpec.ofChange lifeFallsWrong)

/-- 'tenorlaw24.LifeLent': WHATEVER THE INPUT: true; the input reads as it did. -/
def lifeLentSpec : ChangeSpec := { name := "lifeLent", fn := fun _ => fun
  | [d1, d2, d3, d4] => { results := [.lit (.bool true)], args := [d1, d2, d3, d4] }
  | _ => none }
def lifeLentRow : OpenClaim := { program := "ytjjlnmihkadlmaagreat", sum := "6b71ddd04801c8ef2c1b0e7f89d5d5938a707f8d6aa82bbfafc77ee4b27cc306", func := "tenor/tenorlaw24.LifeLent", spec := "lifeLent", inPlace := ["math.Float64bits", "math.Float64frombits", "math/bits.Sub64", "math/bits.Add64", "math.archFloor", "math.archTrunc"], unfollowed := true, recurses := true, named := ["math/bits.divideError", "math/bits.overflowError"], apart := false }
def LifeLentSaid : Prop := lifeLentRow.holds Tryz.pinned (OpenSpec.ofChange lifeLentSpec)

/-- ITS FALSE NEIGHBOUR: 'it returns false'. Refute it at one input. -/
def lifeLentWrong : ChangeSpec := { name := "lifeLent", fn := fun _ => fun
  | [d1, d2, d3, d4] => { results := [.lit (.bool false)], args := [d1, d2, d3, d4] }
  | _ => none }
def LifeLentWrongFalsely : Prop := lifeLentRow.holds Tryz.pinned (OpenSpec.ofChange lifeLentWrong)

/- THE SECOND FORM. 'bulk': how many values and letters a reading holds, each counted each time it is reached (what is shared counts as often as it is met; a slice's spare places count too). A statement '..UptoSaid' is the law's where the arguments, and the package variables that the reading takes, are together of bulk at most 1048576: NARROWER than '..Said'. Prove '..Said' where nothing that the law and all that it calls make is longer than what came in: it says more and counts as full. Else prove '..UptoSaid'. A law counts once. -/
mutual
def uptoBulk {H : Type} : DataW H → Nat
  | .lit (.string bytes) => bytes.length + 1
  | .lit _ => 1
  | .nil => 1
  | .ptr d => uptoBulk d + 1
  | .slice elems spare => uptoBulkAll elems + uptoBulkAll spare + 1
  | .agg parts => uptoBulkAll parts + 1
  | .iface _ d => uptoBulk d + 1
  | .map entries => uptoBulkEntries entries + 1
  | .held _ => 1
def uptoBulkAll {H : Type} : List (DataW H) → Nat
  | [] => 0
  | d :: r => uptoBulk d + uptoBulkAll r
def uptoBulkEntries {H : Type} : List (Lit × DataW H) → Nat
  | [] => 0
  | x :: r => uptoBulkEntry x + uptoBulkEntries r
def uptoBulkEntry {H : Type} : Lit × DataW H → Nat
  | (.string bytes, d) => bytes.length + uptoBulk d + 1
  | (_, d) => uptoBulk d + 1
 end
def uptoSmall : (H : Type) → List (DataW H) → Bool := fun _ ds => decide (uptoBulkAll ds ≤ 1048576)
def OpenSpec.upto (s : _root_.Go.ChangeSpec) : _root_.Go.OpenSpec := { _root_.Go.OpenSpec.ofChange s with cond := some uptoSmall }

/-- 'tenorlaw24.LifePlays', WHERE WHAT IT READS IS OF BULK AT MOST 1048576: true; the input reads as it did. -/
def lifePlaysUptoRow : OpenClaim := { program := "ytjjlnmihkadlmaagreat", sum := "6b71ddd04801c8ef2c1b0e7f89d5d5938a707f8d6aa82bbfafc77ee4b27cc306", func := "tenor/tenorlaw24.LifePlays", spec := "lifePlays", inPlace := ["math.Float64bits", "math.Float64frombits", "math/bits.Sub64", "math/bits.Add64", "math.archFloor", "math.archTrunc"], unfollowed := true, recurses := true, named := ["math/bits.divideError", "math/bits.overflowError"], apart := false, narrowed := true }
def LifePlaysUptoSaid : Prop := lifePlaysUptoRow.holds Tryz.pinned (OpenSpec.upto lifePlaysSpec)

/-- 'tenorlaw24.LifeRolls', WHERE WHAT IT READS IS OF BULK AT MOST 1048576: true; the input reads as it did. -/
def lifeRollsUptoRow : OpenClaim := { program := "ytjjlnmihkadlmaagreat", sum := "6b71ddd04801c8ef2c1b0e7f89d5d5938a707f8d6aa82bbfafc77ee4b27cc306", func := "tenor/tenorlaw24.LifeRolls", spec := "lifeRolls", inPlace := ["math.Float64bits", "math.Float64frombits", "math/bits.Sub64", "math/bits.Add64", "math.archFloor", "math.archTrunc"], unfollowed := true, recurses := true, named := ["math/bits.divideError", "math/bits.overflowError"], apart := false, narrowed := true }
def LifeRollsUptoSaid : Prop := lifeRollsUptoRow.holds Tryz.pinned (OpenSpec.upto lifeRollsSpec)

/-- 'tenorlaw24.LifeSteps', WHERE WHAT IT READS IS OF BULK AT MOST 1048576: true; the input reads as it did. -/
def lifeStepsUptoRow : OpenClaim := { program := "ytjjlnmihkadlmaagreat", sum := "6b71ddd04801c8ef2c1b0e7f89d5d5938a707f8d6aa82bbfafc77ee4b27cc306", func := "tenor/tenorlaw24.LifeSteps", spec := "lifeSteps", inPlace := ["math.Float64bits", "math.Float64frombits", "math/bits.Sub64", "math/bits.Add64", "math.archFloor", "math.archTrunc"], unfollowed := true, recurses := true, named := ["math/bits.divideError", "math/bits.overflowError"], apart := false, narrowed := true }
def LifeStepsUptoSaid : Prop := lifeStepsUptoRow.holds Tryz.pinned (OpenSpec.upto lifeStepsSpec)

/-- 'tenorlaw24.LifeFalls', WHERE WHAT IT READS IS OF BULK AT MOST 1048576: true; the input reads as it did. -/
def lifeFallsUptoRow : OpenClaim := { program := "ytjjlnmihkadlmaagreat", sum := "6b71ddd04801c8ef2c1b0e7f89d5d5938a707f8d6aa82bbfafc77ee4b27cc306", func := "tenor/tenorlaw24.LifeFalls", spec := "lifeFalls", inPlace := ["math.Float64bits", "math.Float64frombits", "math/bits.Sub64", "math/bits.Add64", "math.archFloor", "math.archTrunc"], unfollowed := true, recurses := true, named := ["math/bits.divideError", "math/bits.overflowError"], apart := false, narrowed := true }
def LifeFallsUptoSaid : Prop := lifeFallsUptoRow.holds Tryz.pinned (OpenSpec.upto lifeFallsSpec)

/-- 'tenorlaw24.LifeLent', WHERE WHAT IT READS IS OF BULK AT MOST 1048576: true; the input reads as it did. -/
def lifeLentUptoRow : OpenClaim := { program := "ytjjlnmihkadlmaagreat", sum := "6b71ddd04801c8ef2c1b0e7f89d5d5938a707f8d6aa82bbfafc77ee4b27cc306", func := "tenor/tenorlaw24.LifeLent", spec := "lifeLent", inPlace := ["math.Float64bits", "math.Float64frombits", "math/bits.Sub64", "math/bits.Add64", "math.archFloor", "math.archTrunc"], unfollowed := true, recurses := true, named := ["math/bits.divideError", "math/bits.overflowError"], apart := false, narrowed := true }
def LifeLentUptoSaid : Prop := lifeLentUptoRow.holds Tryz.pinned (OpenSpec.upto lifeLentSpec)

end Rows
end Go.Proofs.YtjjlnmihkadlmaaGreat
