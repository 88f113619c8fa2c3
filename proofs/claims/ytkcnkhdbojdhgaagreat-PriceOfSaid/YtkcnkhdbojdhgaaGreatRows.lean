/-
  No cell of these rows narrows 'for every input' (looked for: loops, veiled, ifaces, maps, wideKeys, modest, calm, conditions, laid).
  DERIVED. THE GIVEN ROWS OF THIS SEAT. 6 by the template 'for every input the law returns true; each argument reads behind the call as it read before'; 0 by the template 'total and deterministic' (their statements: YtkcnkhdbojdhgaaGreatTotals.lean).
  GIVEN WITH THE SEED: the statements are not yours to turn. If you find one false, say at which input.
  Laid BY PROGRAM, IN A SANDBOX (cutbox-rows.mjs): the forced cells as the released guide's own fill.sh prints them over the translation c5c03be0489219b3… (all of the seat's roots in one cut). By AI agents, Wed Nov 11 2026. No macro, syntax, notation, axiom, sorry.
-/
import Derived.Test.YtkcnkhdbojdhgaaGreatChecked
import GoSem.Claim
import GoSem.ClaimJoined
import GoSem.ClaimMapViews
import Derived.JoinedTies
import Derived.KernelRfl
namespace Go.Proofs.YtkcnkhdbojdhgaaGreat
/- THE CELL 'sum', in the pinned program and in every row, IS THE sha256 OF THE DUMP (.gsa) THAT YtkcnkhdbojdhgaaGreatProg.lean LOADS. Nothing in Lean hashes anything: it is a label: what it is worth is what the hold of that sum in a sandbox is worth. -/
noncomputable def Tryz.pinned : Pinned := { name := "ytkcnkhdbojdhgaagreat", sum := "c5c03be0489219b34562bc71502b492a718f7b1050177ef3d4c1c5e4f07ccfa5", checked := Tryz.checked }
namespace Rows
def none {H : Type} : Left H := { results := [], args := [] }

/-- 'tenorlaw15.PriceOf': WHATEVER THE INPUT: true; the input reads as it did. -/
def priceOfSpec : ChangeSpec := { name := "priceOf", fn := fun _ => fun
  | [d1, d2, d3] => { results := [.lit (.bool true)], args := [d1, d2, d3] }
  | _ => none }
def priceOfRow : OpenClaim := { program := "ytkcnkhdbojdhgaagreat", sum := "c5c03be0489219b34562bc71502b492a718f7b1050177ef3d4c1c5e4f07ccfa5", func := "tenor/tenorlaw15.PriceOf", spec := "priceOf", inPlace := ["math.Float64bits", "math/bits.Sub64", "math/bits.Add64", "math.Float64frombits", "math.archFloor", "math.archTrunc"], unfollowed := true, recurses := true, named := ["math/bits.divideError", "math/bits.overflowError"], plainKeys := false, apart := false }
def PriceOfSaid : Prop := priceOfRow.holds Tryz.pinned (OpenSpec.ofChange priceOfSpec)

/-- ITS FALSE NEIGHBOUR: 'it returns false'. Refute it at one input. -/
def priceOfWrong : ChangeSpec := { name := "priceOf", fn := fun _ => fun
  | [d1, d2, d3] => { results := [.lit (.bool false)], args := [d1, d2, d3] }
  | _ => none }
def PriceOfWrongFalsely : Prop := priceOfRow.holds Tryz.pinned (OpenSpec.ofChange priceOfWrong)

/-- 'tenorlaw15.PricePars': WHATEVER THE INPUT: true; the input reads as it did. -/
def priceParsSpec : ChangeSpec := { name := "pricePars", fn := fun _ => fun
  | [d1, d2] => { results := [.lit (.bool true)], args := [d1, d2] }
  | _ => none }
def priceParsRow : OpenClaim := { program := "ytkcnkhdbojdhgaagreat", sum := "c5c03be0489219b34562bc71502b492a718f7b1050177ef3d4c1c5e4f07ccfa5", func := "tenor/tenorlaw15.PricePars", spec := "pricePars", inPlace := ["math.Float64bits", "math/bits.Sub64", "math/bits.Add64", "math.Float64frombits", "math.archFloor", "math.archTrunc"], unfollowed := true, recurses := true, named := ["math/bits.divideError", "math/bits.overflowError"], plainKeys := false, apart := false }
def PriceParsSaid : Prop := priceParsRow.holds Tryz.pinned (OpenSpec.ofChange priceParsSpec)

/-- ITS FALSE NEIGHBOUR: 'it returns false'. Refute it at one input. -/
def priceParsWrong : ChangeSpec := { name := "pricePars", fn := fun _ => fun
  | [d1, d2] => { results := [.lit (.bool false)], args := [d1, d2] }
  | _ => none }
def PriceParsWrongFalsely : Prop := priceParsRow.holds Tryz.pinned (OpenSpec.ofChange priceParsWrong)

/-- 'tenorlaw15.PriceParts': WHATEVER THE INPUT: true; the input reads as it did. -/
def pricePartsSpec : ChangeSpec := { name := "priceParts", fn := fun _ => fun
  | [d1, d2, d3, d4, d5] => { results := [.lit (.bool true)], args := [d1, d2, d3, d4, d5] }
  | _ => none }
def pricePartsRow : OpenClaim := { program := "ytkcnkhdbojdhgaagreat", sum := "c5c03be0489219b34562bc71502b492a718f7b1050177ef3d4c1c5e4f07ccfa5", func := "tenor/tenorlaw15.PriceParts", spec := "priceParts", inPlace := ["math.Float64bits", "math/bits.Sub64", "math/bits.Add64", "math.Float64frombits", "math.archFloor", "math.archTrunc"], unfollowed := true, recurses := true, named := ["math/bits.divideError", "math/bits.overflowError"], plainKeys := false, apart := false }
def PricePartsSaid : Prop := pricePartsRow.holds Tryz.pinned (OpenSpec.ofChange pricePartsSpec)

/-- ITS FALSE NEIGHBOUR: 'it returns false'. Refute it at one input. -/
def pricePartsWrong : ChangeSpec := { name := "priceParts", fn := fun _ => fun
  | [d1, d2, d3, d4, d5] => { results := [.lit (.bool false)], args := [d1, d2, d3, d4, d5] }
  | _ => none }
def PricePartsWrongFalsely : Prop := pricePartsRow.holds Tryz.pinned (OpenSpec.ofChange pricePartsWrong)

/-- 'tenorlaw15.PriceNets': WHATEVER THE INPUT: true; the input reads as it did. -/
def priceNetsSpec : ChangeSpec := { name := "priceNets", fn := fun _ => fun
  | [d1, d2, d3] => { results := [.lit (.bool true)], args := [d1, d2, d3] }
  | _ => none }
def priceNetsRow : OpenClaim := { program := "ytkcnkhdbojdhgaagreat", sum := "c5c03be0489219b34562bc71502b492a718f7b1050177ef3d4c1c5e4f07ccfa5", func := "tenor/tenorlaw15.PriceNets", spec := "priceNets", inPlace := ["math.Float64bits", "math/bits.Sub64", "math/bits.Add64", "math.Float64frombits", "math.archFloor", "math.archTrunc"], unfollowed := true, recurses := true, named := ["math/bits.divideError", "math/bits.overflowError"], plainKeys := false, apart := false }
def PriceNetsSaid : Prop := priceNetsRow.holds Tryz.pinned (OpenSpec.ofChange priceNetsSpec)

/-- ITS FALSE NEIGHBOUR: 'it returns false'. Refute it at one input. -/
def priceNetsWrong : ChangeSpec := { name := "priceNets", fn := fun _ => fun
  | [d1, d2, d3] => { results := [.lit (.bool false)], args := [d1, d2, d3] }
  | _ => none }
def PriceNetsWrongFalsely : Prop := priceNetsRow.holds Tryz.pinned (OpenSpec.ofChange priceNetsWrong)

/-- 'tenorlaw15.PriceRises': WHATEVER THE INPUT: true; the input reads as it did. -/
def priceRisesSpec : ChangeSpec := { name := "priceRises", fn := fun _ => fun
  | [d1, d2, d3, d4] => { results := [.lit (.bool true)], args := [d1, d2, d3, d4] }
  | _ => none }
def priceRisesRow : OpenClaim := { program := "ytkcnkhdbojdhgaagreat", sum := "c5c03be0489219b34562bc71502b492a718f7b1050177ef3d4c1c5e4f07ccfa5", func := "tenor/tenorlaw15.PriceRises", spec := "priceRises", inPlace := ["math.Float64bits", "math/bits.Sub64", "math/bits.Add64", "math.Float64frombits", "math.archFloor", "math.archTrunc"], unfollowed := true, recurses := true, named := ["math/bits.divideError", "math/bits.overflowError"], plainKeys := false, apart := false }
def PriceRisesSaid : Prop := priceRisesRow.holds Tryz.pinned (OpenSpec.ofChange priceRisesSpec)

/-- ITS FALSE NEIGHBOUR: 'it returns false'. Refute it at one input. -/
def priceRisesWrong : ChangeSpec := { name := "priceRises", fn := fun _ => fun
  | [d1, d2, d3, d4] => { results := [.lit (.bool false)], args := [d1, d2, d3, d4] }
  | _ => none }
def PriceRisesWrongFalsely : Prop := priceRisesRow.holds Tryz.pinned (OpenSpec.ofChange priceRisesWrong)

/-- 'tenorlaw15.PriceScales': WHATEVER THE INPUT: true; the input reads as it did. -/
def priceScalesSpec : ChangeSpec := { name := "priceScales", fn := fun _ => fun
  | [d1, d2, d3, d4] => { results := [.lit (.bool true)], args := [d1, d2, d3, d4] }
  | _ => none }
def priceScalesRow : OpenClaim := { program := "ytkcnkhdbojdhgaagreat", sum := "c5c03be0489219b34562bc71502b492a718f7b1050177ef3d4c1c5e4f07ccfa5", func := "tenor/tenorlaw15.PriceScales", spec := "priceScales", inPlace := ["math.Float64bits", "math/bits.Sub64", "math/bits.Add64", "math.Float64frombits", "math.archFloor", "math.archTrunc"], unfollowed := true, recurses := true, named := ["math/bits.divideError", "math/bits.overflowError"], plainKeys := false, apart := false }
def PriceScalesSaid : Prop := priceScalesRow.holds Tryz.pinned (OpenSpec.ofChange priceScalesSpec)

/-- ITS FALSE NEIGHBOUR: 'it returns false'. Refute it at one input. -/
def priceScalesWrong : ChangeSpec := { name := "priceScales", fn := fun _ => fun
  | [d1, d2, d3, d4] => { results := [.lit (.bool false)], args := [d1, d2, d3, d4] }
  | _ => none }
def PriceScalesWrongFalsely : Prop := priceScalesRow.holds Tryz.pinned (OpenSpec.ofChange priceScalesWrong)

/- THE SECOND FORM. 'bulk': how many values and letters a reading holds, each counted each time it is reached (what is shared counts as often as it is met; a slice's spare places count too). A statement '..UptoSaid' is the law's where the arguments, and the package variables that the reading takes, are together of bulk at most 1048576: NARROWER than '..Said'. Prove '..Said' where nothing that the law and all that it calls make is longer than what came in: it says more and counts as full. Else prove '..UptoSaid'. A law counts once. -/
mutual
def uptoBulk {H : Type} : DataW H → Nat
  | .lit (.string bytes) => bytes.length + 1
  | .lit _ => 1
  | .nil => 1
  | .ptr d => uptoBulk d + 1
  | .slice elems spare => uptoBulkAll elems + uptoBulkAll spare + 1
  | .agg parts => uptoBulkAll parts + 1
  | .iface _ d => uptoBulk d + 1
  | .map entries => uptoBulkEntries entries + 1
  | .held _ => 1
def uptoBulkAll {H : Type} : List (DataW H) → Nat
  | [] => 0
  | d :: r => uptoBulk d + uptoBulkAll r
def uptoBulkEntries {H : Type} : List (Lit × DataW H) → Nat
  | [] => 0
  | x :: r => uptoBulkEntry x + uptoBulkEntries r
def uptoBulkEntry {H : Type} : Lit × DataW H → Nat
  | (.string bytes, d) => bytes.length + uptoBulk d + 1
  | (_, d) => uptoBulk d + 1
 end
def uptoSmall : (H : Type) → List (DataW H) → Bool := fun _ ds => decide (uptoBulkAll ds ≤ 1048576)
def OpenSpec.upto (s : _root_.Go.ChangeSpec) : _root_.Go.OpenSpec := { _root_.Go.OpenSpec.ofChange s with cond := some uptoSmall }

/-- 'tenorlaw15.PriceOf', WHERE WHAT IT READS IS OF BULK AT MOST 1048576: true; the input reads as it did. -/
def priceOfUptoRow : OpenClaim := { program := "ytkcnkhdbojdhgaagreat", sum := "c5c03be0489219b34562bc71502b492a718f7b1050177ef3d4c1c5e4f07ccfa5", func := "tenor/tenorlaw15.PriceOf", spec := "priceOf", inPlace := ["math.Float64bits", "math/bits.Sub64", "math/bits.Add64", "math.Float64frombits", "math.archFloor", "math.archTrunc"], unfollowed := true, recurses := true, named := ["math/bits.divideError", "math/bits.overflowError"], plainKeys := false, apart := false, narrowed := true }
def PriceOfUptoSaid : Prop := priceOfUptoRow.holds Tryz.pinned (OpenSpec.upto priceOfSpec)

/-- 'tenorlaw15.PricePars', WHERE WHAT IT READS IS OF BULK AT MOST 1048576: true; the input reads as it did. -/
def priceParsUptoRow : OpenClaim := { program := "ytkcnkhdbojdhgaagreat", sum := "c5c03be0489219b34562bc71502b492a718f7b1050177ef3d4c1c5e4f07ccfa5", func := "tenor/tenorlaw15.PricePars", spec := "pricePars", inPlace := ["math.Float64bits", "math/bits.Sub64", "math/bits.Add64", "math.Float64frombits", "math.archFloor", "math.archTrunc"], unfollowed := true, recurses := true, named := ["math/bits.divideError", "math/bits.overflowError"], plainKeys := false, apart := false, narrowed := true }
def PriceParsUptoSaid : Prop := priceParsUptoRow.holds Tryz.pinned (OpenSpec.upto priceParsSpec)

/-- 'tenorlaw15.PriceParts', WHERE WHAT IT READS IS OF BULK AT MOST 1048576: true; the input reads as it did. -/
def pricePartsUptoRow : OpenClaim := { program := "ytkcnkhdbojdhgaagreat", sum := "c5c03be0489219b34562bc71502b492a718f7b1050177ef3d4c1c5e4f07ccfa5", func := "tenor/tenorlaw15.PriceParts", spec := "priceParts", inPlace := ["math.Float64bits", "math/bits.Sub64", "math/bits.Add64", "math.Float64frombits", "math.archFloor", "math.archTrunc"], unfollowed := true, recurses := true, named := ["math/bits.divideError", "math/bits.overflowError"], plainKeys := false, apart := false, narrowed := true }
def PricePartsUptoSaid : Prop := pricePartsUptoRow.holds Tryz.pinned (OpenSpec.upto pricePartsSpec)

/-- 'tenorlaw15.PriceNets', WHERE WHAT IT READS IS OF BULK AT MOST 1048576: true; the input reads as it did. -/
def priceNetsUptoRow : OpenClaim := { program := "ytkcnkhdbojdhgaagreat", sum := "c5c03be0489219b34562bc71502b492a718f7b1050177ef3d4c1c5e4f07ccfa5", func := "tenor/tenorlaw15.PriceNets", spec := "priceNets", inPlace := ["math.Float64bits", "math/bits.Sub64", "math/bits.Add64", "math.Float64frombits", "math.archFloor", "math.archTrunc"], unfollowed := true, recurses := true, named := ["math/bits.divideError", "math/bits.overflowError"], plainKeys := false, apart := false, narrowed := true }
def PriceNetsUptoSaid : Prop := priceNetsUptoRow.holds Tryz.pinned (OpenSpec.upto priceNetsSpec)

/-- 'tenorlaw15.PriceRises', WHERE WHAT IT READS IS OF BULK AT MOST 1048576: true; the input reads as it did. -/
def priceRisesUptoRow : OpenClaim := { program := "ytkcnkhdbojdhgaagreat", sum := "c5c03be0489219b34562bc71502b492a718f7b1050177ef3d4c1c5e4f07ccfa5", func := "tenor/tenorlaw15.PriceRises", spec := "priceRises", inPlace := ["math.Float64bits", "math/bits.Sub64", "math/bits.Add64", "math.Float64frombits", "math.archFloor", "math.archTrunc"], unfollowed := true, recurses := true, named := ["math/bits.divideError", "math/bits.overflowError"], plainKeys := false, apart := false, narrowed := true }
def PriceRisesUptoSaid : Prop := priceRisesUptoRow.holds Tryz.pinned (OpenSpec.upto priceRisesSpec)

/-- 'tenorlaw15.PriceScales', WHERE WHAT IT READS IS OF BULK AT MOST 1048576: true; the input reads as it did. -/
def priceScalesUptoRow : OpenClaim := { program := "ytkcnkhdbojdhgaagreat", sum := "c5c03be0489219b34562bc71502b492a718f7b1050177ef3d4c1c5e4f07ccfa5", func := "tenor/tenorlaw15.PriceScales", spec := "priceScales", inPlace := ["math.Float64bits", "math/bits.Sub64", "math/bits.Add64", "math.Float64frombits", "math.archFloor", "math.archTrunc"], unfollowed := true, recurses := true, named := ["math/bits.divideError", "math/bits.overflowError"], plainKeys := false, apart := false, narrowed := true }
def PriceScalesUptoSaid : Prop := priceScalesUptoRow.holds Tryz.pinned (OpenSpec.upto priceScalesSpec)

end Rows
end Go.Proofs.YtkcnkhdbojdhgaaGreat
