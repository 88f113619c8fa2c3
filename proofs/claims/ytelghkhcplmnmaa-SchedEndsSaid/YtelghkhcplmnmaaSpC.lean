/- The contract of sched's between: the points that lie inside. -/
import Derived.Test.YtelghkhcplmnmaaSpB
import Derived.Test.YtelghkhcplmnmaaHan
import Derived.WalkMore
namespace Go.Proofs.Ytelghkhcplmnmaa
open Go.RowKit

/-- What between tells: il the lists of the first points, ev whether it comes out even. -/
def BetG (il : Nat → List Int) (ev : Bool) (K : Nat) (w : World) (e : Ending) (w' : World) : Prop :=
  (1200 ≤ K ∧ e = .returned (.tuple #[.slice none 0 0, .bool false, .int .i64 81])) ∨ (K < 1200 ∧ ∃ q c, e = .returned (.tuple #[.slice q K c, .bool ev, .int .i64 0]) ∧ w'.ownsRow (w.heap.size + 1) 3 1 (.slice q K c) K ((il K).map iV))

/-- What between has at hand. -/
structure BetH (s : Spc) (W : Int) (v : Value) (K : Nat) (pk : Nat → Option Int) (il : Nat → List Int) (ev : Bool) (A O G : Int) : Prop where
  ins : ∀ j < K, ∃ x, pk (j + 1) = some x ∧ s.st < x ∧ x < s.en
  out : (pk (K + 1) = none ∧ ev = false) ∨ ∃ x, pk (K + 1) = some x ∧ (decide (s.st < x) = false ∨ (decide (s.st < x) = true ∧ decide (x < s.en) = false)) ∧ ev = (x == O)
  pt : ∀ (k : Nat) (J : Int) (o : Option Int) wx, k ≤ 1200 → J = (k : Int) * G → pk k = o → Calls Try.prog 24 #[.agg #[.int .i64 s.st, .int .i64 s.en, .int .i64 s.n, .int .i64 s.unit, .int .i64 s.stub, .int .i64 s.roll, .int .i64 s.conv, .int .i64 s.lag, .int .i64 W, v], .int .i64 A, .int .i64 J] wx fun e w' => e = .returned (.tuple #[.int .i64 (o.getD 0), .bool o.isSome]) ∧ Below wx.heap.size wx w'
  zero : il 0 = []
  succ : ∀ k, il (k + 1) = il k ++ [(pk (k + 1)).getD 0]
  len : ∀ k, (il k).length = k
  sg : G = 1 ∨ G = -1

end Go.Proofs.Ytelghkhcplmnmaa
