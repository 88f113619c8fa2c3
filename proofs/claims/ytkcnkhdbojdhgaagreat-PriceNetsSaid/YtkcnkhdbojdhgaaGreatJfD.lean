/- The contract of package flow's Scale. -/
import Derived.Test.YtkcnkhdbojdhgaaGreatJfC
import Derived.Test.YtkcnkhdbojdhgaaGreatHal
namespace Go.Proofs.YtkcnkhdbojdhgaaGreat
open Go.RowKit

def LstO (mk : Nat → Value) (t : TypeId) (o : Option (List Flw)) (E : Int) (base : Nat) (e : Ending) (w' : World) : Prop :=
  (o = none ∧ e = .returned (.tuple #[.slice none 0 0, .int .i64 E])) ∨ ∃ m u, o = some m ∧ e = .returned (.tuple #[u, .int .i64 0]) ∧ w'.ownsRow base t 3 u m.length (rowF mk m)
end Go.Proofs.YtkcnkhdbojdhgaaGreat
