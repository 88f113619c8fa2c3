/- The contract of the document's Prod of two numbers, and of Value. -/
import Derived.Test.YtjfldlllofjnbaaGreatRefAcc3
import Derived.Test.YtjfldlllofjnbaaGreatHap
namespace Go.Proofs.YtjfldlllofjnbaaGreat
open Go.RowKit

/-- The real of a sum, in its box. -/
def Three (w' : World) (B : Nat) (neg : Bool) (v : Value) (e : Int) : Prop :=
  w'.cell? ⟨B, 1, none⟩ = some (.bool neg) ∧ w'.cell? ⟨B, 2, none⟩ = some v ∧ w'.cell? ⟨B, 3, none⟩ = some (.int .i64 e)
theorem Cells8.three {w1 w : World} {s : Int} {neg : Bool} {v : Value} {e : Int} (h : Cells8 w1 w s neg v e) : Three w1 w.heap.size neg v e := ⟨h.c1, h.c2, h.c3⟩
end Go.Proofs.YtjfldlllofjnbaaGreat
