/- The contracts of package acc's Sum and Dot (of numbers). -/
import Derived.Test.YtjfldlllofjnbaaGreatAccM
namespace Go.Proofs.YtjfldlllofjnbaaGreat.A
open Go.RowKit

def FitU (l : List Nat) : Prop := ∀ x ∈ l, x < 18446744073709551616
theorem FitU.get {l : List Nat} (h : FitU l) {i : Nat} (hi : i < l.length) : U64 ((l.getD i 0 : Nat) : Int) := by
  have e : l.getD i 0 = l[i] := by simp [List.getD, List.getElem?_eq_getElem hi]
  rw [e]
  exact u64_of_nat (h _ (List.getElem_mem hi))

/-- An Acc that is all of what was made since, with words in step with a count. -/
structure Run (w wr : World) (b : Nat) (v : Value) (L : Nat) (a : St) : Prop where
  acc : AccAt wr w.heap.size b v L a
  bl : Below w.heap.size w wr
theorem Run.did {w wr w' : World} {b : Nat} {v v' : Value} {L L' : Nat} {a a' : St} (h : Run w wr b v L a) (hd : Did wr w' w.heap.size b v L' a' v') : Run w w' b v' L' a' :=
  ⟨hd.acc, h.bl.trans (hd.wrote.below (fun k hk => (h.acc.base k hk).1) h.bl.size)⟩
theorem Run.mono {w wr : World} {b : Nat} {v : Value} {L L' : Nat} {a : St} (h : Run w wr b v L a) (hl : L ≤ L') : Run w wr b v L' a := ⟨h.acc.mono hl, h.bl⟩
theorem Run.drewN {w wr : World} {b : Nat} {v : Value} {L : Nat} {a : St} (h : Run w wr b v L a) (n : Nat) : Run w (wr.drewN n) b v L a :=
  ⟨h.acc.drewN n, ⟨h.bl.os, h.bl.tape, h.bl.output, h.bl.size, h.bl.block⟩⟩

/-- The numbers of a list. -/
def AllNum (l : List Nat) : Prop := ∀ x ∈ l, splOk (x : Int) = true
theorem AllNum.get {l : List Nat} (h : AllNum l) {i : Nat} (hi : i < l.length) : splOk ((l.getD i 0 : Nat) : Int) = true := by
  have e : l.getD i 0 = l[i] := by simp [List.getD, List.getElem?_eq_getElem hi]
  rw [e]
  exact h _ (List.getElem_mem hi)
end Go.Proofs.YtjfldlllofjnbaaGreat.A
