/- The contracts of package acc's Turn, Copy, Merge, Same. -/
import Derived.Test.YtjfldlllofjnbaaGreatHav
import Derived.Test.YtjfldlllofjnbaaGreatCShelf
namespace Go.Proofs.YtjfldlllofjnbaaGreat.A
open Go.RowKit

/-- Two Accs have no block in common. -/
def Apart (b : Nat) (v : Value) (c : Nat) (u : Value) : Prop := ∀ k, Ft b v k → ¬ Ft c u k
theorem Apart.symm {b c : Nat} {v u : Value} (h : Apart b v c u) : Apart c u b v := fun k h1 h2 => h k h2 h1
/-- Where one has gone on, they are apart still. -/
theorem Apart.step {w w' : World} {B B' b c L L' : Nat} {v v' u : Value} {a d : St} (h : Apart b v c u) (hd : Did w w' B b v L a v') (hc : AccAt w B' c u L' d) : Apart b v' c u := by
  rintro k (rfl | hk) h2
  · exact h k (Or.inl rfl) h2
  · rcases hd.new k hk with h3 | h3
    · exact h k (Or.inr h3) h2
    · have := (hc.base k h2).2; omega
theorem AccAt.apart {w w' : World} {B B' b c L L' : Nat} {v v' u : Value} {a d : St} (hc : AccAt w B' c u L' d) (h : Apart b v c u) (hd : Did w w' B b v L a v') : AccAt w' B' c u L' d :=
  hc.wrote hd.wrote (fun k h1 h2 => h k h2 h1)
end Go.Proofs.YtjfldlllofjnbaaGreat.A
