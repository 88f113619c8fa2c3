/- The contracts of package acc's Turn, Copy, Merge, Same. -/
import Derived.Test.YtdmldggjgaaliaaGreatAccK
namespace Go.Proofs.YtdmldggjgaaliaaGreat.A
open Go.RowKit

theorem copied_acc {w w1 : World} {B L : Nat} {v1 : Value} {a : St} {xs : List Nat} (hok : a.Ok) (hl : xs.length ≤ L) (hs : Sg xs a.N) (hB : B ≤ w.heap.size) (o1 : OwnW w1 w.heap.size v1 xs) (b1 : Below w.heap.size w w1) :
    AccAt (w1.alloc (.cells #[.int .u8 (a.s : Int), v1] 60)) B w1.heap.size v1 L a ∧ (∀ k, Ft w1.heap.size v1 k → w.heap.size ≤ k) ∧ Below w.heap.size w (w1.alloc (.cells #[.int .u8 (a.s : Int), v1] 60)) := by
  have hsz := b1.size
  have o2 : OwnW w1 B v1 xs := by
    refine ⟨⟨o1.own.1, ?_⟩, o1.fit⟩
    rcases o1.own.2 with h6 | ⟨g, cap, cur, h6, h7, rest⟩
    · exact .inl h6
    · exact .inr ⟨g, cap, cur, h6, Nat.le_trans hB h7, rest⟩
  refine ⟨⟨heap_alloc_new w1 _, by omega, ⟨xs, o2.alloc _, hl, hs⟩, fun e => ?_, hok⟩, ?_, b1.alloc hsz _⟩
  · have := (o1.lt _ e).2; omega
  · rintro k (rfl | hk)
    · exact hsz
    · exact (o1.lt k hk).1

/-- Two Accs have no block in common. -/
def Apart (b : Nat) (v : Value) (c : Nat) (u : Value) : Prop := ∀ k, Ft b v k → ¬ Ft c u k
theorem Apart.symm {b c : Nat} {v u : Value} (h : Apart b v c u) : Apart c u b v := fun k h1 h2 => h k h2 h1
/-- Where one has gone on, they are apart still. -/
theorem Apart.step {w w' : World} {B B' b c L L' : Nat} {v v' u : Value} {a d : St} (h : Apart b v c u) (hd : Did w w' B b v L a v') (hc : AccAt w B' c u L' d) : Apart b v' c u := by
  rintro k (rfl | hk) h2
  · exact h k (Or.inl rfl) h2
  · rcases hd.new k hk with h3 | h3
    · exact h k (Or.inr h3) h2
    · have := (hc.base k h2).2; omega
theorem AccAt.apart {w w' : World} {B B' b c L L' : Nat} {v v' u : Value} {a d : St} (hc : AccAt w B' c u L' d) (h : Apart b v c u) (hd : Did w w' B b v L a v') : AccAt w' B' c u L' d :=
  hc.wrote hd.wrote (fun k h1 h2 => h k h2 h1)
theorem merge_zero {a d : St} (h : mt a.s d.s = 0) : a.s = 0 ∧ d.s = 0 := by
  unfold mt at h
  split at h
  · rename_i h1; rcases h1 with h1 | h1 <;> omega
  · split at h <;> omega
