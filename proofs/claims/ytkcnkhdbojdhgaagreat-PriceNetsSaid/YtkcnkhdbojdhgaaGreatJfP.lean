/- Flows in plain words: keys, sums by key, the keys in their order. -/
import Derived.Test.YtkcnkhdbojdhgaaGreatHan
import Derived.Test.YtkcnkhdbojdhgaaGreatHbd
namespace Go.Proofs.YtkcnkhdbojdhgaaGreat
open Go.RowKit

def keyF (f : Flw) : Int × Int := (f.cur, f.day)
def kadd (ks : List (Int × Int)) (x : Int × Int) : List (Int × Int) := if x ∈ ks then ks else ks ++ [x]
def keysN (l : List Flw) : Nat → List (Int × Int)
  | 0 => []
  | k + 1 => kadd (keysN l k) (keyF (l.getD k flw0))
def sumN (l : List Flw) (x : Int × Int) : Nat → A.St
  | 0 => ⟨0, 0⟩
  | k + 1 => if keyF (l.getD k flw0) = x then (sumN l x k).merge (A.oneS (l.getD k flw0).am) else sumN l x k
theorem keysN_mem (l : List Flw) (x : Int × Int) : ∀ k, x ∈ keysN l k ↔ ∃ i < k, keyF (l.getD i flw0) = x
  | 0 => ⟨fun h => (by cases h), fun ⟨i, hi, _⟩ => (by omega)⟩
  | k + 1 => by
    have ih := keysN_mem l x k
    show x ∈ kadd _ _ ↔ _
    unfold kadd
    split
    · rename_i hm
      constructor
      · intro h
        obtain ⟨i, hi, he⟩ := ih.1 h
        exact ⟨i, by omega, he⟩
      · rintro ⟨i, hi, he⟩
        by_cases c : i < k
        · exact ih.2 ⟨i, c, he⟩
        · obtain rfl : i = k := by omega
          rw [← he]; exact hm
    · rw [List.mem_append, List.mem_singleton]
      constructor
      · rintro (h | h)
        · obtain ⟨i, hi, he⟩ := ih.1 h
          exact ⟨i, by omega, he⟩
        · exact ⟨k, by omega, h.symm⟩
      · rintro ⟨i, hi, he⟩
        by_cases c : i < k
        · exact Or.inl (ih.2 ⟨i, c, he⟩)
        · obtain rfl : i = k := by omega
          exact Or.inr he.symm
theorem keysN_nodup (l : List Flw) : ∀ k, (keysN l k).Nodup
  | 0 => List.nodup_nil
  | k + 1 => by
    show (kadd _ _).Nodup
    unfold kadd
    split
    · exact keysN_nodup l k
    · rename_i hm
      rw [List.nodup_append]
      refine ⟨keysN_nodup l k, by simp, fun a ha b hb => ?_⟩
      rw [List.mem_singleton] at hb
      rintro rfl
      exact hm (hb ▸ ha)
theorem keysN_len (l : List Flw) : ∀ k, (keysN l k).length ≤ k
  | 0 => Nat.le_refl _
  | k + 1 => by
    have := keysN_len l k
    show (kadd _ _).length ≤ _
    unfold kadd
    split
    · omega
    · rw [List.length_append]; simp; omega
def ltK (x y : Int × Int) : Prop := x.1 < y.1 ∨ x.1 = y.1 ∧ x.2 < y.2
theorem ltK_trans {x y z : Int × Int} (h : ltK x y) (h' : ltK y z) : ltK x z := by unfold ltK at *; omega
theorem ltK_irrefl (x : Int × Int) : ¬ ltK x x := by unfold ltK; omega
theorem ltK_total {x y : Int × Int} (h : x ≠ y) : ltK x y ∨ ltK y x := by
  unfold ltK
  obtain ⟨a, b⟩ := x
  obtain ⟨c, d⟩ := y
  have : ¬ (a = c ∧ b = d) := fun ⟨h1, h2⟩ => h (by rw [h1, h2])
  dsimp only
  omega
structure KeyR (l : List Flw) (S : List (Int × Int)) : Prop where
  rise : S.Pairwise ltK
  mem : ∀ x, x ∈ S ↔ ∃ i < l.length, keyF (l.getD i flw0) = x
theorem KeyR.len {l : List Flw} {S : List (Int × Int)} (h : KeyR l S) : S.Nodup := List.Pairwise.imp (R := ltK) (S := fun a b => a ≠ b) (fun {a b} hab e => ltK_irrefl a (by rw [← e] at hab; exact hab)) h.rise
def netA (l : List Flw) (x : Int × Int) : Nat := A.valSt (sumN l x l.length)
def netF (l : List Flw) (x : Int × Int) : Flw := ⟨x.2, netA l x, x.1⟩
end Go.Proofs.YtkcnkhdbojdhgaaGreat
