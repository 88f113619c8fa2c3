/- The contract of the document's Slopes. The contract of the document's Points. -/
import Derived.Test.YtkcnkhdbojdhgaaGreatHav
import Derived.Test.YtkcnkhdbojdhgaaGreatHan
import Derived.Test.YtkcnkhdbojdhgaaGreatHal
namespace Go.Proofs.YtkcnkhdbojdhgaaGreat
open Go.RowKit

def slB (a b : Nat) : Nat := if (ltB 0 (a : Nat) && ltB 0 (b : Nat)) || (ltB (a : Nat) 0 && ltB (b : Nat) 0) then sDiv 4611686018427387904 (sAdd (sDiv 4607182418800017408 a) (sDiv 4607182418800017408 b)) else 0
def slopP (xs : List Int) (ys : List Nat) : Nat → List Nat
  | 0 => [steepB xs ys 0]
  | k + 1 => slopP xs ys k ++ [slB (steepB xs ys k) (steepB xs ys (k + 1))]
def slopL (xs : List Int) (ys : List Nat) (n : Nat) : List Nat := if n = 1 then [0] else slopP xs ys (n - 2) ++ [steepB xs ys (n - 2)]
theorem slopP_len (xs : List Int) (ys : List Nat) : ∀ k, (slopP xs ys k).length = k + 1
  | 0 => rfl
  | k + 1 => by show (slopP xs ys k ++ [_]).length = _; rw [List.length_append, slopP_len xs ys k]; rfl
theorem slopP_next (xs : List Int) (ys : List Nat) (k : Nat) : slopP xs ys (k + 1) = slopP xs ys k ++ [slB (steepB xs ys k) (steepB xs ys (k + 1))] := rfl
inductive SlO (a b : Nat) : Nat → Prop
  | up (h1 : ltB 0 (a : Nat) = true) (h2 : ltB 0 (b : Nat) = true) : SlO a b (sDiv 4611686018427387904 (sAdd (sDiv 4607182418800017408 a) (sDiv 4607182418800017408 b)))
  | down1 (h1 : ltB 0 (a : Nat) = false) (h3 : ltB (a : Nat) 0 = true) (h4 : ltB (b : Nat) 0 = true) : SlO a b (sDiv 4611686018427387904 (sAdd (sDiv 4607182418800017408 a) (sDiv 4607182418800017408 b)))
  | flat1 (h1 : ltB 0 (a : Nat) = false) (h3 : ltB (a : Nat) 0 = true) (h4 : ltB (b : Nat) 0 = false) : SlO a b 0
  | flat2 (h1 : ltB 0 (a : Nat) = false) (h3 : ltB (a : Nat) 0 = false) : SlO a b 0
  | flat3 (h1 : ltB 0 (a : Nat) = true) (h2 : ltB 0 (b : Nat) = false) (h3 : ltB (a : Nat) 0 = false) : SlO a b 0
theorem ltB_asym {u v : Int} (h : ltB u v = true) : ltB v u = false := by
  unfold ltB at h ⊢
  simp only [Bool.and_eq_true, Bool.not_eq_true', decide_eq_true_eq] at h
  rw [h.1.1, h.1.2]
  simp
  omega
theorem slO_of (a b : Nat) : SlO a b (slB a b) := by
  unfold slB
  cases h1 : ltB 0 (a : Nat)
  · cases h3 : ltB (a : Nat) 0
    · simp; exact .flat2 h1 h3
    · cases h4 : ltB (b : Nat) 0
      · simp; exact .flat1 h1 h3 h4
      · simp; exact .down1 h1 h3 h4
  · have h3 := ltB_asym h1
    cases h2 : ltB 0 (b : Nat)
    · rw [h3]; simp; exact .flat3 h1 h2 h3
    · simp; exact .up h1 h2
end Go.Proofs.YtkcnkhdbojdhgaaGreat
namespace Go.Proofs.YtkcnkhdbojdhgaaGreat
open Go.RowKit

def heldN (v a b : Nat) : Nat := (heldB (v : Nat) (a : Nat) (b : Nat)).toNat
theorem heldN_cast {v a b : Nat} (hv : v < 18446744073709551616) (ha : a < 18446744073709551616) (hb : b < 18446744073709551616) : ((heldN v a b : Nat) : Int) = heldB (v : Nat) (a : Nat) (b : Nat) := by
  have := (held_u64 (u64N hv) (u64N ha) (u64N hb)).1
  unfold heldN; omega
theorem heldN_lt {v a b : Nat} (hv : v < 18446744073709551616) (ha : a < 18446744073709551616) (hb : b < 18446744073709551616) : heldN v a b < 18446744073709551616 := by
  have := held_u64 (u64N hv) (u64N ha) (u64N hb)
  have e := heldN_cast hv ha hb
  have := this.2
  omega
def ptP (h d a b : Nat) : Nat := heldN (sAdd a (sDiv (sMul d h) (fi 3))) a b
def ptQ (h d b p : Nat) : Nat := heldN (sSub b (sDiv (sMul d h) (fi 3))) p b
def ptL (xs : List Int) (ys : List Nat) (k : Nat) : List Nat :=
  [ys.getD k 0, ptP (fi (xs.getD (k + 1) 0 - xs.getD k 0)) ((slopL xs ys xs.length).getD k 0) (ys.getD k 0) (ys.getD (k + 1) 0), ptQ (fi (xs.getD (k + 1) 0 - xs.getD k 0)) ((slopL xs ys xs.length).getD (k + 1) 0) (ys.getD (k + 1) 0) (ptP (fi (xs.getD (k + 1) 0 - xs.getD k 0)) ((slopL xs ys xs.length).getD k 0) (ys.getD k 0) (ys.getD (k + 1) 0)), ys.getD (k + 1) 0]
end Go.Proofs.YtkcnkhdbojdhgaaGreat
