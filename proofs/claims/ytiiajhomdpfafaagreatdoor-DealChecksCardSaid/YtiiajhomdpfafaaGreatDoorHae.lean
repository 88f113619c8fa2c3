/- Rounding to nearest, ties to even, by whole numbers: the model's, and how the program's steps come to it. Sums, differences and turned numbers by their words; a number's leading bits, rounded once. -/
import Derived.Test.YtiiajhomdpfafaaGreatDoorFlt
import Derived.Lib.BitFns
import Derived.Test.YtiiajhomdpfafaaGreatDoorHaa
namespace Go.Proofs.YtiiajhomdpfafaaGreatDoor

def rne (n d : Nat) : Nat := n / 2 ^ d + (if 2 ^ d < 2 * (n % 2 ^ d) ∨ (2 ^ d = 2 * (n % 2 ^ d) ∧ n / 2 ^ d % 2 = 1) then 1 else 0)

theorem rne_small {n d : Nat} (h : 2 * n < 2 ^ d) : rne n d = 0 := by
  have h1 : n < 2 ^ d := by omega
  unfold rne
  rw [Nat.div_eq_of_lt h1, Nat.mod_eq_of_lt h1, if_neg (by omega)]
theorem cut_even (neg : Bool) (n drop : Nat) : Ieee.Toward.even.cut neg n drop = rne n drop := by
  show n / (1 <<< min drop (n.log2 + 2)) + (decide (1 <<< min drop (n.log2 + 2) < 2 * (n % (1 <<< min drop (n.log2 + 2)))) || ((1 <<< min drop (n.log2 + 2)) == 2 * (n % (1 <<< min drop (n.log2 + 2))) && n / (1 <<< min drop (n.log2 + 2)) % 2 == 1)).toNat = _
  rw [Nat.one_shiftLeft]
  by_cases h : drop ≤ n.log2 + 2
  · rw [Nat.min_eq_left h]
    unfold rne
    congr 1
    by_cases a : 2 ^ drop < 2 * (n % 2 ^ drop)
    · rw [if_pos (Or.inl a)]; simp [a]
    · by_cases b : 2 ^ drop = 2 * (n % 2 ^ drop) ∧ n / 2 ^ drop % 2 = 1
      · rw [if_pos (Or.inr b), ← b.1, b.2]; simp
      · rw [if_neg (by rintro (h | h); exact a h; exact b h)]
        have : ((2 ^ drop == 2 * (n % 2 ^ drop)) && (n / 2 ^ drop % 2 == 1)) = false := by
          rw [Bool.eq_false_iff]; intro h; simp only [Bool.and_eq_true, beq_iff_eq] at h; exact b h
        rw [this]; simp [a]
  · rw [Nat.min_eq_right (by omega)]
    have hl : n < 2 ^ (n.log2 + 1) := Nat.lt_log2_self
    have e : (2 : Nat) ^ (n.log2 + 2) = 2 ^ (n.log2 + 1) * 2 := Nat.pow_succ ..
    have hd : (2 : Nat) ^ (n.log2 + 2) ≤ 2 ^ drop := Nat.pow_le_pow_right (by decide) (by omega)
    rw [rne_small (by omega), Nat.div_eq_of_lt (by omega), Nat.mod_eq_of_lt (by omega)]
    have a : ¬ (2 ^ (n.log2 + 2) < 2 * n) := by omega
    have b : ((2 : Nat) ^ (n.log2 + 2) == 2 * n) = false := by simp; omega
    rw [b]; simp [a]

def lastP (mag : Nat) (place : Int) : Int := max (place + mag.log2 - 52) (-1074)
def nearR (mag : Nat) (place : Int) : Nat :=
  min ((lastP mag place + 1074).toNat * 4503599627370496 + rne (mag * 2 ^ (place - lastP mag place).toNat) (lastP mag place - place).toNat) 9218868437227405312

theorem nearest_eq (neg : Bool) {mag : Nat} (h : mag ≠ 0) (place : Int) : Ieee.double.nearest neg mag place = Ieee.double.word neg (nearR mag place) := by
  unfold Ieee.Format.nearest
  rw [if_neg h]
  dsimp only
  rw [cut_even, Nat.shiftLeft_eq]
  rfl
theorem nearest_zero (neg : Bool) (place : Int) : Ieee.double.nearest neg 0 place = Ieee.double.word neg 0 := by
  unfold Ieee.Format.nearest; rw [if_pos rfl]

end Go.Proofs.YtiiajhomdpfafaaGreatDoor
namespace Go.Proofs.YtiiajhomdpfafaaGreatDoor

end Go.Proofs.YtiiajhomdpfafaaGreatDoor
