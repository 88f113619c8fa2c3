/- Rounding to nearest, ties to even, by whole numbers: the model's, and how the program's steps come to it. Sums, differences and turned numbers by their words; a number's leading bits, rounded once. -/
import Derived.Test.YtbgmbodedjhfoaaGreatDoorFlt
import Derived.Lib.BitFns
import Derived.Test.YtbgmbodedjhfoaaGreatDoorHaa
namespace Go.Proofs.YtbgmbodedjhfoaaGreatDoor

def rne (n d : Nat) : Nat := n / 2 ^ d + (if 2 ^ d < 2 * (n % 2 ^ d) ∨ (2 ^ d = 2 * (n % 2 ^ d) ∧ n / 2 ^ d % 2 = 1) then 1 else 0)

theorem rne_small {n d : Nat} (h : 2 * n < 2 ^ d) : rne n d = 0 := by
  have h1 : n < 2 ^ d := by omega
  unfold rne
  rw [Nat.div_eq_of_lt h1, Nat.mod_eq_of_lt h1, if_neg (by omega)]
theorem rne_zero (n : Nat) : rne n 0 = n := by unfold rne; simp [Nat.mod_one]
theorem rne_scale (n d k : Nat) : rne (n * 2 ^ k) (d + k) = rne n d := by
  have hp : 0 < 2 ^ k := Nat.two_pow_pos k
  unfold rne
  rw [Nat.pow_add, Nat.mul_div_mul_right _ _ hp, Nat.mul_mod_mul_right]
  congr 1
  have e : 2 * (n % 2 ^ d * 2 ^ k) = (2 * (n % 2 ^ d)) * 2 ^ k := by rw [Nat.mul_assoc]
  rw [e]
  have f1 : 2 ^ d * 2 ^ k < (2 * (n % 2 ^ d)) * 2 ^ k ↔ 2 ^ d < 2 * (n % 2 ^ d) := Nat.mul_lt_mul_right hp
  have f2 : 2 ^ d * 2 ^ k = (2 * (n % 2 ^ d)) * 2 ^ k ↔ 2 ^ d = 2 * (n % 2 ^ d) := ⟨fun h => Nat.eq_of_mul_eq_mul_right hp h, fun h => congrArg (· * 2 ^ k) h⟩
  simp only [f1, f2]

theorem cut_even (neg : Bool) (n drop : Nat) : Ieee.Toward.even.cut neg n drop = rne n drop := by
  show n / (1 <<< min drop (n.log2 + 2)) + (decide (1 <<< min drop (n.log2 + 2) < 2 * (n % (1 <<< min drop (n.log2 + 2)))) || ((1 <<< min drop (n.log2 + 2)) == 2 * (n % (1 <<< min drop (n.log2 + 2))) && n / (1 <<< min drop (n.log2 + 2)) % 2 == 1)).toNat = _
  rw [Nat.one_shiftLeft]
  by_cases h : drop ≤ n.log2 + 2
  · rw [Nat.min_eq_left h]
    unfold rne
    congr 1
    by_cases a : 2 ^ drop < 2 * (n % 2 ^ drop)
    · rw [if_pos (Or.inl a)]; simp [a]
    · by_cases b : 2 ^ drop = 2 * (n % 2 ^ drop) ∧ n / 2 ^ drop % 2 = 1
      · rw [if_pos (Or.inr b), ← b.1, b.2]; simp
      · rw [if_neg (by rintro (h | h); exact a h; exact b h)]
        have : ((2 ^ drop == 2 * (n % 2 ^ drop)) && (n / 2 ^ drop % 2 == 1)) = false := by
          rw [Bool.eq_false_iff]; intro h; simp only [Bool.and_eq_true, beq_iff_eq] at h; exact b h
        rw [this]; simp [a]
  · rw [Nat.min_eq_right (by omega)]
    have hl : n < 2 ^ (n.log2 + 1) := Nat.lt_log2_self
    have e : (2 : Nat) ^ (n.log2 + 2) = 2 ^ (n.log2 + 1) * 2 := Nat.pow_succ ..
    have hd : (2 : Nat) ^ (n.log2 + 2) ≤ 2 ^ drop := Nat.pow_le_pow_right (by decide) (by omega)
    rw [rne_small (by omega), Nat.div_eq_of_lt (by omega), Nat.mod_eq_of_lt (by omega)]
    have a : ¬ (2 ^ (n.log2 + 2) < 2 * n) := by omega
    have b : ((2 : Nat) ^ (n.log2 + 2) == 2 * n) = false := by simp; omega
    rw [b]; simp [a]

def lastP (mag : Nat) (place : Int) : Int := max (place + mag.log2 - 52) (-1074)
def nearR (mag : Nat) (place : Int) : Nat :=
  min ((lastP mag place + 1074).toNat * 4503599627370496 + rne (mag * 2 ^ (place - lastP mag place).toNat) (lastP mag place - place).toNat) 9218868437227405312

theorem nearest_eq (neg : Bool) {mag : Nat} (h : mag ≠ 0) (place : Int) : Ieee.double.nearest neg mag place = Ieee.double.word neg (nearR mag place) := by
  unfold Ieee.Format.nearest
  rw [if_neg h]
  dsimp only
  rw [cut_even, Nat.shiftLeft_eq]
  rfl
theorem nearest_zero (neg : Bool) (place : Int) : Ieee.double.nearest neg 0 place = Ieee.double.word neg 0 := by
  unfold Ieee.Format.nearest; rw [if_pos rfl]

theorem nearR_mg {r : Nat} (h0 : 0 < r) (h : r < 9218868437227405312) : nearR (mg r) (-1074 + (pl r : Int)) = r := by
  by_cases h1 : r < 4503599627370496
  · have e1 : mg r = r := by unfold mg; rw [if_pos h1]
    have e2 : pl r = 0 := by unfold pl; omega
    have hl : r.log2 < 52 := (Nat.log2_lt (by omega)).2 (by omega)
    have e3 : lastP r (-1074 + ((0 : Nat) : Int)) = -1074 := by unfold lastP; omega
    rw [e1, e2]
    unfold nearR
    rw [e3]
    simp only [Int.natCast_zero, Int.add_zero, Int.sub_self, Int.toNat_zero, Nat.pow_zero, Nat.mul_one, rne_zero]
    omega
  · have hlo := mg_ge (r := r) (by omega)
    have hhi := mg_lt r
    have hl : (mg r).log2 = 52 := by
      rw [Nat.log2_eq_iff (by omega)]; exact ⟨hlo, hhi⟩
    have e3 : lastP (mg r) (-1074 + (pl r : Int)) = -1074 + (pl r : Int) := by unfold lastP; rw [hl]; omega
    unfold nearR
    rw [e3]
    simp only [Int.sub_self, Int.toNat_zero, Nat.pow_zero, Nat.mul_one, rne_zero]
    unfold mg pl at *
    rw [if_neg h1] at *
    omega

theorem nearR_big {mag : Nat} {place : Int} (h : mag ≠ 0) (ht : 1023 < place + mag.log2) : nearR mag place = 9218868437227405312 := by
  have hl : lastP mag place = place + mag.log2 - 52 := by unfold lastP; omega
  unfold nearR
  rw [hl]
  refine Nat.min_eq_right ?_
  have hk : 4503599627370496 ≤ rne (mag * 2 ^ (place - (place + mag.log2 - 52)).toNat) (place + mag.log2 - 52 - place).toNat := by
    have h1 := Nat.log2_self_le h
    rw [show (place - (place + mag.log2 - 52)).toNat = 52 - mag.log2 by omega, show (place + mag.log2 - 52 - place).toNat = mag.log2 - 52 by omega]
    refine Nat.le_trans ?_ (Nat.le_add_right _ _)
    rw [Nat.le_div_iff_mul_le (Nat.two_pow_pos _), show (4503599627370496 : Nat) = 2 ^ 52 from rfl, ← Nat.pow_add]
    calc 2 ^ (52 + (mag.log2 - 52)) = 2 ^ mag.log2 * 2 ^ (52 - mag.log2) := by rw [← Nat.pow_add]; congr 1; omega
      _ ≤ mag * 2 ^ (52 - mag.log2) := Nat.mul_le_mul_right _ h1
  omega

theorem bitLenAux_eq : ∀ (f x : Nat), x < 2 ^ f → Lib.bitLenAux f x = if x = 0 then 0 else x.log2 + 1
  | 0, x, h => by
    have : x = 0 := by simpa using h
    subst this; rfl
  | f + 1, x, h => by
    unfold Lib.bitLenAux
    by_cases h0 : x = 0
    · rw [if_pos h0, if_pos h0]
    · rw [if_neg h0, if_neg h0, bitLenAux_eq f (x / 2) (by rw [Nat.pow_succ] at h; omega)]
      by_cases h1 : x / 2 = 0
      · have : x = 1 := by omega
        subst this; decide
      · rw [if_neg h1, Nat.log2_def x, if_pos (by omega)]
        omega
theorem bitLen_log2 {x : Nat} (h0 : x ≠ 0) (h : x < 18446744073709551616) : Lib.bitLen x = x.log2 + 1 := by
  unfold Lib.bitLen
  rw [bitLenAux_eq 64 x h, if_neg h0]

theorem rne_le (n d : Nat) : rne n d ≤ n / 2 ^ d + 1 := by unfold rne; split <;> omega

theorem top_lt {u : Nat} (h0 : u ≠ 0) (h : u < 18446744073709551616) : u * 2 ^ (63 - u.log2) < 18446744073709551616 := by
  have hl : u.log2 < 64 := (Nat.log2_lt h0).2 h
  have h1 : u < 2 ^ (u.log2 + 1) := Nat.lt_log2_self
  have h2 : u * 2 ^ (63 - u.log2) < 2 ^ (u.log2 + 1) * 2 ^ (63 - u.log2) := Nat.mul_lt_mul_of_pos_right h1 (Nat.two_pow_pos _)
  rw [← Nat.pow_add, show u.log2 + 1 + (63 - u.log2) = 64 by omega] at h2
  exact h2
theorem rne_bd {n d c : Nat} (h : n < c * 2 ^ d) : rne n d ≤ c := by
  have := rne_le n d
  have h2 : n / 2 ^ d < c := (Nat.div_lt_iff_lt_mul (Nat.two_pow_pos _)).2 h
  omega
theorem min_top {t k : Nat} (ht : t ≤ 2045) (hk : k ≤ 9007199254740992) : min (t * 4503599627370496 + k) 9218868437227405312 = t * 4503599627370496 + k := by omega
theorem nearR_small {u : Nat} {e : Int} (h : u < 18446744073709551616) (he : e < -1139) : nearR u e = 0 := by
  have hl : u.log2 < 64 := by
    by_cases h0 : u = 0
    · subst h0; decide
    · exact (Nat.log2_lt h0).2 h
  have e3 : lastP u e = -1074 := by unfold lastP; omega
  unfold nearR
  rw [e3, show (e - -1074).toNat = 0 by omega, Nat.pow_zero, Nat.mul_one, rne_small]
  · rfl
  · have : (2 : Nat) ^ 65 ≤ 2 ^ (-1074 - e).toNat := Nat.pow_le_pow_right (by decide) (by omega)
    omega

theorem nearR_normal {u : Nat} {e : Int} (h0 : u ≠ 0) (h : u < 18446744073709551616) (h1 : -1022 ≤ e + u.log2) (h2 : e + u.log2 ≤ 1023) :
    nearR u e = (e + u.log2 + 1022).toNat * 4503599627370496 + rne (u * 2 ^ (63 - u.log2)) 11 := by
  have hl : u.log2 < 64 := (Nat.log2_lt h0).2 h
  have e3 : lastP u e = e + u.log2 - 52 := by unfold lastP; omega
  have hk : rne (u * 2 ^ (e - (e + u.log2 - 52)).toNat) (e + u.log2 - 52 - e).toNat = rne (u * 2 ^ (63 - u.log2)) 11 := by
    rw [show (e - (e + u.log2 - 52)).toNat = 52 - u.log2 by omega, show (e + u.log2 - 52 - e).toNat = u.log2 - 52 by omega]
    by_cases hc : u.log2 ≤ 52
    · have := rne_scale (u * 2 ^ (52 - u.log2)) 0 11
      rw [Nat.mul_assoc, ← Nat.pow_add, show 52 - u.log2 + 11 = 63 - u.log2 by omega, show 0 + 11 = 11 from rfl] at this
      rw [this, show u.log2 - 52 = 0 by omega]
    · have := rne_scale u (u.log2 - 52) (63 - u.log2)
      rw [show u.log2 - 52 + (63 - u.log2) = 11 by omega] at this
      rw [this, show 52 - u.log2 = 0 by omega, Nat.pow_zero, Nat.mul_one]
  unfold nearR
  rw [e3, hk, show (e + u.log2 - 52 + 1074).toNat = (e + u.log2 + 1022).toNat by omega]
  exact min_top (by omega) (rne_bd (top_lt h0 h))

theorem nearR_sub {u : Nat} {e : Int} (h0 : u ≠ 0) (h : u < 18446744073709551616) (h2 : e + u.log2 < -1022) :
    nearR u e = rne (u * 2 ^ (63 - u.log2)) (-1011 - e - u.log2).toNat := by
  have hl : u.log2 < 64 := (Nat.log2_lt h0).2 h
  have e3 : lastP u e = -1074 := by unfold lastP; omega
  have hk : rne (u * 2 ^ (e - -1074).toNat) (-1074 - e).toNat = rne (u * 2 ^ (63 - u.log2)) (-1011 - e - u.log2).toNat := by
    by_cases hc : e ≤ -1074
    · have := rne_scale u (-1074 - e).toNat (63 - u.log2)
      rw [show (-1074 - e).toNat + (63 - u.log2) = (-1011 - e - u.log2).toNat by omega] at this
      rw [this, show (e - -1074).toNat = 0 by omega, Nat.pow_zero, Nat.mul_one]
    · have := rne_scale (u * 2 ^ (e - -1074).toNat) 0 (-1011 - e - u.log2).toNat
      rw [Nat.mul_assoc, ← Nat.pow_add, show (e - -1074).toNat + (-1011 - e - u.log2).toNat = 63 - u.log2 by omega, Nat.zero_add] at this
      rw [this, show (-1074 - e).toNat = 0 by omega]
  unfold nearR
  rw [e3, hk, show (-1074 + 1074 : Int).toNat = 0 from rfl]
  have hb : rne (u * 2 ^ (63 - u.log2)) (-1011 - e - u.log2).toNat ≤ 9007199254740992 := by
    refine rne_bd (Nat.lt_of_lt_of_le (top_lt h0 h) ?_)
    have : (2 : Nat) ^ 11 ≤ 2 ^ (-1011 - e - u.log2).toNat := Nat.pow_le_pow_right (by decide) (by omega)
    omega
  rw [min_top (by omega) hb]; omega

end Go.Proofs.YtbgmbodedjhfoaaGreatDoor
namespace Go.Proofs.YtbgmbodedjhfoaaGreatDoor

end Go.Proofs.YtbgmbodedjhfoaaGreatDoor
