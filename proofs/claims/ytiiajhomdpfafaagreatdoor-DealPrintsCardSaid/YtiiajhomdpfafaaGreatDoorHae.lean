/- Rounding to nearest, ties to even, by whole numbers: the model's, and how the program's steps come to it. Sums, differences and turned numbers by their words; a number's leading bits, rounded once. Plain numbers by their digits to the base 2^32: no word of the program. What the document's 'rounded' reckons, by whole numbers; it is the nearest number. Plain numbers by their digits: sums and differences. No word of the program. -/
import Derived.Test.YtiiajhomdpfafaaGreatDoorFlt
import Derived.Lib.BitFns
import Derived.Test.YtiiajhomdpfafaaGreatDoorHaa
namespace Go.Proofs.YtiiajhomdpfafaaGreatDoor

def rne (n d : Nat) : Nat := n / 2 ^ d + (if 2 ^ d < 2 * (n % 2 ^ d) ∨ (2 ^ d = 2 * (n % 2 ^ d) ∧ n / 2 ^ d % 2 = 1) then 1 else 0)

theorem rne_small {n d : Nat} (h : 2 * n < 2 ^ d) : rne n d = 0 := by
  have h1 : n < 2 ^ d := by omega
  unfold rne
  rw [Nat.div_eq_of_lt h1, Nat.mod_eq_of_lt h1, if_neg (by omega)]
theorem rne_zero (n : Nat) : rne n 0 = n := by unfold rne; simp [Nat.mod_one]
theorem rne_scale (n d k : Nat) : rne (n * 2 ^ k) (d + k) = rne n d := by
  have hp : 0 < 2 ^ k := Nat.two_pow_pos k
  unfold rne
  rw [Nat.pow_add, Nat.mul_div_mul_right _ _ hp, Nat.mul_mod_mul_right]
  congr 1
  have e : 2 * (n % 2 ^ d * 2 ^ k) = (2 * (n % 2 ^ d)) * 2 ^ k := by rw [Nat.mul_assoc]
  rw [e]
  have f1 : 2 ^ d * 2 ^ k < (2 * (n % 2 ^ d)) * 2 ^ k ↔ 2 ^ d < 2 * (n % 2 ^ d) := Nat.mul_lt_mul_right hp
  have f2 : 2 ^ d * 2 ^ k = (2 * (n % 2 ^ d)) * 2 ^ k ↔ 2 ^ d = 2 * (n % 2 ^ d) := ⟨fun h => Nat.eq_of_mul_eq_mul_right hp h, fun h => congrArg (· * 2 ^ k) h⟩
  simp only [f1, f2]

theorem cut_even (neg : Bool) (n drop : Nat) : Ieee.Toward.even.cut neg n drop = rne n drop := by
  show n / (1 <<< min drop (n.log2 + 2)) + (decide (1 <<< min drop (n.log2 + 2) < 2 * (n % (1 <<< min drop (n.log2 + 2)))) || ((1 <<< min drop (n.log2 + 2)) == 2 * (n % (1 <<< min drop (n.log2 + 2))) && n / (1 <<< min drop (n.log2 + 2)) % 2 == 1)).toNat = _
  rw [Nat.one_shiftLeft]
  by_cases h : drop ≤ n.log2 + 2
  · rw [Nat.min_eq_left h]
    unfold rne
    congr 1
    by_cases a : 2 ^ drop < 2 * (n % 2 ^ drop)
    · rw [if_pos (Or.inl a)]; simp [a]
    · by_cases b : 2 ^ drop = 2 * (n % 2 ^ drop) ∧ n / 2 ^ drop % 2 = 1
      · rw [if_pos (Or.inr b), ← b.1, b.2]; simp
      · rw [if_neg (by rintro (h | h); exact a h; exact b h)]
        have : ((2 ^ drop == 2 * (n % 2 ^ drop)) && (n / 2 ^ drop % 2 == 1)) = false := by
          rw [Bool.eq_false_iff]; intro h; simp only [Bool.and_eq_true, beq_iff_eq] at h; exact b h
        rw [this]; simp [a]
  · rw [Nat.min_eq_right (by omega)]
    have hl : n < 2 ^ (n.log2 + 1) := Nat.lt_log2_self
    have e : (2 : Nat) ^ (n.log2 + 2) = 2 ^ (n.log2 + 1) * 2 := Nat.pow_succ ..
    have hd : (2 : Nat) ^ (n.log2 + 2) ≤ 2 ^ drop := Nat.pow_le_pow_right (by decide) (by omega)
    rw [rne_small (by omega), Nat.div_eq_of_lt (by omega), Nat.mod_eq_of_lt (by omega)]
    have a : ¬ (2 ^ (n.log2 + 2) < 2 * n) := by omega
    have b : ((2 : Nat) ^ (n.log2 + 2) == 2 * n) = false := by simp; omega
    rw [b]; simp [a]

def lastP (mag : Nat) (place : Int) : Int := max (place + mag.log2 - 52) (-1074)
def nearR (mag : Nat) (place : Int) : Nat :=
  min ((lastP mag place + 1074).toNat * 4503599627370496 + rne (mag * 2 ^ (place - lastP mag place).toNat) (lastP mag place - place).toNat) 9218868437227405312

theorem nearest_eq (neg : Bool) {mag : Nat} (h : mag ≠ 0) (place : Int) : Ieee.double.nearest neg mag place = Ieee.double.word neg (nearR mag place) := by
  unfold Ieee.Format.nearest
  rw [if_neg h]
  dsimp only
  rw [cut_even, Nat.shiftLeft_eq]
  rfl
theorem nearest_zero (neg : Bool) (place : Int) : Ieee.double.nearest neg 0 place = Ieee.double.word neg 0 := by
  unfold Ieee.Format.nearest; rw [if_pos rfl]

end Go.Proofs.YtiiajhomdpfafaaGreatDoor
namespace Go.Proofs.YtiiajhomdpfafaaGreatDoor

end Go.Proofs.YtiiajhomdpfafaaGreatDoor
namespace Go.Proofs.YtiiajhomdpfafaaGreatDoor

def dgt (N i : Nat) : Nat := N / 2 ^ (32 * i) % 4294967296
def nd (N : Nat) : Nat := if N = 0 then 0 else N.log2 / 32 + 1
def bl (N : Nat) : Nat := if N = 0 then 0 else N.log2 + 1

theorem dgt_lt (N i : Nat) : dgt N i < 4294967296 := Nat.mod_lt _ (by decide)
theorem pow32 (k : Nat) : (2 : Nat) ^ (32 * (k + 1)) = 2 ^ (32 * k) * 4294967296 := by
  rw [show 32 * (k + 1) = 32 * k + 32 by omega, Nat.pow_add]
theorem dgt_zero (i : Nat) : dgt 0 i = 0 := by unfold dgt; rw [Nat.zero_div]
theorem nd_zero : nd 0 = 0 := rfl

theorem nd_lt (N : Nat) : N < 2 ^ (32 * nd N) := by
  unfold nd
  by_cases h : N = 0
  · subst h; decide
  · rw [if_neg h]
    refine Nat.lt_of_lt_of_le (Nat.lt_log2_self (n := N)) (Nat.pow_le_pow_right (by decide) ?_)
    omega
theorem nd_pos {N : Nat} (h : N ≠ 0) : 1 ≤ nd N := by unfold nd; rw [if_neg h]; omega
theorem nd_le {N : Nat} (h : N ≠ 0) : 2 ^ (32 * (nd N - 1)) ≤ N := by
  unfold nd
  rw [if_neg h]
  refine Nat.le_trans (Nat.pow_le_pow_right (by decide) ?_) (Nat.log2_self_le h)
  omega
theorem nd_eq {N k : Nat} (h1 : 2 ^ (32 * k) ≤ N) (h2 : N < 2 ^ (32 * (k + 1))) : nd N = k + 1 := by
  have h : N ≠ 0 := by have := Nat.two_pow_pos (32 * k); omega
  unfold nd
  rw [if_neg h]
  have a : 32 * k ≤ N.log2 := (Nat.le_log2 h).2 h1
  have b : N.log2 < 32 * (k + 1) := (Nat.log2_lt h).2 h2
  omega
theorem nd_mono {N k : Nat} (h : N < 2 ^ (32 * k)) : nd N ≤ k := by
  by_cases h0 : N = 0
  · subst h0; exact Nat.zero_le _
  · unfold nd; rw [if_neg h0]
    have b : N.log2 < 32 * k := (Nat.log2_lt h0).2 h
    omega

theorem dgt_of_lt {N k : Nat} (h : N < 2 ^ (32 * (k + 1))) : dgt N k = N / 2 ^ (32 * k) := by
  unfold dgt
  apply Nat.mod_eq_of_lt
  rw [Nat.div_lt_iff_lt_mul (Nat.two_pow_pos _), Nat.mul_comm, ← pow32]; exact h
theorem dgt_ge {N i : Nat} (h : N < 2 ^ (32 * i)) : dgt N i = 0 := by
  unfold dgt; rw [Nat.div_eq_of_lt h]
theorem dgt_past {N i : Nat} (h : nd N ≤ i) : dgt N i = 0 :=
  dgt_ge (Nat.lt_of_lt_of_le (nd_lt N) (Nat.pow_le_pow_right (by decide) (by omega)))
theorem trim_step {M n : Nat} (h : M < 2 ^ (32 * (n + 1))) (h0 : dgt M n = 0) : M < 2 ^ (32 * n) := by
  rw [dgt_of_lt h] at h0
  exact (Nat.div_eq_zero_iff_lt (Nat.two_pow_pos _)).1 h0
theorem trim_end {M n : Nat} (h : M < 2 ^ (32 * (n + 1))) (h0 : dgt M n ≠ 0) : nd M = n + 1 := by
  refine nd_eq ?_ h
  rw [dgt_of_lt h] at h0
  rcases Nat.lt_or_ge M (2 ^ (32 * n)) with h1 | h1
  · exact absurd (Nat.div_eq_of_lt h1) h0
  · exact h1
theorem dgt_top {N : Nat} (h : N ≠ 0) : dgt N (nd N - 1) = N / 2 ^ (32 * (nd N - 1)) := by
  apply dgt_of_lt
  have := nd_pos h
  rw [show nd N - 1 + 1 = nd N by omega]
  exact nd_lt N
theorem bl_top {N : Nat} (h : N ≠ 0) : bl N = 32 * (nd N - 1) + bl (dgt N (nd N - 1)) := by
  have h1 := nd_le h
  rw [dgt_top h]
  have hp := Nat.two_pow_pos (32 * (nd N - 1))
  have h2 : N / 2 ^ (32 * (nd N - 1)) ≠ 0 := by
    have := (Nat.one_le_div_iff hp).2 h1
    omega
  unfold bl
  rw [if_neg h, if_neg h2]
  have e : N.log2 = (N / 2 ^ (32 * (nd N - 1))).log2 + 32 * (nd N - 1) := by
    rw [Nat.log2_eq_iff h]
    have a := Nat.log2_self_le h2
    have b : N / 2 ^ (32 * (nd N - 1)) < 2 ^ ((N / 2 ^ (32 * (nd N - 1))).log2 + 1) := Nat.lt_log2_self
    constructor
    · rw [Nat.pow_add]; exact (Nat.le_div_iff_mul_le hp).1 a
    · rw [show (N / 2 ^ (32 * (nd N - 1))).log2 + 32 * (nd N - 1) + 1 = ((N / 2 ^ (32 * (nd N - 1))).log2 + 1) + 32 * (nd N - 1) by omega, Nat.pow_add]
      exact (Nat.div_lt_iff_lt_mul hp).1 b
  omega
theorem bl_half {x : Nat} (h : x ≠ 0) : bl x = bl (x / 2) + 1 := by
  unfold bl
  rw [if_neg h]
  by_cases h1 : x / 2 = 0
  · have : x = 1 := by omega
    subst this; decide
  · rw [if_neg h1, Nat.log2_def x, if_pos (by omega)]

theorem mod_succ (N i : Nat) : N % 2 ^ (32 * (i + 1)) = N % 2 ^ (32 * i) + dgt N i * 2 ^ (32 * i) := by
  unfold dgt
  rw [pow32, Nat.mod_mul, Nat.mul_comm (2 ^ (32 * i))]

theorem add_at {M x k r j : Nat} (hM : M < 2 ^ r * 2 ^ (32 * k)) (hx : x < 2 ^ 63) (hd : x % 2 ^ r = 0) (hr : r ≤ 32) :
    dgt (M + x * 2 ^ (32 * k)) j = if j < k then dgt M j else if j = k then dgt M k + x % 4294967296 else if j = k + 1 then x / 4294967296 else 0 := by
  have hp := Nat.two_pow_pos (32 * k)
  have ha : M / 2 ^ (32 * k) < 2 ^ r := (Nat.div_lt_iff_lt_mul hp).2 hM
  have hr2 : (2 : Nat) ^ r ≤ 2 ^ 32 := Nat.pow_le_pow_right (by decide) hr
  have hq : (M + x * 2 ^ (32 * k)) / 2 ^ (32 * k) = M / 2 ^ (32 * k) + x := by rw [Nat.add_mul_div_right _ _ hp]
  have hak : dgt M k = M / 2 ^ (32 * k) := Nat.mod_eq_of_lt (by omega)
  -- no carry out of the place
  have hnc : M / 2 ^ (32 * k) + x % 4294967296 < 4294967296 := by
    have e1 : (4294967296 : Nat) = 2 ^ r * 2 ^ (32 - r) := by rw [← Nat.pow_add, show r + (32 - r) = 32 by omega]
    have e2 : x % 4294967296 = 2 ^ r * (x / 2 ^ r % 2 ^ (32 - r)) := by
      rw [e1, Nat.mod_mul, hd, Nat.zero_add]
    have h3 : x / 2 ^ r % 2 ^ (32 - r) < 2 ^ (32 - r) := Nat.mod_lt _ (Nat.two_pow_pos _)
    rw [e2]
    have h4 : 2 ^ r * (x / 2 ^ r % 2 ^ (32 - r) + 1) ≤ 2 ^ r * 2 ^ (32 - r) := Nat.mul_le_mul_left _ h3
    rw [Nat.mul_add, Nat.mul_one, ← e1] at h4
    omega
  by_cases h1 : j < k
  · rw [if_pos h1]
    unfold dgt
    have e : x * 2 ^ (32 * k) = (x * 2 ^ (32 * (k - j - 1)) * 4294967296) * 2 ^ (32 * j) := by
      rw [Nat.mul_assoc, Nat.mul_assoc, Nat.mul_comm 4294967296, ← pow32, ← Nat.pow_add]; congr 2; omega
    rw [e, Nat.add_mul_div_right _ _ (Nat.two_pow_pos _), Nat.add_mul_mod_self_right]
  · rw [if_neg h1]
    have hs : (M + x * 2 ^ (32 * k)) / 2 ^ (32 * j) = (M / 2 ^ (32 * k) + x) / 2 ^ (32 * (j - k)) := by
      rw [← hq, Nat.div_div_eq_div_mul, ← Nat.pow_add]; congr 2; omega
    unfold dgt at *
    rw [hs]
    by_cases h2 : j = k
    · rw [if_pos h2, hak, h2, Nat.sub_self, Nat.mul_zero, Nat.pow_zero, Nat.div_one]; omega
    · rw [if_neg h2]
      by_cases h3 : j = k + 1
      · rw [if_pos h3, h3, show k + 1 - k = 1 by omega, show (2 : Nat) ^ (32 * 1) = 4294967296 from rfl]; omega
      · rw [if_neg h3]
        have : (M / 2 ^ (32 * k) + x) / 2 ^ (32 * (j - k)) = 0 := by
          apply Nat.div_eq_of_lt
          have : (2 : Nat) ^ (32 * 2) ≤ 2 ^ (32 * (j - k)) := Nat.pow_le_pow_right (by decide) (by omega)
          omega
        rw [this]
end Go.Proofs.YtiiajhomdpfafaaGreatDoor
namespace Go.Proofs.YtiiajhomdpfafaaGreatDoor

theorem two_digits {K : Nat} (h : K < 18446744073709551616) : dgt K 0 + dgt K 1 * 4294967296 = K := by
  unfold dgt
  rw [Nat.mul_zero, Nat.pow_zero, Nat.div_one, show (2 : Nat) ^ (32 * 1) = 4294967296 from rfl]; omega

end Go.Proofs.YtiiajhomdpfafaaGreatDoor
namespace Go.Proofs.YtiiajhomdpfafaaGreatDoor

theorem dgt_mod (S k j : Nat) : dgt (S % 2 ^ (32 * k)) j = if j < k then dgt S j else 0 := by
  by_cases h : j < k
  · rw [if_pos h]
    unfold dgt
    have e : (2 : Nat) ^ (32 * k) = 2 ^ (32 * j) * (2 ^ (32 * (k - j - 1)) * 4294967296) := by
      rw [← pow32, ← Nat.pow_add]; congr 1; omega
    rw [e, Nat.mod_mul_right_div_self, Nat.mod_mod_of_dvd _ (Nat.dvd_mul_left _ _)]
  · rw [if_neg h]
    exact dgt_ge (Nat.lt_of_lt_of_le (Nat.mod_lt _ (Nat.two_pow_pos _)) (Nat.pow_le_pow_right (by decide) (by omega)))

def cry (A B k : Nat) : Nat := (A % 2 ^ (32 * k) + B % 2 ^ (32 * k)) / 2 ^ (32 * k)
theorem cry_zero (A B : Nat) : cry A B 0 = 0 := by
  unfold cry; rw [Nat.mul_zero, Nat.pow_zero, Nat.mod_one, Nat.mod_one]
theorem cry_le (A B k : Nat) : cry A B k ≤ 1 := by
  unfold cry
  have h1 : A % 2 ^ (32 * k) < 2 ^ (32 * k) := Nat.mod_lt _ (Nat.two_pow_pos _)
  have h2 : B % 2 ^ (32 * k) < 2 ^ (32 * k) := Nat.mod_lt _ (Nat.two_pow_pos _)
  have : (A % 2 ^ (32 * k) + B % 2 ^ (32 * k)) / 2 ^ (32 * k) < 2 := by
    rw [Nat.div_lt_iff_lt_mul (Nat.two_pow_pos _)]; omega
  omega
theorem cry_succ (A B k : Nat) : cry A B (k + 1) = (dgt A k + dgt B k + cry A B k) / 4294967296 := by
  have hp := Nat.two_pow_pos (32 * k)
  unfold cry
  rw [mod_succ, mod_succ, pow32, ← Nat.div_div_eq_div_mul]
  congr 1
  generalize A % 2 ^ (32 * k) = a
  generalize B % 2 ^ (32 * k) = b
  rw [show a + dgt A k * 2 ^ (32 * k) + (b + dgt B k * 2 ^ (32 * k)) = (a + b) + (dgt A k + dgt B k) * 2 ^ (32 * k) by rw [Nat.add_mul]; omega, Nat.add_mul_div_right _ _ hp]
  omega
theorem dgt_add (A B k : Nat) : dgt (A + B) k = (dgt A k + dgt B k + cry A B k) % 4294967296 := by
  have hp := Nat.two_pow_pos (32 * k)
  unfold dgt cry
  generalize hP : 2 ^ (32 * k) = P at *
  have ha := Nat.div_add_mod A P
  have hb := Nat.div_add_mod B P
  have e : A + B = (A % P + B % P) + (A / P + B / P) * P := by rw [Nat.add_mul, Nat.mul_comm (A / P), Nat.mul_comm (B / P)]; omega
  rw [show (A + B) / P = (A % P + B % P) / P + (A / P + B / P) by rw (config := { occs := .pos [1] }) [e]; rw [Nat.add_mul_div_right _ _ hp]]
  omega

theorem add_round {A B k a b c s : Nat} (ha : a = dgt A k) (hb : b = dgt B k) (hc : c = cry A B k) (hs : s = a + b + c) :
    s % 4294967296 = dgt (A + B) k ∧ s / 4294967296 = cry A B (k + 1) := by
  subst ha hb hc hs
  exact ⟨(dgt_add A B k).symm, (cry_succ A B k).symm⟩
theorem sub_round {B D k a b c : Nat} (ha : a = dgt (B + D) k) (hb : b = dgt B k) (hc : c = cry B D k) :
    b + c ≤ a + 4294967296 ∧ (a + 4294967296 - b - c) % 4294967296 = dgt D k ∧ (a + 4294967296 - b - c) / 4294967296 ≤ 1 ∧ 1 - (a + 4294967296 - b - c) / 4294967296 = cry B D (k + 1) := by
  have h1 := dgt_add B D k
  have h2 := cry_succ B D k
  have h3 := dgt_lt D k
  have h4 := dgt_lt B k
  have h5 := cry_le B D k
  have h6 := dgt_lt (B + D) k
  subst ha hb hc
  rw [h2]
  generalize dgt (B + D) k = x at *
  generalize dgt B k = y at *
  generalize dgt D k = z at *
  generalize cry B D k = c at *
  omega

theorem div_step (A k : Nat) : A / 2 ^ (32 * k) = A / 2 ^ (32 * (k + 1)) * 4294967296 + dgt A k := by
  unfold dgt
  rw [pow32, ← Nat.div_div_eq_div_mul]
  omega
theorem lt_of_top {A B k : Nat} (h : A / 2 ^ (32 * (k + 1)) = B / 2 ^ (32 * (k + 1))) (hd : dgt A k < dgt B k) : A < B := by
  have h1 := div_step A k
  have h2 := div_step B k
  rcases Nat.lt_or_ge A B with h3 | h3
  · exact h3
  · have := Nat.div_le_div_right (c := 2 ^ (32 * k)) h3
    omega
theorem eq_of_top {A B k : Nat} (h : A / 2 ^ (32 * (k + 1)) = B / 2 ^ (32 * (k + 1))) (hd : dgt A k = dgt B k) : A / 2 ^ (32 * k) = B / 2 ^ (32 * k) := by
  rw [div_step A k, div_step B k, h, hd]
theorem nd_lt_lt {A B : Nat} (h : nd A < nd B) : A < B := by
  have h0 : B ≠ 0 := by intro h0; rw [h0, nd_zero] at h; omega
  have h1 := nd_lt A
  have h2 := nd_le h0
  exact Nat.lt_of_lt_of_le h1 (Nat.le_trans (Nat.pow_le_pow_right (by decide) (by omega)) h2)
def cmpN (A B : Nat) : Int := if A < B then -1 else if A = B then 0 else 1
theorem cmpN_lt {A B : Nat} (h : A < B) : cmpN A B = -1 := if_pos h
theorem cmpN_eq {A B : Nat} (h : A = B) : cmpN A B = 0 := by unfold cmpN; rw [if_neg (by omega), if_pos h]
theorem cmpN_gt {A B : Nat} (h : B < A) : cmpN A B = 1 := by unfold cmpN; rw [if_neg (by omega), if_neg (by omega)]
theorem sum_lt {A B m n L : Nat} (hA : A < 2 ^ (32 * m)) (hB : B < 2 ^ (32 * n)) (hm : m < L) (hn : n < L) : A + B < 2 ^ (32 * L) := by
  have e : (2 : Nat) ^ (32 * (L - 1 + 1)) = 2 ^ (32 * (L - 1)) * 4294967296 := pow32 (L - 1)
  rw [show L - 1 + 1 = L by omega] at e
  have h1 : (2 : Nat) ^ (32 * m) ≤ 2 ^ (32 * (L - 1)) := Nat.pow_le_pow_right (by decide) (by omega)
  have h2 : (2 : Nat) ^ (32 * n) ≤ 2 ^ (32 * (L - 1)) := Nat.pow_le_pow_right (by decide) (by omega)
  omega
end Go.Proofs.YtiiajhomdpfafaaGreatDoor
