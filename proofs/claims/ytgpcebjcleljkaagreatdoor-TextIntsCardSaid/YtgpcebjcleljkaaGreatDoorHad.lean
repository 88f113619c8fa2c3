/- Rounding to nearest, ties to even, by whole numbers: the model's, and how the program's steps come to it. Plain numbers by their digits to the base 2^32: no word of the program. Plain numbers by their digits: sums and differences. No word of the program. -/
import Derived.Test.YtgpcebjcleljkaaGreatDoorFlt
import Derived.Lib.BitFns
namespace Go.Proofs.YtgpcebjcleljkaaGreatDoor

end Go.Proofs.YtgpcebjcleljkaaGreatDoor
namespace Go.Proofs.YtgpcebjcleljkaaGreatDoor

def dgt (N i : Nat) : Nat := N / 2 ^ (32 * i) % 4294967296
def nd (N : Nat) : Nat := if N = 0 then 0 else N.log2 / 32 + 1
def bl (N : Nat) : Nat := if N = 0 then 0 else N.log2 + 1

theorem dgt_lt (N i : Nat) : dgt N i < 4294967296 := Nat.mod_lt _ (by decide)
theorem pow32 (k : Nat) : (2 : Nat) ^ (32 * (k + 1)) = 2 ^ (32 * k) * 4294967296 := by
  rw [show 32 * (k + 1) = 32 * k + 32 by omega, Nat.pow_add]
theorem dgt_zero (i : Nat) : dgt 0 i = 0 := by unfold dgt; rw [Nat.zero_div]
theorem nd_lt (N : Nat) : N < 2 ^ (32 * nd N) := by
  unfold nd
  by_cases h : N = 0
  · subst h; decide
  · rw [if_neg h]
    refine Nat.lt_of_lt_of_le (Nat.lt_log2_self (n := N)) (Nat.pow_le_pow_right (by decide) ?_)
    omega
theorem nd_pos {N : Nat} (h : N ≠ 0) : 1 ≤ nd N := by unfold nd; rw [if_neg h]; omega
theorem nd_le {N : Nat} (h : N ≠ 0) : 2 ^ (32 * (nd N - 1)) ≤ N := by
  unfold nd
  rw [if_neg h]
  refine Nat.le_trans (Nat.pow_le_pow_right (by decide) ?_) (Nat.log2_self_le h)
  omega
theorem nd_eq {N k : Nat} (h1 : 2 ^ (32 * k) ≤ N) (h2 : N < 2 ^ (32 * (k + 1))) : nd N = k + 1 := by
  have h : N ≠ 0 := by have := Nat.two_pow_pos (32 * k); omega
  unfold nd
  rw [if_neg h]
  have a : 32 * k ≤ N.log2 := (Nat.le_log2 h).2 h1
  have b : N.log2 < 32 * (k + 1) := (Nat.log2_lt h).2 h2
  omega
theorem nd_mono {N k : Nat} (h : N < 2 ^ (32 * k)) : nd N ≤ k := by
  by_cases h0 : N = 0
  · subst h0; exact Nat.zero_le _
  · unfold nd; rw [if_neg h0]
    have b : N.log2 < 32 * k := (Nat.log2_lt h0).2 h
    omega

theorem dgt_of_lt {N k : Nat} (h : N < 2 ^ (32 * (k + 1))) : dgt N k = N / 2 ^ (32 * k) := by
  unfold dgt
  apply Nat.mod_eq_of_lt
  rw [Nat.div_lt_iff_lt_mul (Nat.two_pow_pos _), Nat.mul_comm, ← pow32]; exact h
theorem dgt_ge {N i : Nat} (h : N < 2 ^ (32 * i)) : dgt N i = 0 := by
  unfold dgt; rw [Nat.div_eq_of_lt h]
theorem dgt_past {N i : Nat} (h : nd N ≤ i) : dgt N i = 0 :=
  dgt_ge (Nat.lt_of_lt_of_le (nd_lt N) (Nat.pow_le_pow_right (by decide) (by omega)))
theorem trim_step {M n : Nat} (h : M < 2 ^ (32 * (n + 1))) (h0 : dgt M n = 0) : M < 2 ^ (32 * n) := by
  rw [dgt_of_lt h] at h0
  exact (Nat.div_eq_zero_iff_lt (Nat.two_pow_pos _)).1 h0
theorem trim_end {M n : Nat} (h : M < 2 ^ (32 * (n + 1))) (h0 : dgt M n ≠ 0) : nd M = n + 1 := by
  refine nd_eq ?_ h
  rw [dgt_of_lt h] at h0
  rcases Nat.lt_or_ge M (2 ^ (32 * n)) with h1 | h1
  · exact absurd (Nat.div_eq_of_lt h1) h0
  · exact h1
theorem dgt_top {N : Nat} (h : N ≠ 0) : dgt N (nd N - 1) = N / 2 ^ (32 * (nd N - 1)) := by
  apply dgt_of_lt
  have := nd_pos h
  rw [show nd N - 1 + 1 = nd N by omega]
  exact nd_lt N
theorem bl_top {N : Nat} (h : N ≠ 0) : bl N = 32 * (nd N - 1) + bl (dgt N (nd N - 1)) := by
  have h1 := nd_le h
  rw [dgt_top h]
  have hp := Nat.two_pow_pos (32 * (nd N - 1))
  have h2 : N / 2 ^ (32 * (nd N - 1)) ≠ 0 := by
    have := (Nat.one_le_div_iff hp).2 h1
    omega
  unfold bl
  rw [if_neg h, if_neg h2]
  have e : N.log2 = (N / 2 ^ (32 * (nd N - 1))).log2 + 32 * (nd N - 1) := by
    rw [Nat.log2_eq_iff h]
    have a := Nat.log2_self_le h2
    have b : N / 2 ^ (32 * (nd N - 1)) < 2 ^ ((N / 2 ^ (32 * (nd N - 1))).log2 + 1) := Nat.lt_log2_self
    constructor
    · rw [Nat.pow_add]; exact (Nat.le_div_iff_mul_le hp).1 a
    · rw [show (N / 2 ^ (32 * (nd N - 1))).log2 + 32 * (nd N - 1) + 1 = ((N / 2 ^ (32 * (nd N - 1))).log2 + 1) + 32 * (nd N - 1) by omega, Nat.pow_add]
      exact (Nat.div_lt_iff_lt_mul hp).1 b
  omega
theorem bl_half {x : Nat} (h : x ≠ 0) : bl x = bl (x / 2) + 1 := by
  unfold bl
  rw [if_neg h]
  by_cases h1 : x / 2 = 0
  · have : x = 1 := by omega
    subst this; decide
  · rw [if_neg h1, Nat.log2_def x, if_pos (by omega)]

theorem mod_succ (N i : Nat) : N % 2 ^ (32 * (i + 1)) = N % 2 ^ (32 * i) + dgt N i * 2 ^ (32 * i) := by
  unfold dgt
  rw [pow32, Nat.mod_mul, Nat.mul_comm (2 ^ (32 * i))]

end Go.Proofs.YtgpcebjcleljkaaGreatDoor
namespace Go.Proofs.YtgpcebjcleljkaaGreatDoor

theorem dgt_mod (S k j : Nat) : dgt (S % 2 ^ (32 * k)) j = if j < k then dgt S j else 0 := by
  by_cases h : j < k
  · rw [if_pos h]
    unfold dgt
    have e : (2 : Nat) ^ (32 * k) = 2 ^ (32 * j) * (2 ^ (32 * (k - j - 1)) * 4294967296) := by
      rw [← pow32, ← Nat.pow_add]; congr 1; omega
    rw [e, Nat.mod_mul_right_div_self, Nat.mod_mod_of_dvd _ (Nat.dvd_mul_left _ _)]
  · rw [if_neg h]
    exact dgt_ge (Nat.lt_of_lt_of_le (Nat.mod_lt _ (Nat.two_pow_pos _)) (Nat.pow_le_pow_right (by decide) (by omega)))

def cry (A B k : Nat) : Nat := (A % 2 ^ (32 * k) + B % 2 ^ (32 * k)) / 2 ^ (32 * k)
theorem cry_zero (A B : Nat) : cry A B 0 = 0 := by
  unfold cry; rw [Nat.mul_zero, Nat.pow_zero, Nat.mod_one, Nat.mod_one]
theorem cry_succ (A B k : Nat) : cry A B (k + 1) = (dgt A k + dgt B k + cry A B k) / 4294967296 := by
  have hp := Nat.two_pow_pos (32 * k)
  unfold cry
  rw [mod_succ, mod_succ, pow32, ← Nat.div_div_eq_div_mul]
  congr 1
  generalize A % 2 ^ (32 * k) = a
  generalize B % 2 ^ (32 * k) = b
  rw [show a + dgt A k * 2 ^ (32 * k) + (b + dgt B k * 2 ^ (32 * k)) = (a + b) + (dgt A k + dgt B k) * 2 ^ (32 * k) by rw [Nat.add_mul]; omega, Nat.add_mul_div_right _ _ hp]
  omega
theorem dgt_add (A B k : Nat) : dgt (A + B) k = (dgt A k + dgt B k + cry A B k) % 4294967296 := by
  have hp := Nat.two_pow_pos (32 * k)
  unfold dgt cry
  generalize hP : 2 ^ (32 * k) = P at *
  have ha := Nat.div_add_mod A P
  have hb := Nat.div_add_mod B P
  have e : A + B = (A % P + B % P) + (A / P + B / P) * P := by rw [Nat.add_mul, Nat.mul_comm (A / P), Nat.mul_comm (B / P)]; omega
  rw [show (A + B) / P = (A % P + B % P) / P + (A / P + B / P) by rw (config := { occs := .pos [1] }) [e]; rw [Nat.add_mul_div_right _ _ hp]]
  omega

theorem add_round {A B k a b c s : Nat} (ha : a = dgt A k) (hb : b = dgt B k) (hc : c = cry A B k) (hs : s = a + b + c) :
    s % 4294967296 = dgt (A + B) k ∧ s / 4294967296 = cry A B (k + 1) := by
  subst ha hb hc hs
  exact ⟨(dgt_add A B k).symm, (cry_succ A B k).symm⟩
theorem div_step (A k : Nat) : A / 2 ^ (32 * k) = A / 2 ^ (32 * (k + 1)) * 4294967296 + dgt A k := by
  unfold dgt
  rw [pow32, ← Nat.div_div_eq_div_mul]
  omega
theorem sum_lt {A B m n L : Nat} (hA : A < 2 ^ (32 * m)) (hB : B < 2 ^ (32 * n)) (hm : m < L) (hn : n < L) : A + B < 2 ^ (32 * L) := by
  have e : (2 : Nat) ^ (32 * (L - 1 + 1)) = 2 ^ (32 * (L - 1)) * 4294967296 := pow32 (L - 1)
  rw [show L - 1 + 1 = L by omega] at e
  have h1 : (2 : Nat) ^ (32 * m) ≤ 2 ^ (32 * (L - 1)) := Nat.pow_le_pow_right (by decide) (by omega)
  have h2 : (2 : Nat) ^ (32 * n) ≤ 2 ^ (32 * (L - 1)) := Nat.pow_le_pow_right (by decide) (by omega)
  omega
end Go.Proofs.YtgpcebjcleljkaaGreatDoor
