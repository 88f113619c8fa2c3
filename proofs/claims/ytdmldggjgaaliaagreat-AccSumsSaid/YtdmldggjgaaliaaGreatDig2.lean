/- Plain numbers by their digits: sums and differences. No word of the program. -/
import Derived.Test.YtdmldggjgaaliaaGreatDig
namespace Go.Proofs.YtdmldggjgaaliaaGreat

theorem dgt_mod (S k j : Nat) : dgt (S % 2 ^ (32 * k)) j = if j < k then dgt S j else 0 := by
  by_cases h : j < k
  · rw [if_pos h]
    unfold dgt
    have e : (2 : Nat) ^ (32 * k) = 2 ^ (32 * j) * (2 ^ (32 * (k - j - 1)) * 4294967296) := by
      rw [← pow32, ← Nat.pow_add]; congr 1; omega
    rw [e, Nat.mod_mul_right_div_self, Nat.mod_mod_of_dvd _ (Nat.dvd_mul_left _ _)]
  · rw [if_neg h]
    exact dgt_ge (Nat.lt_of_lt_of_le (Nat.mod_lt _ (Nat.two_pow_pos _)) (Nat.pow_le_pow_right (by decide) (by omega)))

/-- What is carried into place k when A and B are added. -/
def cry (A B k : Nat) : Nat := (A % 2 ^ (32 * k) + B % 2 ^ (32 * k)) / 2 ^ (32 * k)
theorem cry_zero (A B : Nat) : cry A B 0 = 0 := by
  unfold cry; rw [Nat.mul_zero, Nat.pow_zero, Nat.mod_one, Nat.mod_one]
theorem cry_le (A B k : Nat) : cry A B k ≤ 1 := by
  unfold cry
  have h1 : A % 2 ^ (32 * k) < 2 ^ (32 * k) := Nat.mod_lt _ (Nat.two_pow_pos _)
  have h2 : B % 2 ^ (32 * k) < 2 ^ (32 * k) := Nat.mod_lt _ (Nat.two_pow_pos _)
  have : (A % 2 ^ (32 * k) + B % 2 ^ (32 * k)) / 2 ^ (32 * k) < 2 := by
    rw [Nat.div_lt_iff_lt_mul (Nat.two_pow_pos _)]; omega
  omega
theorem cry_succ (A B k : Nat) : cry A B (k + 1) = (dgt A k + dgt B k + cry A B k) / 4294967296 := by
  have hp := Nat.two_pow_pos (32 * k)
  unfold cry
  rw [mod_succ, mod_succ, pow32, ← Nat.div_div_eq_div_mul]
  congr 1
  generalize A % 2 ^ (32 * k) = a
  generalize B % 2 ^ (32 * k) = b
  rw [show a + dgt A k * 2 ^ (32 * k) + (b + dgt B k * 2 ^ (32 * k)) = (a + b) + (dgt A k + dgt B k) * 2 ^ (32 * k) by rw [Nat.add_mul]; omega, Nat.add_mul_div_right _ _ hp]
  omega
theorem dgt_add (A B k : Nat) : dgt (A + B) k = (dgt A k + dgt B k + cry A B k) % 4294967296 := by
  have hp := Nat.two_pow_pos (32 * k)
  unfold dgt cry
  generalize hP : 2 ^ (32 * k) = P at *
  have ha := Nat.div_add_mod A P
  have hb := Nat.div_add_mod B P
  have e : A + B = (A % P + B % P) + (A / P + B / P) * P := by rw [Nat.add_mul, Nat.mul_comm (A / P), Nat.mul_comm (B / P)]; omega
  rw [show (A + B) / P = (A % P + B % P) / P + (A / P + B / P) by rw (config := { occs := .pos [1] }) [e]; rw [Nat.add_mul_div_right _ _ hp]]
  omega

/-- One round of a sum. -/
theorem add_round {A B k a b c s : Nat} (ha : a = dgt A k) (hb : b = dgt B k) (hc : c = cry A B k) (hs : s = a + b + c) :
    s % 4294967296 = dgt (A + B) k ∧ s / 4294967296 = cry A B (k + 1) := by
  subst ha hb hc hs
  exact ⟨(dgt_add A B k).symm, (cry_succ A B k).symm⟩
/-- One round of a difference: A = B + D. -/
theorem sub_round {B D k a b c : Nat} (ha : a = dgt (B + D) k) (hb : b = dgt B k) (hc : c = cry B D k) :
    b + c ≤ a + 4294967296 ∧ (a + 4294967296 - b - c) % 4294967296 = dgt D k ∧ (a + 4294967296 - b - c) / 4294967296 ≤ 1 ∧ 1 - (a + 4294967296 - b - c) / 4294967296 = cry B D (k + 1) := by
  have h1 := dgt_add B D k
  have h2 := cry_succ B D k
  have h3 := dgt_lt D k
  have h4 := dgt_lt B k
  have h5 := cry_le B D k
  have h6 := dgt_lt (B + D) k
  subst ha hb hc
  rw [h2]
  generalize dgt (B + D) k = x at *
  generalize dgt B k = y at *
  generalize dgt D k = z at *
  generalize cry B D k = c at *
  omega

/-- Two numbers by their digits from the top. -/
theorem div_step (A k : Nat) : A / 2 ^ (32 * k) = A / 2 ^ (32 * (k + 1)) * 4294967296 + dgt A k := by
  unfold dgt
  rw [pow32, ← Nat.div_div_eq_div_mul]
  omega
theorem lt_of_top {A B k : Nat} (h : A / 2 ^ (32 * (k + 1)) = B / 2 ^ (32 * (k + 1))) (hd : dgt A k < dgt B k) : A < B := by
  have h1 := div_step A k
  have h2 := div_step B k
  rcases Nat.lt_or_ge A B with h3 | h3
  · exact h3
  · have := Nat.div_le_div_right (c := 2 ^ (32 * k)) h3
    omega
theorem eq_of_top {A B k : Nat} (h : A / 2 ^ (32 * (k + 1)) = B / 2 ^ (32 * (k + 1))) (hd : dgt A k = dgt B k) : A / 2 ^ (32 * k) = B / 2 ^ (32 * k) := by
  rw [div_step A k, div_step B k, h, hd]
theorem nd_lt_lt {A B : Nat} (h : nd A < nd B) : A < B := by
  have h0 : B ≠ 0 := by intro h0; rw [h0, nd_zero] at h; omega
  have h1 := nd_lt A
  have h2 := nd_le h0
  exact Nat.lt_of_lt_of_le h1 (Nat.le_trans (Nat.pow_le_pow_right (by decide) (by omega)) h2)
/-- How two numbers stand to each other. -/
def cmpN (A B : Nat) : Int := if A < B then -1 else if A = B then 0 else 1
theorem cmpN_lt {A B : Nat} (h : A < B) : cmpN A B = -1 := if_pos h
theorem cmpN_eq {A B : Nat} (h : A = B) : cmpN A B = 0 := by unfold cmpN; rw [if_neg (by omega), if_pos h]
theorem cmpN_gt {A B : Nat} (h : B < A) : cmpN A B = 1 := by unfold cmpN; rw [if_neg (by omega), if_neg (by omega)]
theorem sum_lt {A B m n L : Nat} (hA : A < 2 ^ (32 * m)) (hB : B < 2 ^ (32 * n)) (hm : m < L) (hn : n < L) : A + B < 2 ^ (32 * L) := by
  have e : (2 : Nat) ^ (32 * (L - 1 + 1)) = 2 ^ (32 * (L - 1)) * 4294967296 := pow32 (L - 1)
  rw [show L - 1 + 1 = L by omega] at e
  have h1 : (2 : Nat) ^ (32 * m) ≤ 2 ^ (32 * (L - 1)) := Nat.pow_le_pow_right (by decide) (by omega)
  have h2 : (2 : Nat) ^ (32 * n) ≤ 2 ^ (32 * (L - 1)) := Nat.pow_le_pow_right (by decide) (by omega)
  omega
end Go.Proofs.YtdmldggjgaaliaaGreat
