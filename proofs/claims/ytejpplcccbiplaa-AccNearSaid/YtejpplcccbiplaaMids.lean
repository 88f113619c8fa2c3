/- What is nearest lies on no far side of the middles to its neighbours: plain facts. -/
import Derived.Test.YtejpplcccbiplaaWAccWhole
namespace Go.Proofs.Ytejpplcccbiplaa

theorem rne_up (n d : Nat) : 2 * n ≤ (2 * rne n d + 1) * 2 ^ d := by
  have h1 := Nat.div_add_mod n (2 ^ d)
  have h2 := Nat.mod_lt n (Nat.two_pow_pos d)
  unfold rne
  generalize hq : n / 2 ^ d = q at *
  generalize hr : n % 2 ^ d = r at *
  generalize (2 : Nat) ^ d = P at *
  split
  · have e : (2 * (q + 1) + 1) * P = 2 * (P * q) + 3 * P := by rw [Nat.add_mul, Nat.mul_add, Nat.add_mul, Nat.mul_assoc, Nat.mul_comm q P]; omega
    rw [e]; omega
  · rename_i hc
    have e : (2 * (q + 0) + 1) * P = 2 * (P * q) + P := by rw [show q + 0 = q from rfl, Nat.add_mul, Nat.mul_assoc, Nat.mul_comm q P, Nat.one_mul]
    rw [e]
    have : ¬ (P < 2 * r) := fun h => hc (Or.inl h)
    omega
theorem rne_down (n d : Nat) : 2 * rne n d * 2 ^ d ≤ 2 * n + 2 ^ d := by
  have h1 := Nat.div_add_mod n (2 ^ d)
  have h2 := Nat.mod_lt n (Nat.two_pow_pos d)
  unfold rne
  generalize hq : n / 2 ^ d = q at *
  generalize hr : n % 2 ^ d = r at *
  generalize (2 : Nat) ^ d = P at *
  split
  · rename_i hc
    have e : 2 * (q + 1) * P = 2 * (P * q) + 2 * P := by rw [Nat.mul_add, Nat.add_mul, Nat.mul_assoc, Nat.mul_comm q P]
    rw [e]
    have : P ≤ 2 * r := by rcases hc with h | h <;> omega
    omega
  · have e : 2 * (q + 0) * P = 2 * (P * q) := by rw [show q + 0 = q from rfl, Nat.mul_assoc, Nat.mul_comm q P]
    rw [e]; omega
/-- A rung by its place and what is kept there. -/
theorem V_rung {t k : Nat} (h : t = 0 ∨ 4503599627370496 ≤ k) (hk : k ≤ 9007199254740992) : V (t * 4503599627370496 + k) = k * 2 ^ t := by
  unfold V mg pl
  by_cases h53 : k = 9007199254740992
  · subst h53
    rw [if_neg (by omega), show (t * 4503599627370496 + 9007199254740992) / 4503599627370496 - 1 = t + 1 by omega, show 4503599627370496 + (t * 4503599627370496 + 9007199254740992) % 4503599627370496 = 4503599627370496 by omega, Nat.pow_succ]; omega
  · by_cases h0 : t * 4503599627370496 + k < 4503599627370496
    · obtain rfl : t = 0 := by omega
      rw [if_pos h0, show (0 * 4503599627370496 + k) / 4503599627370496 - 1 = 0 by omega]; simp
    · rw [if_neg h0]
      by_cases h1 : 4503599627370496 ≤ k
      · rw [show (t * 4503599627370496 + k) / 4503599627370496 - 1 = t by omega, show 4503599627370496 + (t * 4503599627370496 + k) % 4503599627370496 = k by omega]
      · omega
theorem V_next {t k : Nat} (h : t = 0 ∨ 4503599627370496 ≤ k) (hk : k ≤ 9007199254740992) : (k + 1) * 2 ^ t ≤ V (t * 4503599627370496 + k + 1) := by
  by_cases h53 : k = 9007199254740992
  · subst h53
    have := V_rung (t := t + 1) (k := 4503599627370497) (Or.inr (by omega)) (by omega)
    rw [show t * 4503599627370496 + 9007199254740992 + 1 = (t + 1) * 4503599627370496 + 4503599627370497 by omega, this, Nat.pow_succ, Nat.mul_comm (2 ^ t) 2, ← Nat.mul_assoc]
    exact Nat.mul_le_mul_right _ (by omega)
  · have := V_rung (t := t) (k := k + 1) (by omega) (by omega)
    rw [Nat.add_assoc, this]; exact Nat.le_refl _
theorem V_prev {t k : Nat} (h : t = 0 ∨ 4503599627370496 < k) (hk : k ≤ 9007199254740992) (h1 : 1 ≤ k) : V (t * 4503599627370496 + k - 1) = (k - 1) * 2 ^ t := by
  have := V_rung (t := t) (k := k - 1) (by omega) (by omega)
  rw [show t * 4503599627370496 + k - 1 = t * 4503599627370496 + (k - 1) by omega, this]
/-- The middles on both sides. -/
theorem near_mids {M K : Nat} (hK : K = 1074) (h0 : M ≠ 0) (hr : nearR M (-2148) < 9218868437227405312) :
    2 * M ≤ (V (nearR M (-2148)) + V (nearR M (-2148) + 1)) * 2 ^ K ∧ (1 ≤ nearR M (-2148) → (V (nearR M (-2148)) + V (nearR M (-2148) - 1)) * 2 ^ K ≤ 2 * M) := by
  have hlo : -1074 ≤ lastP M (-2148) := by unfold lastP; omega
  obtain ⟨t, ht⟩ : ∃ t : Nat, lastP M (-2148) = (t : Int) - 1074 := ⟨(lastP M (-2148) + 1074).toNat, by omega⟩
  obtain ⟨D, hD⟩ : ∃ D, D = t + K := ⟨_, rfl⟩
  obtain ⟨k, hk⟩ : ∃ k, rne M D = k := ⟨_, rfl⟩
  have hlp := ht
  unfold lastP at hlp
  have hMlt : M < 9007199254740992 * 2 ^ D := by
    have b : M < 2 ^ (M.log2 + 1) := Nat.lt_log2_self
    have : (2 : Nat) ^ (M.log2 + 1) ≤ 2 ^ (53 + D) := Nat.pow_le_pow_right (by decide) (by omega)
    rw [Nat.pow_add 2 53 D, show (2 : Nat) ^ 53 = 9007199254740992 from rfl] at this
    omega
  have hk2 : k ≤ 9007199254740992 := by rw [← hk]; exact rne_bd hMlt
  have hge : 0 < t → 4503599627370496 * 2 ^ D ≤ M := fun h => by
    have a := Nat.log2_self_le h0
    have : (2 : Nat) ^ (52 + D) ≤ 2 ^ M.log2 := Nat.pow_le_pow_right (by decide) (by omega)
    rw [Nat.pow_add 2 52 D, show (2 : Nat) ^ 52 = 4503599627370496 from rfl] at this
    omega
  have hk1 : 0 < t → 4503599627370496 ≤ k := fun h => by
    have h1 := hge h
    have h2 : 4503599627370496 ≤ M / 2 ^ D := (Nat.le_div_iff_mul_le (Nat.two_pow_pos D)).2 h1
    rw [← hk]
    unfold rne
    split <;> omega
  have hR : nearR M (-2148) = t * 4503599627370496 + k := by
    have e : nearR M (-2148) = min (t * 4503599627370496 + k) 9218868437227405312 := by
      unfold nearR
      rw [ht, show ((t : Int) - 1074 + 1074).toNat = t by omega, show (-2148 - ((t : Int) - 1074)).toNat = 0 by omega, show ((t : Int) - 1074 - -2148).toNat = D by omega, Nat.pow_zero, Nat.mul_one, hk]
    rw [e] at hr ⊢
    omega
  have hup := rne_up M D
  have hdn := rne_down M D
  rw [hk] at hup hdn
  have hP : (2 : Nat) ^ D = 2 ^ t * 2 ^ K := by rw [hD, Nat.pow_add]
  rw [hR]
  have hV := V_rung (t := t) (k := k) (by omega) hk2
  constructor
  · have hn := V_next (t := t) (k := k) (by omega) hk2
    rw [hV]
    refine Nat.le_trans hup ?_
    rw [hP, ← Nat.mul_assoc]
    refine Nat.mul_le_mul_right _ ?_
    rw [show 2 * k + 1 = k + (k + 1) by omega, Nat.add_mul]
    omega
  · intro h1
    by_cases hc : t = 0 ∨ 4503599627370496 < k
    · have h1k : 1 ≤ k := by omega
      rw [hV, V_prev hc hk2 h1k, ← Nat.add_mul, Nat.mul_assoc, ← hP]
      have e : (k + (k - 1)) * 2 ^ D + 2 ^ D = 2 * k * 2 ^ D := by
        rw [← Nat.succ_mul]; congr 1; omega
      omega
    · have hkk : k = 4503599627370496 := by have := hk1 (by omega); omega
      have hlt : V (t * 4503599627370496 + k - 1) ≤ V (t * 4503599627370496 + k) := V_le (by omega)
      have h2 := hge (by omega)
      rw [hV] at hlt ⊢
      have h3 : (k * 2 ^ t + V (t * 4503599627370496 + k - 1)) * 2 ^ K ≤ (k * 2 ^ t + k * 2 ^ t) * 2 ^ K := Nat.mul_le_mul_right _ (by omega)
      refine Nat.le_trans h3 ?_
      rw [Nat.add_mul, Nat.mul_assoc, ← hP, hkk]
      omega
theorem cast_mids (a b P : Nat) : (((a + b) * P : Nat) : Int) = ((a : Int) + (b : Int)) * (P : Int) := by rw [Int.natCast_mul, Int.natCast_add]
/-- The worth of a rank, in units of the least number. -/
def wR (r : Int) : Int := if r < 0 then -(V r.natAbs : Int) else (V r.natAbs : Int)
theorem near_between {N : Int} {K : Nat} (hK : K = 1074) (h : valF N % 9223372036854775808 < 9218868437227405312) :
    2 * N ≤ (wR (rankI (valF N)) + wR (rankI (valF N) + 1)) * ((2 ^ K : Nat) : Int) ∧ (wR (rankI (valF N)) + wR (rankI (valF N) - 1)) * ((2 ^ K : Nat) : Int) ≤ 2 * N := by
  have hp : (0 : Int) < ((2 ^ K : Nat) : Int) := by have := Nat.two_pow_pos K; omega
  have hV1 : V 1 = 1 := rfl
  have e1 : wR 1 = 1 := rfl
  have e0 : wR 0 = 0 := rfl
  have em : wR (-1) = -1 := rfl
  by_cases h0 : N = 0
  · subst h0
    have : valF 0 = 0 := rfl
    rw [this, show rankI ((0 : Nat) : Int) = 0 from rfl]
    rw [show (0 : Int) + 1 = 1 from rfl, show (0 : Int) - 1 = -1 from rfl, e0, e1, em]
    omega
  · obtain ⟨r, hr⟩ : ∃ r, nearR N.natAbs (-2148) = r := ⟨_, rfl⟩
    have hle := nearR_le N.natAbs (-2148)
    rw [hr] at hle
    by_cases hn : N < 0
    · have hv : valF N = 9223372036854775808 + r := by unfold valF joinN; rw [if_neg h0, if_pos hn, hr]
      rw [hv] at h ⊢
      have hr2 : r < 9218868437227405312 := by omega
      obtain ⟨m1, m2⟩ := near_mids (M := N.natAbs) hK (by omega) (by rw [hr]; exact hr2)
      rw [hr] at m1 m2
      have hrk : rankI ((9223372036854775808 + r : Nat) : Int) = -(r : Int) := by
        have hsz : szI ((9223372036854775808 + r : Nat) : Int) = (r : Int) := by unfold szI; omega
        have hnan : nanB ((9223372036854775808 + r : Nat) : Int) = false := by unfold nanB; rw [hsz, decide_eq_false_iff_not]; omega
        have hsg : sgB ((9223372036854775808 + r : Nat) : Int) = true := by unfold sgB; rw [decide_eq_true_eq]; omega
        rw [rank_neg hnan hsg, hsz]
      rw [hrk]
      have a1 : ((2 * N.natAbs : Nat) : Int) ≤ (((V r + V (r + 1)) * 2 ^ K : Nat) : Int) := Int.ofNat_le.2 m1
      rw [cast_mids] at a1
      have w0 : wR (-(r : Int)) = -(V r : Int) := by
        unfold wR
        by_cases h5 : r = 0
        · subst h5; rfl
        · rw [if_pos (by omega), show (-(r : Int)).natAbs = r by omega]
      have w1 : wR (-(r : Int) - 1) = -(V (r + 1) : Int) := by
        unfold wR
        rw [if_pos (by omega), show (-(r : Int) - 1).natAbs = r + 1 by omega]
      rw [w0, w1]
      refine ⟨?_, ?_⟩
      · by_cases h5 : r = 0
        · subst h5
          rw [show -((0 : Nat) : Int) + 1 = 1 from rfl, e1, show V 0 = 0 from rfl]
          have : (0 : Int) ≤ (-((0 : Nat) : Int) + 1) * ((2 ^ K : Nat) : Int) := Int.mul_nonneg (by decide) (by omega)
          omega
        · have a2 : (((V r + V (r - 1)) * 2 ^ K : Nat) : Int) ≤ ((2 * N.natAbs : Nat) : Int) := Int.ofNat_le.2 (m2 (by omega))
          rw [cast_mids] at a2
          have w2 : wR (-(r : Int) + 1) = -(V (r - 1) : Int) := by
            unfold wR
            by_cases h6 : r = 1
            · subst h6; rfl
            · rw [if_pos (by omega), show (-(r : Int) + 1).natAbs = r - 1 by omega]
          rw [w2, ← Int.neg_add, Int.neg_mul]
          omega
      · rw [← Int.neg_add, Int.neg_mul]; omega
    · have hv : valF N = r := by unfold valF joinN; rw [if_neg h0, if_neg hn, hr]
      rw [hv] at h ⊢
      have hr2 : r < 9218868437227405312 := by omega
      obtain ⟨m1, m2⟩ := near_mids (M := N.natAbs) hK (by omega) (by rw [hr]; exact hr2)
      rw [hr] at m1 m2
      have hrk : rankI (r : Int) = (r : Int) := by
        have hsz : szI (r : Int) = (r : Int) := by unfold szI; omega
        have hnan : nanB (r : Int) = false := by unfold nanB; rw [hsz, decide_eq_false_iff_not]; omega
        have hsg : sgB (r : Int) = false := by unfold sgB; rw [decide_eq_false_iff_not]; omega
        rw [rank_pos hnan hsg, hsz]
      rw [hrk]
      have a1 : ((2 * N.natAbs : Nat) : Int) ≤ (((V r + V (r + 1)) * 2 ^ K : Nat) : Int) := Int.ofNat_le.2 m1
      rw [cast_mids] at a1
      have w0 : wR (r : Int) = (V r : Int) := by unfold wR; rw [if_neg (by omega), Int.natAbs_natCast]
      have w1 : wR ((r : Int) + 1) = (V (r + 1) : Int) := by unfold wR; rw [if_neg (by omega), show ((r : Int) + 1).natAbs = r + 1 by omega]
      rw [w0, w1]
      refine ⟨by omega, ?_⟩
      by_cases h5 : r = 0
      · subst h5
        rw [show ((0 : Nat) : Int) - 1 = -1 from rfl, em, show V 0 = 0 from rfl]
        have : (((0 : Nat) : Int) + -1) * ((2 ^ K : Nat) : Int) = -((2 ^ K : Nat) : Int) := by rw [show ((0 : Nat) : Int) + -1 = -1 from rfl, Int.neg_mul, Int.one_mul]
        omega
      · have a2 : (((V r + V (r - 1)) * 2 ^ K : Nat) : Int) ≤ ((2 * N.natAbs : Nat) : Int) := Int.ofNat_le.2 (m2 (by omega))
        rw [cast_mids] at a2
        have w2 : wR ((r : Int) - 1) = (V (r - 1) : Int) := by unfold wR; rw [if_neg (by omega), show ((r : Int) - 1).natAbs = r - 1 by omega]
        rw [w2]; omega
end Go.Proofs.Ytejpplcccbiplaa
