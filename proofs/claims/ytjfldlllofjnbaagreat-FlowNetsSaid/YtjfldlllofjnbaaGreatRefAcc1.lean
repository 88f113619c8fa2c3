/- The contract of the document's Add of sums. -/
import Derived.Test.YtjfldlllofjnbaaGreatRefAcc0
namespace Go.Proofs.YtjfldlllofjnbaaGreat
open Go.RowKit

/-- What a sum of the document's is worth, in units of 2^-2148. -/
structure DV (s : Nat) (neg : Bool) (M : Nat) (e N : Int) (k : Nat) : Prop where
  s3 : s ≤ 3
  lo : -2148 ≤ e
  hi : e ≤ 2000
  val : sg neg M * ((2 ^ (e + 2148).toNat : Nat) : Int) = N
  none : s ≠ 0 → N = 0
  bd : ∃ K, K = 4200 ∧ N.natAbs ≤ k * 2 ^ K
theorem DV.zero {s : Nat} (h : s ≤ 3) (k : Nat) : DV s false 0 0 0 k :=
  ⟨h, by decide, by decide, by rw [sg_zero_any, Int.zero_mul], fun _ => rfl, 4200, rfl, Nat.zero_le _⟩
theorem DV.mono {s : Nat} {neg : Bool} {M : Nat} {e N : Int} {k k' : Nat} (h : DV s neg M e N k) (hk : k ≤ k') : DV s neg M e N k' := by
  obtain ⟨K, hK, hb⟩ := h.bd
  exact ⟨h.s3, h.lo, h.hi, h.val, h.none, K, hK, Nat.le_trans hb (Nat.mul_le_mul_right _ hk)⟩
theorem DV.le {s : Nat} {neg : Bool} {M : Nat} {e N : Int} {k : Nat} (h : DV s neg M e N k) : M ≤ N.natAbs := by
  rw [← h.val, Int.natAbs_mul, sgn_abs, Int.natAbs_natCast]
  exact Nat.le_mul_of_pos_right _ (Nat.two_pow_pos _)
/-- Few enough steps. -/
def FewK (k : Nat) : Prop := ∃ j, j = 150 ∧ k ≤ 2 ^ j
theorem fewK_of {k : Nat} (h : k ≤ 1000) : FewK k := ⟨150, rfl, Nat.le_trans h (by decide)⟩
theorem DV.nd {s : Nat} {neg : Bool} {M : Nat} {e N : Int} {k : Nat} (h : DV s neg M e N k) (hk : FewK k) : nd M ≤ 1000 ∧ nd M ≤ 137 := by
  obtain ⟨K, hK, hb⟩ := h.bd
  obtain ⟨j, hj, hk⟩ := hk
  have h1 : M < 2 ^ (K + j + 1) := by
    have h0 := h.le
    have h2 : k * 2 ^ K ≤ 2 ^ j * 2 ^ K := Nat.mul_le_mul_right _ hk
    rw [← Nat.pow_add] at h2
    rw [Nat.pow_succ, Nat.add_comm K j]
    have h3 := Nat.two_pow_pos (j + K)
    generalize 2 ^ (j + K) = P at *
    omega
  obtain ⟨c, hc⟩ : ∃ c : Nat, c = 137 := ⟨_, rfl⟩
  have := nd_mono (N := M) (k := c) (Nat.lt_of_lt_of_le h1 (Nat.pow_le_pow_right (by decide) (by omega)))
  omega

/-- Two reals put together. -/
structure PL (M X : Nat) (nm nx : Bool) (e ex E : Int) (n m : Nat) (S T : Int) (k : Nat) : Prop where
  hn : M ≠ 0 → e - E = (n : Int)
  hm : X ≠ 0 → ex - E = (m : Int)
  hn1 : n ≤ 5000
  hm1 : m ≤ 5000
  lo : -2148 ≤ E
  hi : E ≤ 2000
  hk : E + 2148 = (k : Int)
  had : nd (M * 2 ^ n) ≤ 10000000
  hbd : nd (X * 2 ^ m) ≤ 10000000
  val : S * ((2 ^ k : Nat) : Int) = T
theorem nd_shift {M n : Nat} (h : nd M ≤ 1000) (hn : n ≤ 5000) : nd (M * 2 ^ n) ≤ 10000000 := by
  have h1 : M * 2 ^ n < 2 ^ (32 * nd M) * 2 ^ n := Nat.mul_lt_mul_of_pos_right (nd_lt M) (Nat.two_pow_pos _)
  rw [← Nat.pow_add] at h1
  have := nd_mono (N := M * 2 ^ n) (k := nd M + n / 32 + 1) (Nat.lt_of_lt_of_le h1 (Nat.pow_le_pow_right (by decide) (by omega)))
  omega
theorem piece_val {M n k : Nat} {neg : Bool} {e : Int} (hk : M ≠ 0 → n + k = (e + 2148).toNat) : sg neg (M * 2 ^ n) * ((2 ^ k : Nat) : Int) = sg neg M * ((2 ^ (e + 2148).toNat : Nat) : Int) := by
  rw [← sg_mul_nat, ← sg_mul_nat, Nat.mul_assoc, ← Nat.pow_add]
  by_cases h0 : M = 0
  · rw [h0, Nat.zero_mul, Nat.zero_mul]
  · rw [hk h0]
theorem pl_of {M X : Nat} {nm nx : Bool} {e ex E : Int} (h1 : -2148 ≤ e) (h2 : e ≤ 2000) (h3 : -2148 ≤ ex) (h4 : ex ≤ 2000) (hM : nd M ≤ 1000) (hX : nd X ≤ 1000) (hE : bothE M e X ex = E) :
    ∃ n m k, PL M X nm nx e ex E n m (sg nm (M * 2 ^ n) + sg nx (X * 2 ^ m)) (sg nm M * ((2 ^ (e + 2148).toNat : Nat) : Int) + sg nx X * ((2 ^ (ex + 2148).toNat : Nat) : Int)) k := by
  have hEr : -2148 ≤ E ∧ E ≤ 2000 ∧ (M ≠ 0 → E ≤ e) ∧ (X ≠ 0 → E ≤ ex) := by
    rw [← hE]; unfold bothE
    by_cases a : M = 0
    · rw [if_pos a]; refine ⟨h3, h4, fun h => absurd a h, fun _ => Int.le_refl _⟩
    · rw [if_neg a]
      by_cases b : X = 0
      · rw [if_pos b]; exact ⟨h1, h2, fun _ => Int.le_refl _, fun h => absurd b h⟩
      · rw [if_neg b]; refine ⟨by omega, by omega, fun _ => by omega, fun _ => by omega⟩
  obtain ⟨e1, e2, e3, e4⟩ := hEr
  refine ⟨(e - E).toNat, (ex - E).toNat, (E + 2148).toNat, fun h => by have := e3 h; omega, fun h => by have := e4 h; omega, by omega, by omega, e1, e2, by omega, nd_shift hM (by omega), nd_shift hX (by omega), ?_⟩
  rw [Int.add_mul, piece_val (e := e) (fun h => by have := e3 h; omega), piece_val (e := ex) (fun h => by have := e4 h; omega)]
/-- What Plus tells, as a sum. -/
theorem plus_dv {s M X N' n m k kk kk' : Nat} {nm nx neg' : Bool} {e ex E E' T : Int} (h : PL M X nm nx e ex E n m (sg nm (M * 2 ^ n) + sg nx (X * 2 ^ m)) T k) (hs : sg neg' N' = sg nm (M * 2 ^ n) + sg nx (X * 2 ^ m)) (hE : E' = E ∨ (E' = 0 ∧ N' = 0)) (hs0 : s = 0) (hb : ∃ K, K = 4200 ∧ T.natAbs ≤ kk * 2 ^ K) (hkk : kk ≤ kk') : DV s neg' N' E' T kk' := by
  obtain ⟨K, hK, hb⟩ := hb
  have hv := h.val
  rw [← hs] at hv
  have hlo := h.lo
  have hhi := h.hi
  have hk := h.hk
  refine ⟨by omega, by omega, by omega, ?_, fun c => absurd hs0 c, K, hK, Nat.le_trans hb (Nat.mul_le_mul_right _ hkk)⟩
  rcases hE with e1 | ⟨e1, e2⟩
  · rw [e1, show (E + 2148).toNat = k by omega]; exact hv
  · rw [e2, sg_zero_any, Int.zero_mul] at hv ⊢; exact hv

theorem split_at {p : Nat} {neg : Bool} {N : Nat} {e : Int} (h : OfR p neg N e) (h64 : p < 18446744073709551616) (hn : NumB p) : splM (p : Int) * ((2 ^ (splE (p : Int) + 2148).toNat : Nat) : Int) = sg neg N * ((2 ^ (e + 2148).toNat : Nat) : Int) ∧ splOk (p : Int) = true ∧ (N ≠ 0 → splM (p : Int) = sg neg N ∧ splE (p : Int) = e) ∧ (N = 0 → splM (p : Int) = 0) := by
  have hsz := szI_nat p
  have hn' := hn
  unfold NumB at hn'
  have hok : splOk (p : Int) = true := by unfold splOk; rw [hsz]; simp; omega
  have key : (N ≠ 0 → splM (p : Int) = sg neg N ∧ splE (p : Int) = e) ∧ (N = 0 → splM (p : Int) = 0) := by
    refine ⟨fun h0 => ?_, fun h0 => ?_⟩
    · obtain ⟨m1, m2⟩ := h.mag h0
      have hr0 : p % 9223372036854775808 ≠ 0 := by
        intro e0; rw [e0] at m1; exact h0 (by rw [m1]; decide)
      have g1 : magI ((p % 9223372036854775808 : Nat) : Int) = (mg (p % 9223372036854775808) : Int) := by
        generalize p % 9223372036854775808 = r at *
        unfold magI mg
        by_cases c : r < 4503599627370496
        · rw [if_pos c, if_pos (by omega)]
        · rw [if_neg c, if_neg (by omega)]; omega
      have g2 : plcI ((p % 9223372036854775808 : Nat) : Int) = -1074 + (pl (p % 9223372036854775808) : Int) := by
        generalize p % 9223372036854775808 = r at *
        unfold plcI pl
        by_cases c : r < 4503599627370496
        · rw [if_pos (by omega)]; omega
        · rw [if_neg (by omega)]; omega
      constructor
      · unfold splM
        rw [hok, if_pos rfl, hsz, g1, ← m1, sgB_nat h64, ← h.sgn h0]
        rfl
      · unfold splE
        rw [hok, hsz, g2, ← m2, show decide (((p % 9223372036854775808 : Nat) : Int) ≠ 0) = true by simpa using fun h => hr0 (by omega)]
        rfl
    · have hz : p % 9223372036854775808 = 0 := by
        have := h.val
        rw [h0, Nat.zero_mul] at this
        have e9 := V_eq_iff (r := p % 9223372036854775808) (s := 0)
        rw [V_zero] at e9
        exact e9.1 this.symm
      unfold splM
      rw [hok, if_pos rfl, hsz, hz, show magI ((0 : Nat) : Int) = 0 from rfl]
      split <;> rfl
  refine ⟨?_, hok, key⟩
  by_cases h0 : N = 0
  · rw [key.2 h0, h0, sg_zero_any, Int.zero_mul, Int.zero_mul]
  · rw [(key.1 h0).1, (key.1 h0).2]
theorem of_unit {x : Nat} {nx : Bool} {X : Nat} {ex : Int} (h : OfR x nx X ex) (h64 : x < 18446744073709551616) (hn : NumB x) : sg nx X * ((2 ^ (ex + 2148).toNat : Nat) : Int) = A.unitI (x : Int) := by
  rw [← (split_at h h64 hn).1]
  unfold A.unitI
  rw [Int.natCast_pow]; rfl
theorem of_small {x : Nat} {nx : Bool} {X : Nat} {ex : Int} (h : OfR x nx X ex) : ∃ K, K = 4200 ∧ (sg nx X * ((2 ^ (ex + 2148).toNat : Nat) : Int)).natAbs ≤ 1 * 2 ^ K := by
  refine ⟨4200, rfl, ?_⟩
  obtain ⟨K, hK⟩ : ∃ K : Nat, K = 4200 := ⟨_, rfl⟩
  rw [← hK]
  rw [Int.natAbs_mul, sgn_abs, Int.natAbs_natCast, Nat.one_mul]
  have h1 := h.lt
  have h2 := h.hi
  have h3 : X * 2 ^ (ex + 2148).toNat ≤ 2 ^ 53 * 2 ^ (ex + 2148).toNat := Nat.mul_le_mul_right _ (by omega)
  rw [← Nat.pow_add] at h3
  exact Nat.le_trans h3 (Nat.pow_le_pow_right (by decide) (by omega))
theorem sum_bd {A B : Int} {k : Nat} (hA : ∃ K, K = 4200 ∧ A.natAbs ≤ k * 2 ^ K) (hB : ∃ K, K = 4200 ∧ B.natAbs ≤ 1 * 2 ^ K) : ∃ K, K = 4200 ∧ (A + B).natAbs ≤ (k + 1) * 2 ^ K := by
  obtain ⟨K, hK, a⟩ := hA
  obtain ⟨K', hK', b⟩ := hB
  have : K' = K := by omega
  subst this
  refine ⟨K', hK, ?_⟩
  rw [Nat.add_mul]
  generalize k * 2 ^ K' = P at *
  generalize 1 * 2 ^ K' = Q at *
  omega
end Go.Proofs.YtjfldlllofjnbaaGreat
