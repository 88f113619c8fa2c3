/- The contract of Split. Exact products: whole numbers, and powers of 2. A sum, a difference and a product rise where what they are rounded from rises: no word of the program. -/
import Derived.Test.YtphnainibdepbaaGreatHat
namespace Go.Proofs.YtphnainibdepbaaGreat
open Go.RowKit

theorem and_mask52 {z : Int} (h0 : 0 ≤ z) (h : z < 18446744073709551616) : bits .and .u64 z 4503599627370495 = z % 4503599627370496 := by
  obtain ⟨b, rfl⟩ := Int.eq_ofNat_of_zero_le h0
  have := bits_and_u64_nat b 4503599627370495 (by omega) (by decide)
  rw [show ((4503599627370495 : Nat) : Int) = 4503599627370495 from rfl] at this
  rw [this]
  have e := Nat.and_two_pow_sub_one_eq_mod b 52
  rw [show (2 : Nat) ^ 52 - 1 = 4503599627370495 from rfl, show (2 : Nat) ^ 52 = 4503599627370496 from rfl] at e
  rw [e]; omega
theorem or_hidden {z : Int} (h0 : 0 ≤ z) (h : z < 4503599627370496) : bits .or .u64 z 4503599627370496 = 4503599627370496 + z := by
  obtain ⟨b, rfl⟩ := Int.eq_ofNat_of_zero_le h0
  have := bits_or_u64_nat b 4503599627370496 (by omega) (by decide)
  rw [show ((4503599627370496 : Nat) : Int) = 4503599627370496 from rfl] at this
  rw [this]
  have h2 := Nat.two_pow_add_eq_or_of_lt (i := 52) (b := b) (by omega) 1
  rw [Nat.or_comm, show (4503599627370496 : Nat) = 2 ^ 52 * 1 from rfl, ← h2]
  omega

def magI (z : Int) : Int := if z < 4503599627370496 then z else 4503599627370496 + z % 4503599627370496
def plcI (z : Int) : Int := if z < 4503599627370496 then -1074 else z / 4503599627370496 - 1075
def splOk (u : Int) : Bool := decide (szI u < 9218868437227405312)
def splM (u : Int) : Int := if splOk u then (if sgB u then -magI (szI u) else magI (szI u)) else 0
def splE (u : Int) : Int := if splOk u && decide (szI u ≠ 0) then plcI (szI u) else 0

set_option maxHeartbeats 400000 in
theorem split_no (b : Nat) (u : Int) (w : World) (hu : Hid (u = b)) (h : U64 u) (h1 : 9218868437227405312 ≤ szI u) :
    Calls Tryz.prog 50 #[.float .f64 b] w fun e w' => e = .returned (.tuple #[.int .i64 0, .int .i64 0, .bool false]) ∧ w' = w := by
  go_enter Tryz.func50, Tryz.ntmps50
  go_wp2_with (go_at_call 72; refine (size_as _ _ _ hu h).mono ?_; rintro e w' ⟨rfl, rfl⟩)
  go_ret3
  exact ⟨rfl, rfl⟩

set_option maxHeartbeats 400000 in
theorem split_zero (b : Nat) (u : Int) (w : World) (hu : Hid (u = b)) (h : U64 u) (h1 : szI u = 0) :
    Calls Tryz.prog 50 #[.float .f64 b] w fun e w' => e = .returned (.tuple #[.int .i64 0, .int .i64 0, .bool true]) ∧ w' = w := by
  go_enter Tryz.func50, Tryz.ntmps50
  go_wp2_with (go_at_call 72; refine (size_as _ _ _ hu h).mono ?_; rintro e w' ⟨rfl, rfl⟩)
  go_ret3
  exact ⟨rfl, rfl⟩

set_option maxHeartbeats 400000 in
theorem split_sub (b : Nat) (u : Int) (w : World) (hu : Hid (u = b)) (h : U64 u) (h1 : 0 < szI u) (h2 : szI u < 4503599627370496) :
    Calls Tryz.prog 50 #[.float .f64 b] w fun e w' => e = .returned (.tuple #[.int .i64 (if sgB u then -szI u else szI u), .int .i64 (-1074), .bool true]) ∧ w' = w := by
  cases hs : sgB u
  all_goals
    simp only [Bool.false_eq_true, if_true, if_false]
    go_enter Tryz.func50, Tryz.ntmps50
    go_wp2_with (first | (go_at_call 72; refine (size_as _ _ _ hu h).mono ?_; rintro e w' ⟨rfl, rfl⟩) | (go_at_call 73; refine (signed_as _ _ _ hu h).mono ?_; rintro e w' ⟨rfl, rfl⟩))
    go_ret3
    exact ⟨rfl, rfl⟩

set_option maxHeartbeats 400000 in
theorem split_normal (b : Nat) (u m : Int) (w : World) (hu : Hid (u = b)) (h : U64 u) (h1 : 4503599627370496 ≤ szI u) (h2 : szI u < 9218868437227405312)
    (hm : bits .or .u64 (bits .and .u64 (szI u) 4503599627370495) 4503599627370496 = m) (hm0 : 4503599627370496 ≤ m) (hm1 : m < 9007199254740992) :
    Calls Tryz.prog 50 #[.float .f64 b] w fun e w' => e = .returned (.tuple #[.int .i64 (if sgB u then -m else m), .int .i64 (szI u / 4503599627370496 - 1 + -1074), .bool true]) ∧ w' = w := by
  cases hs : sgB u
  all_goals
    simp only [Bool.false_eq_true, if_true, if_false]
    go_enter Tryz.func50, Tryz.ntmps50
    go_wp2_with (first | (go_at_call 72; refine (size_as _ _ _ hu h).mono ?_; rintro e w' ⟨rfl, rfl⟩) | (go_at_call 73; refine (signed_as _ _ _ hu h).mono ?_; rintro e w' ⟨rfl, rfl⟩))
    go_ret3
    exact ⟨rfl, rfl⟩

theorem split_as (b : Nat) (u : Int) (w : World) (hu : Hid (u = b)) (h : U64 u) :
    Calls Tryz.prog 50 #[.float .f64 b] w fun e w' => e = .returned (.tuple #[.int .i64 (splM u), .int .i64 (splE u), .bool (splOk u)]) ∧ w' = w := by
  have hlo := szI_lo u
  have hhi := szI_hi u
  by_cases h1 : szI u < 9218868437227405312
  · have e1 : splOk u = true := by simp [splOk, h1]
    by_cases h2 : szI u = 0
    · have e2 : splM u = 0 := by unfold splM magI; rw [h2]; simp
      have e3 : splE u = 0 := by unfold splE; rw [h2]; simp
      rw [e1, e2, e3]; exact split_zero b u w hu h h2
    · by_cases h3 : szI u < 4503599627370496
      · have e2 : splM u = if sgB u then -szI u else szI u := by unfold splM magI; rw [e1, if_pos h3]; rfl
        have e3 : splE u = -1074 := by unfold splE plcI; simp [e1, h2, h3]
        rw [e1, e2, e3]; exact split_sub b u w hu h (by omega) h3
      · have e2 : splM u = if sgB u then -(4503599627370496 + szI u % 4503599627370496) else 4503599627370496 + szI u % 4503599627370496 := by unfold splM magI; rw [e1, if_neg h3]; rfl
        have e3 : splE u = szI u / 4503599627370496 - 1 + -1074 := by unfold splE plcI; simp [e1, h2, h3]; omega
        rw [e1, e2, e3]
        exact split_normal b u _ w hu h (by omega) h1 (by rw [and_mask52 hlo (by omega), or_hidden (by omega) (by omega)]) (by omega) (by omega)
  · have e1 : splOk u = false := by simp [splOk, h1]
    have e2 : splM u = 0 := by simp [splM, e1]
    have e3 : splE u = 0 := by simp [splE, e1]
    rw [e1, e2, e3]; exact split_no b u w hu h (by omega)
end Go.Proofs.YtphnainibdepbaaGreat
namespace Go.Proofs.YtphnainibdepbaaGreat

theorem vI_sgZ (x : Nat) : vI x = sgZ (sB x) (aV x) := rfl
theorem aV_fi {a : Int} {K : Nat} (hK : K = 1074) (h1 : -9007199254740992 ≤ a) (h2 : a ≤ 9007199254740992) : aV (fi a) = a.natAbs * 2 ^ K ∧ sB (fi a) = decide (a < 0) ∧ NumB (fi a) ∧ fi a < 18446744073709551616 := by
  obtain ⟨b1, b2, b3, b4⟩ := vI_fi hK h1 h2
  refine ⟨?_, b3, b2, b4⟩
  have h3 : (vI (fi a)).natAbs = aV (fi a) := by
    rw [vI_sgZ]; unfold sgZ; cases sB (fi a) <;> simp
  rw [← h3, b1, natAbs_mul_pow]
def P2 (k : Int) : Nat := nearR 1 k
theorem P2_eq {k : Int} (h1 : -1022 ≤ k) (h2 : k ≤ 1023) : P2 k = (k + 1023).toNat * 4503599627370496 := by
  unfold P2
  have hl : Nat.log2 1 = 0 := by decide
  rw [nearR_normal (by decide) (by decide) (by rw [hl]; omega) (by rw [hl]; omega), hl, show rne (1 * 2 ^ (63 - 0)) 11 = 4503599627370496 by decide]
  omega
theorem P2_zero : P2 0 = 4607182418800017408 := by rw [P2_eq (by decide) (by decide)]; rfl
theorem fi_one : fi 1 = 4607182418800017408 := by
  show joinN 1 0 = _
  exact P2_zero
end Go.Proofs.YtphnainibdepbaaGreat
namespace Go.Proofs.YtphnainibdepbaaGreat

def rndI (T p : Int) : Int := if T = 0 then 0 else if T < 0 then -(nearR T.natAbs p : Int) else (nearR T.natAbs p : Int)
theorem nearR_top (M : Nat) (p : Int) : nearR M p ≤ 9218868437227405312 := Nat.min_le_right _ _
theorem rnd_mono {T T' : Int} (p : Int) (h : T ≤ T') : rndI T p ≤ rndI T' p := by
  unfold rndI
  by_cases h0 : T = 0
  · rw [if_pos h0]
    by_cases h1 : T' = 0
    · rw [if_pos h1]; omega
    · rw [if_neg h1, if_neg (by omega)]; omega
  · rw [if_neg h0]
    by_cases h1 : T' = 0
    · rw [if_pos h1, if_pos (by omega)]; omega
    · rw [if_neg h1]
      by_cases s : T < 0
      · rw [if_pos s]
        by_cases s' : T' < 0
        · rw [if_pos s']
          have := nearR_mono p (show T'.natAbs ≤ T.natAbs by omega)
          omega
        · rw [if_neg s']; omega
      · rw [if_neg s, if_neg (by omega)]
        have := nearR_mono p (show T.natAbs ≤ T'.natAbs by omega)
        omega
theorem rnd_neg (T p : Int) : rndI (-T) p = -rndI T p := by
  unfold rndI
  by_cases h0 : T = 0
  · rw [if_pos h0, if_pos (by omega)]; rfl
  · rw [if_neg h0, if_neg (by omega), Int.natAbs_neg]
    by_cases s : T < 0
    · rw [if_pos s, if_neg (by omega)]; omega
    · rw [if_neg s, if_pos (by omega)]
def RkW (r : Nat) (k : Int) : Prop := rankI (r : Int) = k ∧ r < 18446744073709551616 ∧ nanB (r : Int) = false
theorem rk_pos {r : Nat} (h : r ≤ 9218868437227405312) : RkW r (r : Int) := by
  have hn : nanB (r : Int) = false := by unfold nanB szI; rw [decide_eq_false_iff_not]; omega
  have hs : sgB (r : Int) = false := by unfold sgB; rw [decide_eq_false_iff_not]; omega
  refine ⟨?_, by omega, hn⟩
  rw [rank_pos hn hs]
  unfold szI
  omega
theorem rk_neg {r q : Nat} (h : r ≤ 9218868437227405312) (hq : q = 9223372036854775808 + r) : RkW q (-(r : Int)) := by
  have hn : nanB (q : Int) = false := by unfold nanB szI; rw [decide_eq_false_iff_not]; omega
  have hs : sgB (q : Int) = true := by unfold sgB; rw [decide_eq_true_iff]; omega
  refine ⟨?_, by omega, hn⟩
  unfold rankI
  rw [hn, hs]
  simp only [Bool.false_eq_true, if_false, if_true]
  unfold szI
  omega
theorem rk_zero : RkW 0 0 := rk_pos (r := 0) (by omega)
theorem rk_nzero : RkW 9223372036854775808 0 := rk_neg (r := 0) (by omega) (by omega)
theorem rk_wrd {s : Bool} {r : Nat} (h : r ≤ 9218868437227405312) : RkW (wrd s r) (sgZ s r) := by
  unfold wrd sgZ
  cases s
  · simp only [Bool.false_eq_true, if_false]; exact rk_pos h
  · simp only [if_true]; exact rk_neg h rfl
theorem rank_join (T p : Int) : RkW (joinN T p) (rndI T p) := by
  unfold joinN rndI
  by_cases h0 : T = 0
  · rw [if_pos h0, if_pos h0]; exact rk_zero
  · rw [if_neg h0, if_neg h0]
    have hr := nearR_top T.natAbs p
    generalize nearR T.natAbs p = r at *
    by_cases s : T < 0
    · rw [if_pos s, if_pos s]
      exact rk_neg hr rfl
    · rw [if_neg s, if_neg s]
      exact rk_pos hr
theorem rank_addR (s t : Bool) (T : Int) : RkW (addR s t T) (rndI T (-1074)) := by
  unfold addR
  by_cases h0 : T = 0
  · have e : rndI T (-1074) = 0 := by unfold rndI; rw [if_pos h0]
    rw [if_pos h0, e]
    cases hs : (s && t)
    · simp only [Bool.false_eq_true, if_false]; exact rk_zero
    · simp only [if_true]; exact rk_nzero
  · rw [if_neg h0]; exact rank_join T _
theorem rank_mulR (s : Bool) (T : Nat) : RkW (mulR s T) (rndI (sgZ s T) (-2148)) := by
  unfold mulR
  by_cases h0 : T = 0
  · have e0 : sgZ s T = 0 := by unfold sgZ; rw [h0]; cases s <;> simp
    have e : rndI (sgZ s T) (-2148) = 0 := by unfold rndI; rw [if_pos e0]
    rw [if_pos h0, e]
    have := rk_wrd (s := s) (r := 0) (by omega)
    have e2 : sgZ s 0 = 0 := by unfold sgZ; cases s <;> simp
    rw [e2] at this
    exact this
  · rw [if_neg h0]
    have hr := nearR_top T (-2148)
    have hw := rk_wrd (s := s) hr
    have e : rndI (sgZ s T) (-2148) = sgZ s (nearR T (-2148)) := by
      unfold rndI sgZ
      generalize hM : nearR T (-2148) = M
      cases s
      · simp only [Bool.false_eq_true, if_false]
        rw [if_neg (by omega), if_neg (by omega), Int.natAbs_natCast, hM]
      · simp only [if_true]
        rw [if_neg (by omega), if_pos (by omega), Int.natAbs_neg, Int.natAbs_natCast, hM]
    rw [e]
    exact hw
theorem vI_sg (x : Nat) : vI x = sgZ (sB x) (aV x) := rfl
theorem sgZ_times (s t : Bool) (m n : Nat) : sgZ s m * sgZ t n = sgZ (s ^^ t) (m * n) := by
  unfold sgZ
  cases s <;> cases t <;> simp [Int.neg_mul, Int.mul_neg]
theorem add_rank {x y : Nat} (hx : NumB x) (hy : NumB y) : ∃ r, floatBits .add .f64 x y = some r ∧ RkW r (rndI (vI x + vI y) (-1074)) := ⟨_, add_num hx hy, rank_addR _ _ _⟩
theorem sub_rank {x y : Nat} (hx : NumB x) (hy : NumB y) : ∃ r, floatBits .sub .f64 x y = some r ∧ RkW r (rndI (vI x - vI y) (-1074)) := ⟨_, sub_num hx hy, rank_addR _ _ _⟩
theorem mul_rank {x y : Nat} (hx : NumB x) (hy : NumB y) : ∃ r, floatBits .mul .f64 x y = some r ∧ RkW r (rndI (vI x * vI y) (-2148)) := by
  refine ⟨_, mul_num hx hy, ?_⟩
  rw [vI_sg x, vI_sg y, sgZ_times]
  exact rank_mulR _ _
theorem num_nan {x : Nat} (h : NumB x) : nanB (x : Int) = false := by unfold NumB at h; unfold nanB szI; rw [decide_eq_false_iff_not]; omega
theorem rank_lt_iff {a b : Nat} (ha : NumB a) (hb : NumB b) (ha2 : a < 18446744073709551616) (hb2 : b < 18446744073709551616) : rankI a < rankI b ↔ vI a < vI b := by
  rw [← sgn_rank ha2 (num_nan ha), ← sgn_rank hb2 (num_nan hb)]
  have e1 : vI a = sgZ (a / 9223372036854775808 % 2 == 1) (V (a % 9223372036854775808)) := rfl
  have e2 : vI b = sgZ (b / 9223372036854775808 % 2 == 1) (V (b % 9223372036854775808)) := rfl
  rw [e1, e2]
  generalize a % 9223372036854775808 = r at *
  generalize b % 9223372036854775808 = s at *
  generalize (a / 9223372036854775808 % 2 == 1) = p at *
  generalize (b / 9223372036854775808 % 2 == 1) = q at *
  have h1 := V_lt_iff (r := r) (s := s)
  have h2 := V_lt_iff (r := s) (s := r)
  have h3 := V_lt_iff (r := 0) (s := s)
  have h4 := V_lt_iff (r := 0) (s := r)
  rw [V_zero] at h3 h4
  unfold sgn sgZ
  cases p <;> cases q <;> simp only [Bool.false_eq_true, if_true, if_false] at * <;> omega
theorem rank_le_iff {a b : Nat} (ha : NumB a) (hb : NumB b) (ha2 : a < 18446744073709551616) (hb2 : b < 18446744073709551616) : rankI a ≤ rankI b ↔ vI a ≤ vI b := by
  have := rank_lt_iff hb ha hb2 ha2
  omega
theorem num_rank {r : Nat} {k : Int} (h : RkW r k) (h0 : -9218868437227405312 < k) (h1 : k < 9218868437227405312) : NumB r := by
  obtain ⟨e, h2, hn⟩ := h
  rw [← sgn_rank h2 hn] at e
  unfold NumB
  unfold sgn at e
  generalize (r / 9223372036854775808 % 2 == 1) = p at *
  cases p <;> simp only [Bool.false_eq_true, if_true, if_false] at e <;> omega
end Go.Proofs.YtphnainibdepbaaGreat
