/- A sum, a difference and a product rise where what they are rounded from rises: no word of the program. A quotient rises with what is divided, and falls where the divisor rises: no word of the program. -/
import Derived.Test.YtbkmbdbjeiffpaaHap
import Derived.Test.YtbkmbdbjeiffpaaHat
namespace Go.Proofs.Ytbkmbdbjeiffpaa

/-- The rank that T units of 2^p are rounded to. -/
def rndI (T p : Int) : Int := if T = 0 then 0 else if T < 0 then -(nearR T.natAbs p : Int) else (nearR T.natAbs p : Int)
theorem nearR_top (M : Nat) (p : Int) : nearR M p ≤ 9218868437227405312 := Nat.min_le_right _ _
theorem rnd_mono {T T' : Int} (p : Int) (h : T ≤ T') : rndI T p ≤ rndI T' p := by
  unfold rndI
  by_cases h0 : T = 0
  · rw [if_pos h0]
    by_cases h1 : T' = 0
    · rw [if_pos h1]; omega
    · rw [if_neg h1, if_neg (by omega)]; omega
  · rw [if_neg h0]
    by_cases h1 : T' = 0
    · rw [if_pos h1, if_pos (by omega)]; omega
    · rw [if_neg h1]
      by_cases s : T < 0
      · rw [if_pos s]
        by_cases s' : T' < 0
        · rw [if_pos s']
          have := nearR_mono p (show T'.natAbs ≤ T.natAbs by omega)
          omega
        · rw [if_neg s']; omega
      · rw [if_neg s, if_neg (by omega)]
        have := nearR_mono p (show T.natAbs ≤ T'.natAbs by omega)
        omega
theorem rnd_neg (T p : Int) : rndI (-T) p = -rndI T p := by
  unfold rndI
  by_cases h0 : T = 0
  · rw [if_pos h0, if_pos (by omega)]; rfl
  · rw [if_neg h0, if_neg (by omega), Int.natAbs_neg]
    by_cases s : T < 0
    · rw [if_pos s, if_neg (by omega)]; omega
    · rw [if_neg s, if_pos (by omega)]
/-- A told word: its rank, a fit word, no NaN. -/
def RkW (r : Nat) (k : Int) : Prop := rankI (r : Int) = k ∧ r < 18446744073709551616 ∧ nanB (r : Int) = false
theorem rk_pos {r : Nat} (h : r ≤ 9218868437227405312) : RkW r (r : Int) := by
  have hn : nanB (r : Int) = false := by unfold nanB szI; rw [decide_eq_false_iff_not]; omega
  have hs : sgB (r : Int) = false := by unfold sgB; rw [decide_eq_false_iff_not]; omega
  refine ⟨?_, by omega, hn⟩
  rw [rank_pos hn hs]
  unfold szI
  omega
theorem rk_neg {r q : Nat} (h : r ≤ 9218868437227405312) (hq : q = 9223372036854775808 + r) : RkW q (-(r : Int)) := by
  have hn : nanB (q : Int) = false := by unfold nanB szI; rw [decide_eq_false_iff_not]; omega
  have hs : sgB (q : Int) = true := by unfold sgB; rw [decide_eq_true_iff]; omega
  refine ⟨?_, by omega, hn⟩
  unfold rankI
  rw [hn, hs]
  simp only [Bool.false_eq_true, if_false, if_true]
  unfold szI
  omega
theorem rk_zero : RkW 0 0 := rk_pos (r := 0) (by omega)
theorem rk_nzero : RkW 9223372036854775808 0 := rk_neg (r := 0) (by omega) (by omega)
theorem rk_wrd {s : Bool} {r : Nat} (h : r ≤ 9218868437227405312) : RkW (wrd s r) (sgZ s r) := by
  unfold wrd sgZ
  cases s
  · simp only [Bool.false_eq_true, if_false]; exact rk_pos h
  · simp only [if_true]; exact rk_neg h rfl
theorem rank_join (T p : Int) : RkW (joinN T p) (rndI T p) := by
  unfold joinN rndI
  by_cases h0 : T = 0
  · rw [if_pos h0, if_pos h0]; exact rk_zero
  · rw [if_neg h0, if_neg h0]
    have hr := nearR_top T.natAbs p
    generalize nearR T.natAbs p = r at *
    by_cases s : T < 0
    · rw [if_pos s, if_pos s]
      exact rk_neg hr rfl
    · rw [if_neg s, if_neg s]
      exact rk_pos hr
theorem rank_addR (s t : Bool) (T : Int) : RkW (addR s t T) (rndI T (-1074)) := by
  unfold addR
  by_cases h0 : T = 0
  · have e : rndI T (-1074) = 0 := by unfold rndI; rw [if_pos h0]
    rw [if_pos h0, e]
    cases hs : (s && t)
    · simp only [Bool.false_eq_true, if_false]; exact rk_zero
    · simp only [if_true]; exact rk_nzero
  · rw [if_neg h0]; exact rank_join T _
theorem rank_mulR (s : Bool) (T : Nat) : RkW (mulR s T) (rndI (sgZ s T) (-2148)) := by
  unfold mulR
  by_cases h0 : T = 0
  · have e0 : sgZ s T = 0 := by unfold sgZ; rw [h0]; cases s <;> simp
    have e : rndI (sgZ s T) (-2148) = 0 := by unfold rndI; rw [if_pos e0]
    rw [if_pos h0, e]
    have := rk_wrd (s := s) (r := 0) (by omega)
    have e2 : sgZ s 0 = 0 := by unfold sgZ; cases s <;> simp
    rw [e2] at this
    exact this
  · rw [if_neg h0]
    have hr := nearR_top T (-2148)
    have hw := rk_wrd (s := s) hr
    have e : rndI (sgZ s T) (-2148) = sgZ s (nearR T (-2148)) := by
      unfold rndI sgZ
      generalize hM : nearR T (-2148) = M
      cases s
      · simp only [Bool.false_eq_true, if_false]
        rw [if_neg (by omega), if_neg (by omega), Int.natAbs_natCast, hM]
      · simp only [if_true]
        rw [if_neg (by omega), if_pos (by omega), Int.natAbs_neg, Int.natAbs_natCast, hM]
    rw [e]
    exact hw
theorem vI_sg (x : Nat) : vI x = sgZ (sB x) (aV x) := rfl
theorem sgZ_times (s t : Bool) (m n : Nat) : sgZ s m * sgZ t n = sgZ (s ^^ t) (m * n) := by
  unfold sgZ
  cases s <;> cases t <;> simp [Int.neg_mul, Int.mul_neg]
/-- Each step's rank, by the worths. -/
theorem add_rank {x y : Nat} (hx : NumB x) (hy : NumB y) : ∃ r, floatBits .add .f64 x y = some r ∧ RkW r (rndI (vI x + vI y) (-1074)) := ⟨_, add_num hx hy, rank_addR _ _ _⟩
theorem sub_rank {x y : Nat} (hx : NumB x) (hy : NumB y) : ∃ r, floatBits .sub .f64 x y = some r ∧ RkW r (rndI (vI x - vI y) (-1074)) := ⟨_, sub_num hx hy, rank_addR _ _ _⟩
theorem mul_rank {x y : Nat} (hx : NumB x) (hy : NumB y) : ∃ r, floatBits .mul .f64 x y = some r ∧ RkW r (rndI (vI x * vI y) (-2148)) := by
  refine ⟨_, mul_num hx hy, ?_⟩
  rw [vI_sg x, vI_sg y, sgZ_times]
  exact rank_mulR _ _
/-- Ranks of numbers rise with their worths. -/
theorem num_nan {x : Nat} (h : NumB x) : nanB (x : Int) = false := by unfold NumB at h; unfold nanB szI; rw [decide_eq_false_iff_not]; omega
theorem rank_lt_iff {a b : Nat} (ha : NumB a) (hb : NumB b) (ha2 : a < 18446744073709551616) (hb2 : b < 18446744073709551616) : rankI a < rankI b ↔ vI a < vI b := by
  rw [← sgn_rank ha2 (num_nan ha), ← sgn_rank hb2 (num_nan hb)]
  have e1 : vI a = sgZ (a / 9223372036854775808 % 2 == 1) (V (a % 9223372036854775808)) := rfl
  have e2 : vI b = sgZ (b / 9223372036854775808 % 2 == 1) (V (b % 9223372036854775808)) := rfl
  rw [e1, e2]
  generalize a % 9223372036854775808 = r at *
  generalize b % 9223372036854775808 = s at *
  generalize (a / 9223372036854775808 % 2 == 1) = p at *
  generalize (b / 9223372036854775808 % 2 == 1) = q at *
  have h1 := V_lt_iff (r := r) (s := s)
  have h2 := V_lt_iff (r := s) (s := r)
  have h3 := V_lt_iff (r := 0) (s := s)
  have h4 := V_lt_iff (r := 0) (s := r)
  rw [V_zero] at h3 h4
  unfold sgn sgZ
  cases p <;> cases q <;> simp only [Bool.false_eq_true, if_true, if_false] at * <;> omega
theorem rank_le_iff {a b : Nat} (ha : NumB a) (hb : NumB b) (ha2 : a < 18446744073709551616) (hb2 : b < 18446744073709551616) : rankI a ≤ rankI b ↔ vI a ≤ vI b := by
  have := rank_lt_iff hb ha hb2 ha2
  omega
/-- A word with a rank inside is a number. -/
theorem num_rank {r : Nat} {k : Int} (h : RkW r k) (h0 : -9218868437227405312 < k) (h1 : k < 9218868437227405312) : NumB r := by
  obtain ⟨e, h2, hn⟩ := h
  rw [← sgn_rank h2 hn] at e
  unfold NumB
  unfold sgn at e
  generalize (r / 9223372036854775808 % 2 == 1) = p at *
  cases p <;> simp only [Bool.false_eq_true, if_true, if_false] at e <;> omega
end Go.Proofs.Ytbkmbdbjeiffpaa
namespace Go.Proofs.Ytbkmbdbjeiffpaa

theorem quoS_up {X X' Y k : Nat} (h : X ≤ X') : quoS X Y k ≤ quoS X' Y k := by
  unfold quoS
  have hA : X * 2 ^ k ≤ X' * 2 ^ k := Nat.mul_le_mul_right _ h
  generalize X * 2 ^ k = A at *
  generalize X' * 2 ^ k = B at *
  have hq := Nat.div_le_div_right (c := Y) hA
  have e1 := Nat.div_add_mod A Y
  have e2 := Nat.div_add_mod B Y
  by_cases hc : A / Y = B / Y
  · rw [hc] at e1 ⊢
    have : A % Y ≤ B % Y := by omega
    split <;> split <;> omega
  · split <;> split <;> omega
theorem quoS_down {X Y Y' k : Nat} (hY : 0 < Y) (h : Y ≤ Y') : quoS X Y' k ≤ quoS X Y k := by
  unfold quoS
  generalize X * 2 ^ k = A
  have hq := Nat.div_le_div_left (a := A) h hY
  have e1 := Nat.div_add_mod A Y
  have e2 := Nat.div_add_mod A Y'
  by_cases hc : A / Y' = A / Y
  · have hm : Y * (A / Y) ≤ Y' * (A / Y) := Nat.mul_le_mul_right _ h
    rw [hc] at e2 ⊢
    have : A % Y' ≤ A % Y := by omega
    split <;> split <;> omega
  · split <;> split <;> omega
theorem quoS_scale {X Y a b K : Nat} (h : b ≤ a + K) : quoS (X * 2 ^ a) (Y * 2 ^ b) K = quoS X Y (a + K - b) := by
  have e : X * 2 ^ a * 2 ^ K = X * 2 ^ (a + K - b) * 2 ^ b := by
    rw [Nat.mul_assoc, ← Nat.pow_add, Nat.mul_assoc, ← Nat.pow_add, show a + K - b + b = a + K by omega]
  unfold quoS
  rw [e, Nat.mul_div_mul_right _ _ (Nat.two_pow_pos b), Nat.mul_mod_mul_right]
  have hp := Nat.two_pow_pos b
  generalize X * 2 ^ (a + K - b) % Y = m
  by_cases hm : m = 0
  · rw [if_pos hm, if_pos (by rw [hm, Nat.zero_mul])]
  · rw [if_neg hm, if_neg (fun e => by rcases Nat.mul_eq_zero.1 e with e | e <;> omega)]
/-- The size of a quotient of two numbers X, Y of units. -/
def qR (X Y : Nat) : Nat := if X = 0 then 0 else nearR (quoS X Y 2200) (-2201)
theorem qR_top (X Y : Nat) : qR X Y ≤ 9218868437227405312 := by
  unfold qR
  split
  · omega
  · exact nearR_top _ _
theorem qR_up {X X' Y : Nat} (h : X ≤ X') : qR X Y ≤ qR X' Y := by
  unfold qR
  by_cases h0 : X = 0
  · rw [if_pos h0]; exact Nat.zero_le _
  · rw [if_neg h0, if_neg (by omega)]
    exact nearR_mono _ (quoS_up h)
theorem qR_down {X Y Y' : Nat} (hY : 0 < Y) (h : Y ≤ Y') : qR X Y' ≤ qR X Y := by
  unfold qR
  by_cases h0 : X = 0
  · rw [if_pos h0, if_pos h0]; exact Nat.le_refl _
  · rw [if_neg h0, if_neg h0]
    exact nearR_mono _ (quoS_down hY h)
theorem pl_top {r : Nat} (h : r < 9218868437227405312) : pl r ≤ 2046 := by unfold pl; omega
theorem quo_rank {x y : Nat} (hx : NumB x) (hy : NumB y) (h1 : y % 9223372036854775808 ≠ 0) : ∃ r, floatBits .quo .f64 x y = some r ∧ RkW r (sgZ (sB x ^^ sB y) (qR (aV x) (aV y))) := by
  by_cases h0 : x % 9223372036854775808 = 0
  · refine ⟨_, quo_zero h0 hy h1, ?_⟩
    have e : aV x = 0 := by unfold aV; rw [h0]; exact V_zero
    have e2 : qR (aV x) (aV y) = 0 := by unfold qR; rw [if_pos e]
    rw [e2]
    exact rk_wrd (by omega)
  · have hpx := pl_top hx
    have hpy := pl_top hy
    have hk : 54 + (mg (y % 9223372036854775808)).log2 - (mg (x % 9223372036854775808)).log2 ≤ pl (x % 9223372036854775808) + 2200 - pl (y % 9223372036854775808) := by
      have := mg_lt (y % 9223372036854775808)
      have hl : (mg (y % 9223372036854775808)).log2 < 53 := (Nat.log2_lt (mg_pos h1)).2 (by omega)
      omega
    refine ⟨_, quo_num hx hy h0 h1 rfl rfl rfl rfl hk, ?_⟩
    have hz : aV x ≠ 0 := by
      intro e
      exact h0 (zero_V2 e)
    have e2 : qR (aV x) (aV y) = nearR (quoS (mg (x % 9223372036854775808)) (mg (y % 9223372036854775808)) (pl (x % 9223372036854775808) + 2200 - pl (y % 9223372036854775808))) (-1074 + (pl (x % 9223372036854775808) : Int) - (-1074 + (pl (y % 9223372036854775808) : Int)) - 1 - ((pl (x % 9223372036854775808) + 2200 - pl (y % 9223372036854775808) : Nat) : Int)) := by
      unfold qR
      rw [if_neg hz]
      unfold aV V
      rw [quoS_scale (by omega)]
      congr 1
      omega
    rw [e2]
    exact rk_wrd (nearR_top _ _)
end Go.Proofs.Ytbkmbdbjeiffpaa
