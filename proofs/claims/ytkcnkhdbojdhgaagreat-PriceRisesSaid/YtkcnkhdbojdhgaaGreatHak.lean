/- Products of floats, by whole numbers; rounding keeps order. Exact products: whole numbers, and powers of 2. A sum, a difference and a product rise where what they are rounded from rises: no word of the program. -/
import Derived.Test.YtkcnkhdbojdhgaaGreatHaj
namespace Go.Proofs.YtkcnkhdbojdhgaaGreat

def wrd (s : Bool) (r : Nat) : Nat := if s then 9223372036854775808 + r else r
theorem word_eq (s : Bool) (r : Nat) : Ieee.double.word s r = wrd s r := by cases s <;> rfl
def sB (x : Nat) : Bool := x / 9223372036854775808 % 2 == 1
def aV (x : Nat) : Nat := V (x % 9223372036854775808)
def NumB (x : Nat) : Prop := x % 9223372036854775808 < 9218868437227405312
def mulR (s : Bool) (T : Nat) : Nat := if T = 0 then wrd s 0 else wrd s (nearR T (-2148))
theorem mul_write (s : Bool) (m n p q : Nat) :
    Ieee.double.nearest s (m * n) (-1074 + (p : Int) + (-1074 + (q : Int))) = mulR s (m * 2 ^ p * (n * 2 ^ q)) := by
  have e : m * 2 ^ p * (n * 2 ^ q) = m * n * 2 ^ (p + q) := by rw [Nat.pow_add, Nat.mul_mul_mul_comm]
  rw [e]
  unfold mulR
  by_cases h0 : m * n = 0
  · rw [h0, Nat.zero_mul, if_pos rfl, nearest_zero, word_eq]
  · have hp := Nat.two_pow_pos (p + q)
    have h1 : m * n * 2 ^ (p + q) ≠ 0 := by have := Nat.mul_pos (show 0 < m * n by omega) hp; omega
    rw [if_neg h1, nearest_eq _ h0, word_eq]
    have := nearR_scale h0 (p + q) (-1074 + (p : Int) + (-1074 + (q : Int)))
    rw [← this]
    congr 2
    omega
theorem mul_num {x y : Nat} (hx : NumB x) (hy : NumB y) : floatBits .mul .f64 x y = some (mulR (sB x ^^ sB y) (aV x * aV y)) := by
  show ((Ieee.double.read x).product (Ieee.double.read y)).map Ieee.double.write = _
  rw [read_num hx, read_num hy]
  show some (Ieee.double.nearest (_ ^^ _) _ _) = _
  rw [mul_write]; rfl

theorem rne_mono {n n' d : Nat} (h : n ≤ n') : rne n d ≤ rne n' d := by
  have h1 : n / 2 ^ d ≤ n' / 2 ^ d := Nat.div_le_div_right h
  rcases Nat.lt_or_eq_of_le h1 with h2 | h2
  · have := rne_le n d
    have h3 : n' / 2 ^ d ≤ rne n' d := by unfold rne; exact Nat.le_add_right _ _
    omega
  · have e1 := Nat.div_add_mod n (2 ^ d)
    have e2 := Nat.div_add_mod n' (2 ^ d)
    rw [h2] at e1
    have h3 : n % 2 ^ d ≤ n' % 2 ^ d := by omega
    unfold rne
    rw [h2]
    by_cases hc : 2 ^ d < 2 * (n % 2 ^ d) ∨ (2 ^ d = 2 * (n % 2 ^ d) ∧ n' / 2 ^ d % 2 = 1)
    · rw [if_pos hc, if_pos (by omega)]; exact Nat.le_refl _
    · rw [if_neg hc]; omega
theorem log2_le {m n : Nat} (h : m ≤ n) : m.log2 ≤ n.log2 := by
  by_cases h0 : m = 0
  · subst h0; simp
  · by_cases hc : n.log2 < m.log2
    · have a := Nat.log2_self_le h0
      have b : n < 2 ^ (n.log2 + 1) := Nat.lt_log2_self
      have : 2 ^ (n.log2 + 1) ≤ 2 ^ m.log2 := Nat.pow_le_pow_right (by decide) hc
      omega
    · omega
def keptN (M : Nat) (e : Int) : Nat := rne (M * 2 ^ (e - lastP M e).toNat) (lastP M e - e).toNat
theorem kept_hi {M : Nat} {e : Int} : keptN M e ≤ 9007199254740992 := by
  unfold keptN
  have hl : e + M.log2 - 52 ≤ lastP M e := by unfold lastP; omega
  generalize lastP M e = L at hl
  have b : M < 2 ^ (M.log2 + 1) := Nat.lt_log2_self
  generalize M.log2 = l at b hl
  refine rne_bd ?_
  have h1 : M * 2 ^ (e - L).toNat < 2 ^ (l + 1) * 2 ^ (e - L).toNat := Nat.mul_lt_mul_of_pos_right b (Nat.two_pow_pos _)
  refine Nat.lt_of_lt_of_le h1 ?_
  rw [show (9007199254740992 : Nat) = 2 ^ 53 from rfl, ← Nat.pow_add, ← Nat.pow_add]
  exact Nat.pow_le_pow_right (by decide) (by omega)
theorem kept_lo {M : Nat} {e : Int} (h0 : M ≠ 0) (h : -1074 < lastP M e) : 4503599627370496 ≤ keptN M e := by
  unfold keptN
  have hl : e + M.log2 - 52 = lastP M e := by unfold lastP at *; omega
  generalize lastP M e = L at hl h
  have a := Nat.log2_self_le h0
  generalize M.log2 = l at a hl
  refine Nat.le_trans ?_ (Nat.le_add_right _ _)
  rw [Nat.le_div_iff_mul_le (Nat.two_pow_pos _), show (4503599627370496 : Nat) = 2 ^ 52 from rfl, ← Nat.pow_add]
  refine Nat.le_trans ?_ (Nat.mul_le_mul_right _ a)
  rw [← Nat.pow_add]
  exact Nat.pow_le_pow_right (by decide) (by omega)
theorem nearR_kept (M : Nat) (e : Int) : nearR M e = min ((lastP M e + 1074).toNat * 4503599627370496 + keptN M e) 9218868437227405312 := rfl
theorem min_same {a c c' I : Nat} (h : c ≤ c') : min (a + c) I ≤ min (a + c') I := by omega
theorem min_next {a a' c c' I : Nat} (h : a + 1 ≤ a') (h1 : c ≤ 9007199254740992) (h2 : 4503599627370496 ≤ c') : min (a * 4503599627370496 + c) I ≤ min (a' * 4503599627370496 + c') I := by omega
theorem nearR_mono {M M' : Nat} (e : Int) (h : M ≤ M') : nearR M e ≤ nearR M' e := by
  have hl := log2_le h
  have hL : lastP M e ≤ lastP M' e := by unfold lastP; omega
  have hb : -1074 ≤ lastP M e := by unfold lastP; omega
  rw [nearR_kept, nearR_kept]
  by_cases hc : lastP M e = lastP M' e
  · have : keptN M e ≤ keptN M' e := by
      unfold keptN
      rw [hc]
      exact rne_mono (Nat.mul_le_mul_right _ h)
    rw [hc]; exact min_same this
  · have h0 : M' ≠ 0 := by
      intro h0; subst h0
      have : M = 0 := by omega
      subst this; exact hc rfl
    have h1 := kept_hi (M := M) (e := e)
    have h2 := kept_lo (M := M') (e := e) h0 (by omega)
    have h3 : (lastP M e + 1074).toNat + 1 ≤ (lastP M' e + 1074).toNat := by omega
    exact min_next h3 h1 h2
theorem nearR_zero {e : Int} (h : e ≤ -1022) : nearR 0 e = 0 := by
  have hl : lastP 0 e = -1074 := by unfold lastP; simp; omega
  unfold nearR
  rw [hl, Nat.zero_mul, rne_small (by have := Nat.two_pow_pos (-1074 - e).toNat; omega)]; rfl
theorem nearR_V {r : Nat} (h : r < 9218868437227405312) (k : Nat) : nearR (V r * 2 ^ k) (-1074 - (k : Int)) = r := by
  by_cases h0 : r = 0
  · subst h0; rw [V_zero, Nat.zero_mul, nearR_zero (by omega)]
  · have hm : mg r ≠ 0 := by
      unfold mg; split <;> omega
    have := nearR_scale hm (pl r + k) (-1074 + (pl r : Int))
    rw [nearR_mg (by omega) h] at this
    have e1 : V r * 2 ^ k = mg r * 2 ^ (pl r + k) := by unfold V; rw [Nat.mul_assoc, ← Nat.pow_add]
    have e2 : (-1074 - (k : Int)) = -1074 + (pl r : Int) - ((pl r + k : Nat) : Int) := by omega
    rw [e1, e2]; exact this
theorem near_le {T r k : Nat} (h : r < 9218868437227405312) (hT : T ≤ V r * 2 ^ k) : nearR T (-1074 - (k : Int)) ≤ r := by
  have := nearR_mono (-1074 - (k : Int)) hT
  rwa [nearR_V h] at this
theorem near_ge {T r k : Nat} (h : r < 9218868437227405312) (hT : V r * 2 ^ k ≤ T) : r ≤ nearR T (-1074 - (k : Int)) := by
  have := nearR_mono (-1074 - (k : Int)) hT
  rwa [nearR_V h] at this

def Rep (A : Int) : Prop := ∃ r, r < 9218868437227405312 ∧ A.natAbs = V r
theorem Rep.neg {A : Int} (h : Rep A) : Rep (-A) := by obtain ⟨r, a, b⟩ := h; exact ⟨r, a, by rw [Int.natAbs_neg]; exact b⟩
theorem rep_zero : Rep 0 := ⟨0, by decide, by rw [V_zero]; rfl⟩
def rI (k : Nat) (T : Int) : Int := if T < 0 then -(V (nearR T.natAbs (-1074 - (k : Int))) : Int) else (V (nearR T.natAbs (-1074 - (k : Int))) : Int)
def FinR (k : Nat) (T : Int) : Prop := nearR T.natAbs (-1074 - (k : Int)) < 9218868437227405312
theorem natAbs_mul_pow (A : Int) (k : Nat) : (A * ((2 ^ k : Nat) : Int)).natAbs = A.natAbs * 2 ^ k := by rw [Int.natAbs_mul, Int.natAbs_natCast]
theorem round_le {k : Nat} {T B : Int} (hB : Rep B) (h : T ≤ B * ((2 ^ k : Nat) : Int)) : rI k T ≤ B := by
  obtain ⟨r, hr, e⟩ := hB
  have hp : (0 : Int) < ((2 ^ k : Nat) : Int) := by have := Nat.two_pow_pos k; omega
  have hn := natAbs_mul_pow B k
  unfold rI
  by_cases hT : T < 0
  · rw [if_pos hT]
    by_cases hb : B < 0
    · have hb2 : B * ((2 ^ k : Nat) : Int) < 0 := Int.mul_neg_of_neg_of_pos hb hp
      have := near_ge (T := T.natAbs) hr (k := k) (by rw [← e, ← hn]; omega)
      have := V_le this
      omega
    · omega
  · rw [if_neg hT]
    have hb : 0 ≤ B := by
      by_cases hb : B < 0
      · have hb2 : B * ((2 ^ k : Nat) : Int) < 0 := Int.mul_neg_of_neg_of_pos hb hp
        omega
      · omega
    have hb2 : 0 ≤ B * ((2 ^ k : Nat) : Int) := Int.mul_nonneg hb (by omega)
    have := near_le (T := T.natAbs) hr (k := k) (by rw [← e, ← hn]; omega)
    have := V_le this
    omega
theorem rI_neg (k : Nat) (T : Int) : rI k (-T) = -rI k T := by
  unfold rI
  by_cases h0 : T = 0
  · subst h0
    have : V (nearR (0 : Int).natAbs (-1074 - (k : Int))) = 0 := by rw [Int.natAbs_zero, nearR_zero (by omega), V_zero]
    simp only [Int.neg_zero, this]; simp
  · rw [Int.natAbs_neg]
    by_cases h : T < 0
    · rw [if_pos h, if_neg (by omega)]; omega
    · rw [if_neg h, if_pos (by omega)]
theorem round_ge {k : Nat} {T A : Int} (hA : Rep A) (h : A * ((2 ^ k : Nat) : Int) ≤ T) : A ≤ rI k T := by
  have := round_le (k := k) (T := -T) hA.neg (by rw [Int.neg_mul]; omega)
  rw [rI_neg] at this; omega
theorem fin_of {k : Nat} {T A B : Int} (hA : Rep A) (hB : Rep B) (h1 : A * ((2 ^ k : Nat) : Int) ≤ T) (h2 : T ≤ B * ((2 ^ k : Nat) : Int)) : FinR k T := by
  unfold FinR
  have hp : (0 : Int) < ((2 ^ k : Nat) : Int) := by have := Nat.two_pow_pos k; omega
  by_cases hT : T < 0
  · obtain ⟨r, hr, e⟩ := hA
    have hn := natAbs_mul_pow A k
    have := near_le (T := T.natAbs) hr (k := k) (by rw [← e, ← hn]; omega)
    omega
  · obtain ⟨r, hr, e⟩ := hB
    have hn := natAbs_mul_pow B k
    have := near_le (T := T.natAbs) hr (k := k) (by rw [← e, ← hn]; omega)
    omega
end Go.Proofs.YtkcnkhdbojdhgaaGreat
namespace Go.Proofs.YtkcnkhdbojdhgaaGreat

theorem vI_sgZ (x : Nat) : vI x = sgZ (sB x) (aV x) := rfl
theorem aV_fi {a : Int} {K : Nat} (hK : K = 1074) (h1 : -9007199254740992 ≤ a) (h2 : a ≤ 9007199254740992) : aV (fi a) = a.natAbs * 2 ^ K ∧ sB (fi a) = decide (a < 0) ∧ NumB (fi a) ∧ fi a < 18446744073709551616 := by
  obtain ⟨b1, b2, b3, b4⟩ := vI_fi hK h1 h2
  refine ⟨?_, b3, b2, b4⟩
  have h3 : (vI (fi a)).natAbs = aV (fi a) := by
    rw [vI_sgZ]; unfold sgZ; cases sB (fi a) <;> simp
  rw [← h3, b1, natAbs_mul_pow]
def P2 (k : Int) : Nat := nearR 1 k
theorem P2_eq {k : Int} (h1 : -1022 ≤ k) (h2 : k ≤ 1023) : P2 k = (k + 1023).toNat * 4503599627370496 := by
  unfold P2
  have hl : Nat.log2 1 = 0 := by decide
  rw [nearR_normal (by decide) (by decide) (by rw [hl]; omega) (by rw [hl]; omega), hl, show rne (1 * 2 ^ (63 - 0)) 11 = 4503599627370496 by decide]
  omega
theorem P2_num {k : Int} (h1 : -1022 ≤ k) (h2 : k ≤ 1023) : NumB (P2 k) ∧ sB (P2 k) = false ∧ P2 k < 9218868437227405312 ∧ mg (P2 k % 9223372036854775808) = 4503599627370496 ∧ pl (P2 k % 9223372036854775808) = (k + 1022).toNat := by
  rw [P2_eq h1 h2]
  obtain ⟨n, hn⟩ : ∃ n : Nat, (k + 1023).toNat = n := ⟨_, rfl⟩
  have hk : k = (n : Int) - 1023 := by omega
  subst hk
  rw [hn]
  have hn1 : 1 ≤ n := by omega
  have hn2 : n ≤ 2046 := by omega
  have e : n * 4503599627370496 % 9223372036854775808 = n * 4503599627370496 := by omega
  refine ⟨by unfold NumB; omega, ?_, by omega, ?_, ?_⟩
  · unfold sB; rw [show n * 4503599627370496 / 9223372036854775808 = 0 by omega]; rfl
  · rw [e]; unfold mg; rw [if_neg (by omega)]; omega
  · rw [e]; unfold pl; omega
theorem pow_52 {a b : Nat} (h : 52 + a = b) : 4503599627370496 * 2 ^ a = 2 ^ b := by
  subst h
  have := Nat.pow_add 2 52 a
  rw [this]
theorem aV_P2 {k : Int} (h1 : -1022 ≤ k) (h2 : k ≤ 1023) : aV (P2 k) = 2 ^ (k + 1074).toNat := by
  obtain ⟨_, _, _, a, b⟩ := P2_num h1 h2
  unfold aV V
  rw [a, b]
  exact pow_52 (by omega)
theorem P2_zero : P2 0 = 4607182418800017408 := by rw [P2_eq (by decide) (by decide)]; rfl
theorem fi_one : fi 1 = 4607182418800017408 := by
  show joinN 1 0 = _
  exact P2_zero
end Go.Proofs.YtkcnkhdbojdhgaaGreat
namespace Go.Proofs.YtkcnkhdbojdhgaaGreat

def rndI (T p : Int) : Int := if T = 0 then 0 else if T < 0 then -(nearR T.natAbs p : Int) else (nearR T.natAbs p : Int)
theorem nearR_top (M : Nat) (p : Int) : nearR M p ≤ 9218868437227405312 := Nat.min_le_right _ _
theorem rnd_mono {T T' : Int} (p : Int) (h : T ≤ T') : rndI T p ≤ rndI T' p := by
  unfold rndI
  by_cases h0 : T = 0
  · rw [if_pos h0]
    by_cases h1 : T' = 0
    · rw [if_pos h1]; omega
    · rw [if_neg h1, if_neg (by omega)]; omega
  · rw [if_neg h0]
    by_cases h1 : T' = 0
    · rw [if_pos h1, if_pos (by omega)]; omega
    · rw [if_neg h1]
      by_cases s : T < 0
      · rw [if_pos s]
        by_cases s' : T' < 0
        · rw [if_pos s']
          have := nearR_mono p (show T'.natAbs ≤ T.natAbs by omega)
          omega
        · rw [if_neg s']; omega
      · rw [if_neg s, if_neg (by omega)]
        have := nearR_mono p (show T.natAbs ≤ T'.natAbs by omega)
        omega
theorem rnd_neg (T p : Int) : rndI (-T) p = -rndI T p := by
  unfold rndI
  by_cases h0 : T = 0
  · rw [if_pos h0, if_pos (by omega)]; rfl
  · rw [if_neg h0, if_neg (by omega), Int.natAbs_neg]
    by_cases s : T < 0
    · rw [if_pos s, if_neg (by omega)]; omega
    · rw [if_neg s, if_pos (by omega)]
def RkW (r : Nat) (k : Int) : Prop := rankI (r : Int) = k ∧ r < 18446744073709551616 ∧ nanB (r : Int) = false
theorem rk_pos {r : Nat} (h : r ≤ 9218868437227405312) : RkW r (r : Int) := by
  have hn : nanB (r : Int) = false := by unfold nanB szI; rw [decide_eq_false_iff_not]; omega
  have hs : sgB (r : Int) = false := by unfold sgB; rw [decide_eq_false_iff_not]; omega
  refine ⟨?_, by omega, hn⟩
  rw [rank_pos hn hs]
  unfold szI
  omega
theorem rk_neg {r q : Nat} (h : r ≤ 9218868437227405312) (hq : q = 9223372036854775808 + r) : RkW q (-(r : Int)) := by
  have hn : nanB (q : Int) = false := by unfold nanB szI; rw [decide_eq_false_iff_not]; omega
  have hs : sgB (q : Int) = true := by unfold sgB; rw [decide_eq_true_iff]; omega
  refine ⟨?_, by omega, hn⟩
  unfold rankI
  rw [hn, hs]
  simp only [Bool.false_eq_true, if_false, if_true]
  unfold szI
  omega
theorem rk_zero : RkW 0 0 := rk_pos (r := 0) (by omega)
theorem rk_nzero : RkW 9223372036854775808 0 := rk_neg (r := 0) (by omega) (by omega)
theorem rk_wrd {s : Bool} {r : Nat} (h : r ≤ 9218868437227405312) : RkW (wrd s r) (sgZ s r) := by
  unfold wrd sgZ
  cases s
  · simp only [Bool.false_eq_true, if_false]; exact rk_pos h
  · simp only [if_true]; exact rk_neg h rfl
theorem rank_join (T p : Int) : RkW (joinN T p) (rndI T p) := by
  unfold joinN rndI
  by_cases h0 : T = 0
  · rw [if_pos h0, if_pos h0]; exact rk_zero
  · rw [if_neg h0, if_neg h0]
    have hr := nearR_top T.natAbs p
    generalize nearR T.natAbs p = r at *
    by_cases s : T < 0
    · rw [if_pos s, if_pos s]
      exact rk_neg hr rfl
    · rw [if_neg s, if_neg s]
      exact rk_pos hr
theorem rank_addR (s t : Bool) (T : Int) : RkW (addR s t T) (rndI T (-1074)) := by
  unfold addR
  by_cases h0 : T = 0
  · have e : rndI T (-1074) = 0 := by unfold rndI; rw [if_pos h0]
    rw [if_pos h0, e]
    cases hs : (s && t)
    · simp only [Bool.false_eq_true, if_false]; exact rk_zero
    · simp only [if_true]; exact rk_nzero
  · rw [if_neg h0]; exact rank_join T _
theorem rank_mulR (s : Bool) (T : Nat) : RkW (mulR s T) (rndI (sgZ s T) (-2148)) := by
  unfold mulR
  by_cases h0 : T = 0
  · have e0 : sgZ s T = 0 := by unfold sgZ; rw [h0]; cases s <;> simp
    have e : rndI (sgZ s T) (-2148) = 0 := by unfold rndI; rw [if_pos e0]
    rw [if_pos h0, e]
    have := rk_wrd (s := s) (r := 0) (by omega)
    have e2 : sgZ s 0 = 0 := by unfold sgZ; cases s <;> simp
    rw [e2] at this
    exact this
  · rw [if_neg h0]
    have hr := nearR_top T (-2148)
    have hw := rk_wrd (s := s) hr
    have e : rndI (sgZ s T) (-2148) = sgZ s (nearR T (-2148)) := by
      unfold rndI sgZ
      generalize hM : nearR T (-2148) = M
      cases s
      · simp only [Bool.false_eq_true, if_false]
        rw [if_neg (by omega), if_neg (by omega), Int.natAbs_natCast, hM]
      · simp only [if_true]
        rw [if_neg (by omega), if_pos (by omega), Int.natAbs_neg, Int.natAbs_natCast, hM]
    rw [e]
    exact hw
theorem vI_sg (x : Nat) : vI x = sgZ (sB x) (aV x) := rfl
theorem sgZ_times (s t : Bool) (m n : Nat) : sgZ s m * sgZ t n = sgZ (s ^^ t) (m * n) := by
  unfold sgZ
  cases s <;> cases t <;> simp [Int.neg_mul, Int.mul_neg]
theorem add_rank {x y : Nat} (hx : NumB x) (hy : NumB y) : ∃ r, floatBits .add .f64 x y = some r ∧ RkW r (rndI (vI x + vI y) (-1074)) := ⟨_, add_num hx hy, rank_addR _ _ _⟩
theorem sub_rank {x y : Nat} (hx : NumB x) (hy : NumB y) : ∃ r, floatBits .sub .f64 x y = some r ∧ RkW r (rndI (vI x - vI y) (-1074)) := ⟨_, sub_num hx hy, rank_addR _ _ _⟩
theorem mul_rank {x y : Nat} (hx : NumB x) (hy : NumB y) : ∃ r, floatBits .mul .f64 x y = some r ∧ RkW r (rndI (vI x * vI y) (-2148)) := by
  refine ⟨_, mul_num hx hy, ?_⟩
  rw [vI_sg x, vI_sg y, sgZ_times]
  exact rank_mulR _ _
theorem num_nan {x : Nat} (h : NumB x) : nanB (x : Int) = false := by unfold NumB at h; unfold nanB szI; rw [decide_eq_false_iff_not]; omega
theorem rank_lt_iff {a b : Nat} (ha : NumB a) (hb : NumB b) (ha2 : a < 18446744073709551616) (hb2 : b < 18446744073709551616) : rankI a < rankI b ↔ vI a < vI b := by
  rw [← sgn_rank ha2 (num_nan ha), ← sgn_rank hb2 (num_nan hb)]
  have e1 : vI a = sgZ (a / 9223372036854775808 % 2 == 1) (V (a % 9223372036854775808)) := rfl
  have e2 : vI b = sgZ (b / 9223372036854775808 % 2 == 1) (V (b % 9223372036854775808)) := rfl
  rw [e1, e2]
  generalize a % 9223372036854775808 = r at *
  generalize b % 9223372036854775808 = s at *
  generalize (a / 9223372036854775808 % 2 == 1) = p at *
  generalize (b / 9223372036854775808 % 2 == 1) = q at *
  have h1 := V_lt_iff (r := r) (s := s)
  have h2 := V_lt_iff (r := s) (s := r)
  have h3 := V_lt_iff (r := 0) (s := s)
  have h4 := V_lt_iff (r := 0) (s := r)
  rw [V_zero] at h3 h4
  unfold sgn sgZ
  cases p <;> cases q <;> simp only [Bool.false_eq_true, if_true, if_false] at * <;> omega
theorem rank_le_iff {a b : Nat} (ha : NumB a) (hb : NumB b) (ha2 : a < 18446744073709551616) (hb2 : b < 18446744073709551616) : rankI a ≤ rankI b ↔ vI a ≤ vI b := by
  have := rank_lt_iff hb ha hb2 ha2
  omega
theorem num_rank {r : Nat} {k : Int} (h : RkW r k) (h0 : -9218868437227405312 < k) (h1 : k < 9218868437227405312) : NumB r := by
  obtain ⟨e, h2, hn⟩ := h
  rw [← sgn_rank h2 hn] at e
  unfold NumB
  unfold sgn at e
  generalize (r / 9223372036854775808 % 2 == 1) = p at *
  cases p <;> simp only [Bool.false_eq_true, if_true, if_false] at e <;> omega
end Go.Proofs.YtkcnkhdbojdhgaaGreat
