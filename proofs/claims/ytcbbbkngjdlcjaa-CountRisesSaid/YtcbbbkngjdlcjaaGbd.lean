/- Sums of floats, by whole numbers; whole numbers as floats. Products of floats, by whole numbers; rounding keeps order. -/
import Derived.Test.YtcbbbkngjdlcjaaGbc
namespace Go.Proofs.Ytcbbbkngjdlcjaa

/-- A number's worth in units of the least one. -/
def vI (b : Nat) : Int := if b / 9223372036854775808 % 2 == 1 then -(V (b % 9223372036854775808) : Int) else (V (b % 9223372036854775808) : Int)
def sgZ (s : Bool) (n : Nat) : Int := if s then -(n : Int) else (n : Int)
theorem sgZ_mul (s : Bool) (n k : Nat) : sgZ s (n * k) = sgZ s n * k := by
  unfold sgZ; cases s <;> simp [Int.neg_mul]
theorem signed_eq (s : Bool) (m k : Nat) : Ieee.signed s m k = sgZ s (m * 2 ^ k) := by
  unfold Ieee.signed sgZ; rw [Nat.shiftLeft_eq]
theorem word_true (r : Nat) : Ieee.double.word true r = 9223372036854775808 + r := rfl
theorem word_false (r : Nat) : Ieee.double.word false r = r := rfl
/-- What is told of a sum of units. -/
def addR (s t : Bool) (T : Int) : Nat := if T = 0 then (if s && t then 9223372036854775808 else 0) else joinN T (-1074)
theorem sum_write (s t : Bool) (m n p q : Nat) :
    ((Ieee.Datum.number s m (-1074 + (p : Int))).sum (.number t n (-1074 + (q : Int)))).map Ieee.double.write = some (addR s t (sgZ s (m * 2 ^ p) + sgZ t (n * 2 ^ q))) := by
  obtain ⟨e, he⟩ : ∃ e, min p q = e := ⟨_, rfl⟩
  have hb : min (-1074 + (p : Int)) (-1074 + (q : Int)) = -1074 + (e : Int) := by omega
  have h1 : (-1074 + (p : Int) - (-1074 + (e : Int))).toNat = p - e := by omega
  have h2 : (-1074 + (q : Int) - (-1074 + (e : Int))).toNat = q - e := by omega
  obtain ⟨T, hT⟩ : ∃ T, sgZ s (m * 2 ^ (p - e)) + sgZ t (n * 2 ^ (q - e)) = T := ⟨_, rfl⟩
  have hTT : sgZ s (m * 2 ^ p) + sgZ t (n * 2 ^ q) = T * ((2 ^ e : Nat) : Int) := by
    rw [← hT, Int.add_mul, ← sgZ_mul, ← sgZ_mul, Nat.mul_assoc, Nat.mul_assoc, ← Nat.pow_add, ← Nat.pow_add, show p - e + e = p by omega, show q - e + e = q by omega]
  have key : ((Ieee.Datum.number s m (-1074 + (p : Int))).sum (.number t n (-1074 + (q : Int)))).map Ieee.double.write = some (Ieee.double.nearest (if T = 0 then s && t else decide (T < 0)) T.natAbs (-1074 + (e : Int))) := by
    show some (Ieee.double.write (.number (if Ieee.signed s m (-1074 + (p : Int) - min (-1074 + (p : Int)) (-1074 + (q : Int))).toNat + Ieee.signed t n (-1074 + (q : Int) - min (-1074 + (p : Int)) (-1074 + (q : Int))).toNat = 0 then s && t else decide (Ieee.signed s m (-1074 + (p : Int) - min (-1074 + (p : Int)) (-1074 + (q : Int))).toNat + Ieee.signed t n (-1074 + (q : Int) - min (-1074 + (p : Int)) (-1074 + (q : Int))).toNat < 0)) (Ieee.signed s m (-1074 + (p : Int) - min (-1074 + (p : Int)) (-1074 + (q : Int))).toNat + Ieee.signed t n (-1074 + (q : Int) - min (-1074 + (p : Int)) (-1074 + (q : Int))).toNat).natAbs (min (-1074 + (p : Int)) (-1074 + (q : Int))))) = _
    rw [hb, h1, h2, signed_eq, signed_eq, hT]
    rfl
  rw [key, hTT]
  have hp : (0 : Int) < ((2 ^ e : Nat) : Int) := by have := Nat.two_pow_pos e; omega
  unfold addR
  by_cases h0 : T = 0
  · subst h0
    rw [if_pos rfl, Int.zero_mul, if_pos rfl]
    show some (Ieee.double.nearest (s && t) 0 _) = _
    rw [nearest_zero]
    cases s <;> cases t <;> rfl
  · rw [if_neg h0]
    have h3 : T * ((2 ^ e : Nat) : Int) ≠ 0 := Int.mul_ne_zero h0 (by omega)
    rw [if_neg h3, nearest_eq _ (by omega)]
    have h4 : nearR (T * ((2 ^ e : Nat) : Int)).natAbs (-1074) = nearR T.natAbs (-1074 + (e : Int)) := by
      have := nearR_scale (M := T.natAbs) (by omega) e (-1074 + (e : Int))
      rw [show -1074 + (e : Int) - (e : Int) = -1074 by omega] at this
      rw [Int.natAbs_mul, Int.natAbs_natCast]; exact this
    unfold joinN
    rw [if_neg h3, h4]
    have h5 : T * ((2 ^ e : Nat) : Int) < 0 ↔ T < 0 := by
      constructor
      · intro h
        by_cases h6 : T < 0
        · exact h6
        · have := Int.mul_nonneg (by omega : 0 ≤ T) (by omega : (0 : Int) ≤ ((2 ^ e : Nat) : Int)); omega
      · intro h; exact Int.mul_neg_of_neg_of_pos h hp
    by_cases h6 : T < 0
    · rw [if_pos (h5.2 h6)]
      simp only [h6, decide_true]
      rw [word_true]
    · rw [if_neg (fun h => h6 (h5.1 h))]
      simp only [h6, decide_false]
      rw [word_false]
theorem vI_eq (b : Nat) : vI b = sgZ (b / 9223372036854775808 % 2 == 1) (mg (b % 9223372036854775808) * 2 ^ pl (b % 9223372036854775808)) := rfl
theorem add_num {x y : Nat} (hx : x % 9223372036854775808 < 9218868437227405312) (hy : y % 9223372036854775808 < 9218868437227405312) :
    floatBits .add .f64 x y = some (addR (x / 9223372036854775808 % 2 == 1) (y / 9223372036854775808 % 2 == 1) (vI x + vI y)) := by
  show ((Ieee.double.read x).sum (Ieee.double.read y)).map Ieee.double.write = _
  rw [read_num hx, read_num hy, sum_write, vI_eq, vI_eq]
theorem sub_num {x y : Nat} (hx : x % 9223372036854775808 < 9218868437227405312) (hy : y % 9223372036854775808 < 9218868437227405312) :
    floatBits .sub .f64 x y = some (addR (x / 9223372036854775808 % 2 == 1) (!(y / 9223372036854775808 % 2 == 1)) (vI x - vI y)) := by
  show ((Ieee.double.read x).sum (Ieee.double.read y).opposite).map Ieee.double.write = _
  rw [read_num hx, read_num hy]
  show ((Ieee.Datum.number _ _ _).sum (Ieee.Datum.number _ _ _)).map Ieee.double.write = _
  rw [sum_write, vI_eq, vI_eq, Int.sub_eq_add_neg]
  congr 3
  unfold sgZ
  cases (y / 9223372036854775808 % 2 == 1) <;> simp

/-- A whole number as a float. -/
def fi (m : Int) : Nat := joinN m 0
theorem fi_zero : fi 0 = 0 := rfl
/-- The rung of a whole number of at most 2^53 is exact. -/
theorem V_great {K : Nat} (hK : K = 1074) : V 4845873199050653696 = 9007199254740992 * 2 ^ K := by
  have h1 : mg 4845873199050653696 = 4503599627370496 := by decide
  have h2 : pl 4845873199050653696 = K + 1 := by rw [hK]; decide
  unfold V
  rw [h1, h2, Nat.pow_succ]; omega
theorem near_low {m l k : Nat} (hl : m.log2 = l) (hl2 : l ≤ 52) (hk : m * 2 ^ (52 - l) = k) (hk2 : k < 9007199254740992) : nearR m 0 = (l + 1022) * 4503599627370496 + k := by
  have hL : lastP m 0 = (l : Int) - 52 := by unfold lastP; rw [hl]; omega
  have e1 : (0 - lastP m 0).toNat = 52 - l := by rw [hL]; omega
  have e2 : (lastP m 0 - 0).toNat = 0 := by rw [hL]; omega
  have e3 : (lastP m 0 + 1074).toNat = l + 1022 := by rw [hL]; omega
  unfold nearR
  rw [e1, e2, e3, hk, rne_zero]
  exact Nat.min_eq_left (by omega)
theorem mg_pl {l k : Nat} (hk1 : 4503599627370496 ≤ k) (hk2 : k < 9007199254740992) : mg ((l + 1022) * 4503599627370496 + k) = k ∧ pl ((l + 1022) * 4503599627370496 + k) = l + 1022 := by
  unfold mg pl
  rw [if_neg (by omega)]
  omega
theorem V_whole {m K : Nat} (hK : K = 1074) (h0 : 0 < m) (h : m ≤ 9007199254740992) : V (nearR m 0) = m * 2 ^ K ∧ nearR m 0 < 9218868437227405312 := by
  have hlog : m.log2 ≤ 53 := by
    have : m.log2 < 54 := (Nat.log2_lt (by omega)).2 (by omega)
    omega
  have a := Nat.log2_self_le (show m ≠ 0 by omega)
  have b : m < 2 ^ (m.log2 + 1) := Nat.lt_log2_self
  by_cases h53 : m.log2 = 53
  · have hm : m = 9007199254740992 := by rw [h53] at a; omega
    subst hm
    have e : nearR 9007199254740992 0 = 4845873199050653696 := by decide
    rw [e]
    exact ⟨V_great hK, by decide⟩
  · obtain ⟨l, hl⟩ : ∃ l, m.log2 = l := ⟨_, rfl⟩
    rw [hl] at a b hlog h53
    have hl2 : l ≤ 52 := by omega
    obtain ⟨k, hk⟩ : ∃ k, m * 2 ^ (52 - l) = k := ⟨_, rfl⟩
    have hk1 : 4503599627370496 ≤ k := by
      have := Nat.mul_le_mul_right (2 ^ (52 - l)) a
      rw [← Nat.pow_add, show l + (52 - l) = 52 by omega, hk] at this; exact this
    have hk2 : k < 9007199254740992 := by
      have := Nat.mul_lt_mul_of_pos_right b (Nat.two_pow_pos (52 - l))
      rw [← Nat.pow_add, show l + 1 + (52 - l) = 53 by omega, hk] at this; exact this
    rw [near_low hl hl2 hk hk2]
    obtain ⟨hmg, hpl⟩ := mg_pl (l := l) hk1 hk2
    refine ⟨?_, by omega⟩
    unfold V
    rw [hmg, hpl, ← hk, Nat.mul_assoc, ← Nat.pow_add, show 52 - l + (l + 1022) = K by omega]
theorem vI_fi {m : Int} {K : Nat} (hK : K = 1074) (h1 : -9007199254740992 ≤ m) (h2 : m ≤ 9007199254740992) : vI (fi m) = m * ((2 ^ K : Nat) : Int) ∧ fi m % 9223372036854775808 < 9218868437227405312 ∧ (fi m / 9223372036854775808 % 2 == 1) = decide (m < 0) ∧ fi m < 18446744073709551616 := by
  unfold fi joinN
  by_cases h0 : m = 0
  · subst h0; exact ⟨by simp [vI, V_zero], by decide, by decide, by decide⟩
  · rw [if_neg h0]
    obtain ⟨a, b⟩ := V_whole (m := m.natAbs) hK (by omega) (by omega)
    by_cases hn : m < 0
    · rw [if_pos hn]
      have e1 : (9223372036854775808 + nearR m.natAbs 0) % 9223372036854775808 = nearR m.natAbs 0 := by omega
      have e2 : (9223372036854775808 + nearR m.natAbs 0) / 9223372036854775808 % 2 = 1 := by omega
      refine ⟨?_, by omega, by rw [e2]; simp [hn], by omega⟩
      unfold vI
      rw [e1, e2, a]
      simp only [beq_self_eq_true, if_true, Int.natCast_mul]
      rw [← Int.neg_mul]
      congr 1; omega
    · rw [if_neg hn]
      have e1 : nearR m.natAbs 0 % 9223372036854775808 = nearR m.natAbs 0 := by omega
      have e2 : nearR m.natAbs 0 / 9223372036854775808 % 2 = 0 := by omega
      refine ⟨?_, by omega, by rw [e2]; simp [hn], by omega⟩
      unfold vI
      rw [e1, e2, a]
      simp only [show ((0 : Nat) == 1) = false from rfl, Bool.false_eq_true, if_false, Int.natCast_mul]
      congr 1; omega
theorem join_whole (m : Int) {K : Nat} (hK : K = 1074) : joinN (m * ((2 ^ K : Nat) : Int)) (-1074) = fi m := by
  unfold fi joinN
  have hp : (0 : Int) < ((2 ^ K : Nat) : Int) := by have := Nat.two_pow_pos K; omega
  by_cases h0 : m = 0
  · subst h0; simp
  · have h3 : m * ((2 ^ K : Nat) : Int) ≠ 0 := Int.mul_ne_zero h0 (by omega)
    have h4 : nearR (m * ((2 ^ K : Nat) : Int)).natAbs (-1074) = nearR m.natAbs 0 := by
      have := nearR_scale (M := m.natAbs) (by omega) K 0
      rw [show (0 : Int) - (K : Int) = -1074 by omega] at this
      rw [Int.natAbs_mul, Int.natAbs_natCast]; exact this
    rw [if_neg h0, if_neg h3, h4]
    by_cases hn : m < 0
    · rw [if_pos hn, if_pos (Int.mul_neg_of_neg_of_pos hn hp)]
    · rw [if_neg hn, if_neg (by have := Int.mul_nonneg (by omega : 0 ≤ m) (by omega : (0 : Int) ≤ ((2 ^ K : Nat) : Int)); omega)]
theorem add_fi {m n : Int} (h1 : -9007199254740992 ≤ m) (h2 : m ≤ 9007199254740992) (h3 : -9007199254740992 ≤ n) (h4 : n ≤ 9007199254740992) : floatBits .add .f64 (fi m) (fi n) = some (fi (m + n)) := by
  obtain ⟨K, hK⟩ : ∃ K, K = 1074 := ⟨_, rfl⟩
  have hp := Nat.two_pow_pos K
  obtain ⟨a1, a2, a3, _⟩ := vI_fi hK h1 h2
  obtain ⟨b1, b2, b3, _⟩ := vI_fi hK h3 h4
  rw [add_num a2 b2, a1, b1, a3, b3, ← Int.add_mul]
  congr 1
  unfold addR
  by_cases h0 : m + n = 0
  · rw [h0, Int.zero_mul, if_pos rfl, fi_zero]
    by_cases hm : m < 0
    · simp [hm, show ¬ n < 0 by omega]
    · simp [hm]
  · rw [if_neg (Int.mul_ne_zero h0 (by omega)), join_whole _ hK]
theorem sub_fi {m n : Int} (h1 : -9007199254740992 ≤ m) (h2 : m ≤ 9007199254740992) (h3 : -9007199254740992 ≤ n) (h4 : n ≤ 9007199254740992) : floatBits .sub .f64 (fi m) (fi n) = some (fi (m - n)) := by
  obtain ⟨K, hK⟩ : ∃ K, K = 1074 := ⟨_, rfl⟩
  have hp := Nat.two_pow_pos K
  obtain ⟨a1, a2, a3, _⟩ := vI_fi hK h1 h2
  obtain ⟨b1, b2, b3, _⟩ := vI_fi hK h3 h4
  rw [sub_num a2 b2, a1, b1, a3, b3, ← Int.sub_mul]
  congr 1
  unfold addR
  by_cases h0 : m - n = 0
  · obtain rfl : m = n := by omega
    rw [h0, Int.zero_mul, if_pos rfl, fi_zero]
    simp
  · rw [if_neg (Int.mul_ne_zero h0 (by omega)), join_whole _ hK]
end Go.Proofs.Ytcbbbkngjdlcjaa
namespace Go.Proofs.Ytcbbbkngjdlcjaa

/-- A sign and a rung, as bits. -/
def wrd (s : Bool) (r : Nat) : Nat := if s then 9223372036854775808 + r else r
theorem word_eq (s : Bool) (r : Nat) : Ieee.double.word s r = wrd s r := by cases s <;> rfl
def sB (x : Nat) : Bool := x / 9223372036854775808 % 2 == 1
/-- A number's size in units of the least one. -/
def aV (x : Nat) : Nat := V (x % 9223372036854775808)
def NumB (x : Nat) : Prop := x % 9223372036854775808 < 9218868437227405312
def mulR (s : Bool) (T : Nat) : Nat := if T = 0 then wrd s 0 else wrd s (nearR T (-2148))
theorem mul_write (s : Bool) (m n p q : Nat) :
    Ieee.double.nearest s (m * n) (-1074 + (p : Int) + (-1074 + (q : Int))) = mulR s (m * 2 ^ p * (n * 2 ^ q)) := by
  have e : m * 2 ^ p * (n * 2 ^ q) = m * n * 2 ^ (p + q) := by rw [Nat.pow_add, Nat.mul_mul_mul_comm]
  rw [e]
  unfold mulR
  by_cases h0 : m * n = 0
  · rw [h0, Nat.zero_mul, if_pos rfl, nearest_zero, word_eq]
  · have hp := Nat.two_pow_pos (p + q)
    have h1 : m * n * 2 ^ (p + q) ≠ 0 := by have := Nat.mul_pos (show 0 < m * n by omega) hp; omega
    rw [if_neg h1, nearest_eq _ h0, word_eq]
    have := nearR_scale h0 (p + q) (-1074 + (p : Int) + (-1074 + (q : Int)))
    rw [← this]
    congr 2
    omega
theorem mul_num {x y : Nat} (hx : NumB x) (hy : NumB y) : floatBits .mul .f64 x y = some (mulR (sB x ^^ sB y) (aV x * aV y)) := by
  show ((Ieee.double.read x).product (Ieee.double.read y)).map Ieee.double.write = _
  rw [read_num hx, read_num hy]
  show some (Ieee.double.nearest (_ ^^ _) _ _) = _
  rw [mul_write]; rfl

theorem rne_mono {n n' d : Nat} (h : n ≤ n') : rne n d ≤ rne n' d := by
  have h1 : n / 2 ^ d ≤ n' / 2 ^ d := Nat.div_le_div_right h
  rcases Nat.lt_or_eq_of_le h1 with h2 | h2
  · have := rne_le n d
    have h3 : n' / 2 ^ d ≤ rne n' d := by unfold rne; exact Nat.le_add_right _ _
    omega
  · have e1 := Nat.div_add_mod n (2 ^ d)
    have e2 := Nat.div_add_mod n' (2 ^ d)
    rw [h2] at e1
    have h3 : n % 2 ^ d ≤ n' % 2 ^ d := by omega
    unfold rne
    rw [h2]
    by_cases hc : 2 ^ d < 2 * (n % 2 ^ d) ∨ (2 ^ d = 2 * (n % 2 ^ d) ∧ n' / 2 ^ d % 2 = 1)
    · rw [if_pos hc, if_pos (by omega)]; exact Nat.le_refl _
    · rw [if_neg hc]; omega
theorem log2_le {m n : Nat} (h : m ≤ n) : m.log2 ≤ n.log2 := by
  by_cases h0 : m = 0
  · subst h0; simp
  · by_cases hc : n.log2 < m.log2
    · have a := Nat.log2_self_le h0
      have b : n < 2 ^ (n.log2 + 1) := Nat.lt_log2_self
      have : 2 ^ (n.log2 + 1) ≤ 2 ^ m.log2 := Nat.pow_le_pow_right (by decide) hc
      omega
    · omega
/-- What is kept, by the place of the last digit. -/
def keptN (M : Nat) (e : Int) : Nat := rne (M * 2 ^ (e - lastP M e).toNat) (lastP M e - e).toNat
theorem kept_hi {M : Nat} {e : Int} : keptN M e ≤ 9007199254740992 := by
  unfold keptN
  have hl : e + M.log2 - 52 ≤ lastP M e := by unfold lastP; omega
  generalize lastP M e = L at hl
  have b : M < 2 ^ (M.log2 + 1) := Nat.lt_log2_self
  generalize M.log2 = l at b hl
  refine rne_bd ?_
  have h1 : M * 2 ^ (e - L).toNat < 2 ^ (l + 1) * 2 ^ (e - L).toNat := Nat.mul_lt_mul_of_pos_right b (Nat.two_pow_pos _)
  refine Nat.lt_of_lt_of_le h1 ?_
  rw [show (9007199254740992 : Nat) = 2 ^ 53 from rfl, ← Nat.pow_add, ← Nat.pow_add]
  exact Nat.pow_le_pow_right (by decide) (by omega)
theorem kept_lo {M : Nat} {e : Int} (h0 : M ≠ 0) (h : -1074 < lastP M e) : 4503599627370496 ≤ keptN M e := by
  unfold keptN
  have hl : e + M.log2 - 52 = lastP M e := by unfold lastP at *; omega
  generalize lastP M e = L at hl h
  have a := Nat.log2_self_le h0
  generalize M.log2 = l at a hl
  refine Nat.le_trans ?_ (Nat.le_add_right _ _)
  rw [Nat.le_div_iff_mul_le (Nat.two_pow_pos _), show (4503599627370496 : Nat) = 2 ^ 52 from rfl, ← Nat.pow_add]
  refine Nat.le_trans ?_ (Nat.mul_le_mul_right _ a)
  rw [← Nat.pow_add]
  exact Nat.pow_le_pow_right (by decide) (by omega)
theorem nearR_kept (M : Nat) (e : Int) : nearR M e = min ((lastP M e + 1074).toNat * 4503599627370496 + keptN M e) 9218868437227405312 := rfl
theorem min_same {a c c' I : Nat} (h : c ≤ c') : min (a + c) I ≤ min (a + c') I := by omega
theorem min_next {a a' c c' I : Nat} (h : a + 1 ≤ a') (h1 : c ≤ 9007199254740992) (h2 : 4503599627370496 ≤ c') : min (a * 4503599627370496 + c) I ≤ min (a' * 4503599627370496 + c') I := by omega
theorem nearR_mono {M M' : Nat} (e : Int) (h : M ≤ M') : nearR M e ≤ nearR M' e := by
  have hl := log2_le h
  have hL : lastP M e ≤ lastP M' e := by unfold lastP; omega
  have hb : -1074 ≤ lastP M e := by unfold lastP; omega
  rw [nearR_kept, nearR_kept]
  by_cases hc : lastP M e = lastP M' e
  · have : keptN M e ≤ keptN M' e := by
      unfold keptN
      rw [hc]
      exact rne_mono (Nat.mul_le_mul_right _ h)
    rw [hc]; exact min_same this
  · have h0 : M' ≠ 0 := by
      intro h0; subst h0
      have : M = 0 := by omega
      subst this; exact hc rfl
    have h1 := kept_hi (M := M) (e := e)
    have h2 := kept_lo (M := M') (e := e) h0 (by omega)
    have h3 : (lastP M e + 1074).toNat + 1 ≤ (lastP M' e + 1074).toNat := by omega
    exact min_next h3 h1 h2
theorem nearR_zero {e : Int} (h : e ≤ -1022) : nearR 0 e = 0 := by
  have hl : lastP 0 e = -1074 := by unfold lastP; simp; omega
  unfold nearR
  rw [hl, Nat.zero_mul, rne_small (by have := Nat.two_pow_pos (-1074 - e).toNat; omega)]; rfl
/-- A rung's worth, moved up, is rounded to that rung. -/
theorem nearR_V {r : Nat} (h : r < 9218868437227405312) (k : Nat) : nearR (V r * 2 ^ k) (-1074 - (k : Int)) = r := by
  by_cases h0 : r = 0
  · subst h0; rw [V_zero, Nat.zero_mul, nearR_zero (by omega)]
  · have hm : mg r ≠ 0 := by
      unfold mg; split <;> omega
    have := nearR_scale hm (pl r + k) (-1074 + (pl r : Int))
    rw [nearR_mg (by omega) h] at this
    have e1 : V r * 2 ^ k = mg r * 2 ^ (pl r + k) := by unfold V; rw [Nat.mul_assoc, ← Nat.pow_add]
    have e2 : (-1074 - (k : Int)) = -1074 + (pl r : Int) - ((pl r + k : Nat) : Int) := by omega
    rw [e1, e2]; exact this
theorem near_le {T r k : Nat} (h : r < 9218868437227405312) (hT : T ≤ V r * 2 ^ k) : nearR T (-1074 - (k : Int)) ≤ r := by
  have := nearR_mono (-1074 - (k : Int)) hT
  rwa [nearR_V h] at this
theorem near_ge {T r k : Nat} (h : r < 9218868437227405312) (hT : V r * 2 ^ k ≤ T) : r ≤ nearR T (-1074 - (k : Int)) := by
  have := nearR_mono (-1074 - (k : Int)) hT
  rwa [nearR_V h] at this

/-- Worths that a number has. -/
def Rep (A : Int) : Prop := ∃ r, r < 9218868437227405312 ∧ A.natAbs = V r
theorem Rep.neg {A : Int} (h : Rep A) : Rep (-A) := by obtain ⟨r, a, b⟩ := h; exact ⟨r, a, by rw [Int.natAbs_neg]; exact b⟩
theorem rep_zero : Rep 0 := ⟨0, by decide, by rw [V_zero]; rfl⟩
/-- What T units of 2^(-1074 - k) are rounded to. -/
def rI (k : Nat) (T : Int) : Int := if T < 0 then -(V (nearR T.natAbs (-1074 - (k : Int))) : Int) else (V (nearR T.natAbs (-1074 - (k : Int))) : Int)
def FinR (k : Nat) (T : Int) : Prop := nearR T.natAbs (-1074 - (k : Int)) < 9218868437227405312
theorem natAbs_mul_pow (A : Int) (k : Nat) : (A * ((2 ^ k : Nat) : Int)).natAbs = A.natAbs * 2 ^ k := by rw [Int.natAbs_mul, Int.natAbs_natCast]
theorem round_le {k : Nat} {T B : Int} (hB : Rep B) (h : T ≤ B * ((2 ^ k : Nat) : Int)) : rI k T ≤ B := by
  obtain ⟨r, hr, e⟩ := hB
  have hp : (0 : Int) < ((2 ^ k : Nat) : Int) := by have := Nat.two_pow_pos k; omega
  have hn := natAbs_mul_pow B k
  unfold rI
  by_cases hT : T < 0
  · rw [if_pos hT]
    by_cases hb : B < 0
    · have hb2 : B * ((2 ^ k : Nat) : Int) < 0 := Int.mul_neg_of_neg_of_pos hb hp
      have := near_ge (T := T.natAbs) hr (k := k) (by rw [← e, ← hn]; omega)
      have := V_le this
      omega
    · omega
  · rw [if_neg hT]
    have hb : 0 ≤ B := by
      by_cases hb : B < 0
      · have hb2 : B * ((2 ^ k : Nat) : Int) < 0 := Int.mul_neg_of_neg_of_pos hb hp
        omega
      · omega
    have hb2 : 0 ≤ B * ((2 ^ k : Nat) : Int) := Int.mul_nonneg hb (by omega)
    have := near_le (T := T.natAbs) hr (k := k) (by rw [← e, ← hn]; omega)
    have := V_le this
    omega
theorem rI_neg (k : Nat) (T : Int) : rI k (-T) = -rI k T := by
  unfold rI
  by_cases h0 : T = 0
  · subst h0
    have : V (nearR (0 : Int).natAbs (-1074 - (k : Int))) = 0 := by rw [Int.natAbs_zero, nearR_zero (by omega), V_zero]
    simp only [Int.neg_zero, this]; simp
  · rw [Int.natAbs_neg]
    by_cases h : T < 0
    · rw [if_pos h, if_neg (by omega)]; omega
    · rw [if_neg h, if_pos (by omega)]
theorem round_ge {k : Nat} {T A : Int} (hA : Rep A) (h : A * ((2 ^ k : Nat) : Int) ≤ T) : A ≤ rI k T := by
  have := round_le (k := k) (T := -T) hA.neg (by rw [Int.neg_mul]; omega)
  rw [rI_neg] at this; omega
theorem fin_of {k : Nat} {T A B : Int} (hA : Rep A) (hB : Rep B) (h1 : A * ((2 ^ k : Nat) : Int) ≤ T) (h2 : T ≤ B * ((2 ^ k : Nat) : Int)) : FinR k T := by
  unfold FinR
  have hp : (0 : Int) < ((2 ^ k : Nat) : Int) := by have := Nat.two_pow_pos k; omega
  by_cases hT : T < 0
  · obtain ⟨r, hr, e⟩ := hA
    have hn := natAbs_mul_pow A k
    have := near_le (T := T.natAbs) hr (k := k) (by rw [← e, ← hn]; omega)
    omega
  · obtain ⟨r, hr, e⟩ := hB
    have hn := natAbs_mul_pow B k
    have := near_le (T := T.natAbs) hr (k := k) (by rw [← e, ← hn]; omega)
    omega
end Go.Proofs.Ytcbbbkngjdlcjaa
