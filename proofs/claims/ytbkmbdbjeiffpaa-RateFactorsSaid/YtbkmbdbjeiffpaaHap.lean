/- Products of floats, by whole numbers; rounding keeps order. The document's Of at any number's bits, and what its answers are worth. -/
import Derived.Test.YtbkmbdbjeiffpaaHao
import Derived.Test.YtbkmbdbjeiffpaaHaj
import Derived.Test.YtbkmbdbjeiffpaaHam
namespace Go.Proofs.Ytbkmbdbjeiffpaa

/-- A sign and a rung, as bits. -/
def wrd (s : Bool) (r : Nat) : Nat := if s then 9223372036854775808 + r else r
theorem word_eq (s : Bool) (r : Nat) : Ieee.double.word s r = wrd s r := by cases s <;> rfl
def sB (x : Nat) : Bool := x / 9223372036854775808 % 2 == 1
/-- A number's size in units of the least one. -/
def aV (x : Nat) : Nat := V (x % 9223372036854775808)
def NumB (x : Nat) : Prop := x % 9223372036854775808 < 9218868437227405312
def mulR (s : Bool) (T : Nat) : Nat := if T = 0 then wrd s 0 else wrd s (nearR T (-2148))
theorem mul_write (s : Bool) (m n p q : Nat) :
    Ieee.double.nearest s (m * n) (-1074 + (p : Int) + (-1074 + (q : Int))) = mulR s (m * 2 ^ p * (n * 2 ^ q)) := by
  have e : m * 2 ^ p * (n * 2 ^ q) = m * n * 2 ^ (p + q) := by rw [Nat.pow_add, Nat.mul_mul_mul_comm]
  rw [e]
  unfold mulR
  by_cases h0 : m * n = 0
  · rw [h0, Nat.zero_mul, if_pos rfl, nearest_zero, word_eq]
  · have hp := Nat.two_pow_pos (p + q)
    have h1 : m * n * 2 ^ (p + q) ≠ 0 := by have := Nat.mul_pos (show 0 < m * n by omega) hp; omega
    rw [if_neg h1, nearest_eq _ h0, word_eq]
    have := nearR_scale h0 (p + q) (-1074 + (p : Int) + (-1074 + (q : Int)))
    rw [← this]
    congr 2
    omega
theorem mul_num {x y : Nat} (hx : NumB x) (hy : NumB y) : floatBits .mul .f64 x y = some (mulR (sB x ^^ sB y) (aV x * aV y)) := by
  show ((Ieee.double.read x).product (Ieee.double.read y)).map Ieee.double.write = _
  rw [read_num hx, read_num hy]
  show some (Ieee.double.nearest (_ ^^ _) _ _) = _
  rw [mul_write]; rfl

theorem rne_mono {n n' d : Nat} (h : n ≤ n') : rne n d ≤ rne n' d := by
  have h1 : n / 2 ^ d ≤ n' / 2 ^ d := Nat.div_le_div_right h
  rcases Nat.lt_or_eq_of_le h1 with h2 | h2
  · have := rne_le n d
    have h3 : n' / 2 ^ d ≤ rne n' d := by unfold rne; exact Nat.le_add_right _ _
    omega
  · have e1 := Nat.div_add_mod n (2 ^ d)
    have e2 := Nat.div_add_mod n' (2 ^ d)
    rw [h2] at e1
    have h3 : n % 2 ^ d ≤ n' % 2 ^ d := by omega
    unfold rne
    rw [h2]
    by_cases hc : 2 ^ d < 2 * (n % 2 ^ d) ∨ (2 ^ d = 2 * (n % 2 ^ d) ∧ n' / 2 ^ d % 2 = 1)
    · rw [if_pos hc, if_pos (by omega)]; exact Nat.le_refl _
    · rw [if_neg hc]; omega
theorem log2_le {m n : Nat} (h : m ≤ n) : m.log2 ≤ n.log2 := by
  by_cases h0 : m = 0
  · subst h0; simp
  · by_cases hc : n.log2 < m.log2
    · have a := Nat.log2_self_le h0
      have b : n < 2 ^ (n.log2 + 1) := Nat.lt_log2_self
      have : 2 ^ (n.log2 + 1) ≤ 2 ^ m.log2 := Nat.pow_le_pow_right (by decide) hc
      omega
    · omega
/-- What is kept, by the place of the last digit. -/
def keptN (M : Nat) (e : Int) : Nat := rne (M * 2 ^ (e - lastP M e).toNat) (lastP M e - e).toNat
theorem kept_hi {M : Nat} {e : Int} : keptN M e ≤ 9007199254740992 := by
  unfold keptN
  have hl : e + M.log2 - 52 ≤ lastP M e := by unfold lastP; omega
  generalize lastP M e = L at hl
  have b : M < 2 ^ (M.log2 + 1) := Nat.lt_log2_self
  generalize M.log2 = l at b hl
  refine rne_bd ?_
  have h1 : M * 2 ^ (e - L).toNat < 2 ^ (l + 1) * 2 ^ (e - L).toNat := Nat.mul_lt_mul_of_pos_right b (Nat.two_pow_pos _)
  refine Nat.lt_of_lt_of_le h1 ?_
  rw [show (9007199254740992 : Nat) = 2 ^ 53 from rfl, ← Nat.pow_add, ← Nat.pow_add]
  exact Nat.pow_le_pow_right (by decide) (by omega)
theorem kept_lo {M : Nat} {e : Int} (h0 : M ≠ 0) (h : -1074 < lastP M e) : 4503599627370496 ≤ keptN M e := by
  unfold keptN
  have hl : e + M.log2 - 52 = lastP M e := by unfold lastP at *; omega
  generalize lastP M e = L at hl h
  have a := Nat.log2_self_le h0
  generalize M.log2 = l at a hl
  refine Nat.le_trans ?_ (Nat.le_add_right _ _)
  rw [Nat.le_div_iff_mul_le (Nat.two_pow_pos _), show (4503599627370496 : Nat) = 2 ^ 52 from rfl, ← Nat.pow_add]
  refine Nat.le_trans ?_ (Nat.mul_le_mul_right _ a)
  rw [← Nat.pow_add]
  exact Nat.pow_le_pow_right (by decide) (by omega)
theorem nearR_kept (M : Nat) (e : Int) : nearR M e = min ((lastP M e + 1074).toNat * 4503599627370496 + keptN M e) 9218868437227405312 := rfl
theorem min_same {a c c' I : Nat} (h : c ≤ c') : min (a + c) I ≤ min (a + c') I := by omega
theorem min_next {a a' c c' I : Nat} (h : a + 1 ≤ a') (h1 : c ≤ 9007199254740992) (h2 : 4503599627370496 ≤ c') : min (a * 4503599627370496 + c) I ≤ min (a' * 4503599627370496 + c') I := by omega
theorem nearR_mono {M M' : Nat} (e : Int) (h : M ≤ M') : nearR M e ≤ nearR M' e := by
  have hl := log2_le h
  have hL : lastP M e ≤ lastP M' e := by unfold lastP; omega
  have hb : -1074 ≤ lastP M e := by unfold lastP; omega
  rw [nearR_kept, nearR_kept]
  by_cases hc : lastP M e = lastP M' e
  · have : keptN M e ≤ keptN M' e := by
      unfold keptN
      rw [hc]
      exact rne_mono (Nat.mul_le_mul_right _ h)
    rw [hc]; exact min_same this
  · have h0 : M' ≠ 0 := by
      intro h0; subst h0
      have : M = 0 := by omega
      subst this; exact hc rfl
    have h1 := kept_hi (M := M) (e := e)
    have h2 := kept_lo (M := M') (e := e) h0 (by omega)
    have h3 : (lastP M e + 1074).toNat + 1 ≤ (lastP M' e + 1074).toNat := by omega
    exact min_next h3 h1 h2
theorem nearR_zero {e : Int} (h : e ≤ -1022) : nearR 0 e = 0 := by
  have hl : lastP 0 e = -1074 := by unfold lastP; simp; omega
  unfold nearR
  rw [hl, Nat.zero_mul, rne_small (by have := Nat.two_pow_pos (-1074 - e).toNat; omega)]; rfl
/-- A rung's worth, moved up, is rounded to that rung. -/
theorem nearR_V {r : Nat} (h : r < 9218868437227405312) (k : Nat) : nearR (V r * 2 ^ k) (-1074 - (k : Int)) = r := by
  by_cases h0 : r = 0
  · subst h0; rw [V_zero, Nat.zero_mul, nearR_zero (by omega)]
  · have hm : mg r ≠ 0 := by
      unfold mg; split <;> omega
    have := nearR_scale hm (pl r + k) (-1074 + (pl r : Int))
    rw [nearR_mg (by omega) h] at this
    have e1 : V r * 2 ^ k = mg r * 2 ^ (pl r + k) := by unfold V; rw [Nat.mul_assoc, ← Nat.pow_add]
    have e2 : (-1074 - (k : Int)) = -1074 + (pl r : Int) - ((pl r + k : Nat) : Int) := by omega
    rw [e1, e2]; exact this
theorem near_le {T r k : Nat} (h : r < 9218868437227405312) (hT : T ≤ V r * 2 ^ k) : nearR T (-1074 - (k : Int)) ≤ r := by
  have := nearR_mono (-1074 - (k : Int)) hT
  rwa [nearR_V h] at this
theorem near_ge {T r k : Nat} (h : r < 9218868437227405312) (hT : V r * 2 ^ k ≤ T) : r ≤ nearR T (-1074 - (k : Int)) := by
  have := nearR_mono (-1074 - (k : Int)) hT
  rwa [nearR_V h] at this

/-- Worths that a number has. -/
def Rep (A : Int) : Prop := ∃ r, r < 9218868437227405312 ∧ A.natAbs = V r
theorem Rep.neg {A : Int} (h : Rep A) : Rep (-A) := by obtain ⟨r, a, b⟩ := h; exact ⟨r, a, by rw [Int.natAbs_neg]; exact b⟩
theorem rep_zero : Rep 0 := ⟨0, by decide, by rw [V_zero]; rfl⟩
/-- What T units of 2^(-1074 - k) are rounded to. -/
def rI (k : Nat) (T : Int) : Int := if T < 0 then -(V (nearR T.natAbs (-1074 - (k : Int))) : Int) else (V (nearR T.natAbs (-1074 - (k : Int))) : Int)
def FinR (k : Nat) (T : Int) : Prop := nearR T.natAbs (-1074 - (k : Int)) < 9218868437227405312
theorem natAbs_mul_pow (A : Int) (k : Nat) : (A * ((2 ^ k : Nat) : Int)).natAbs = A.natAbs * 2 ^ k := by rw [Int.natAbs_mul, Int.natAbs_natCast]
theorem round_le {k : Nat} {T B : Int} (hB : Rep B) (h : T ≤ B * ((2 ^ k : Nat) : Int)) : rI k T ≤ B := by
  obtain ⟨r, hr, e⟩ := hB
  have hp : (0 : Int) < ((2 ^ k : Nat) : Int) := by have := Nat.two_pow_pos k; omega
  have hn := natAbs_mul_pow B k
  unfold rI
  by_cases hT : T < 0
  · rw [if_pos hT]
    by_cases hb : B < 0
    · have hb2 : B * ((2 ^ k : Nat) : Int) < 0 := Int.mul_neg_of_neg_of_pos hb hp
      have := near_ge (T := T.natAbs) hr (k := k) (by rw [← e, ← hn]; omega)
      have := V_le this
      omega
    · omega
  · rw [if_neg hT]
    have hb : 0 ≤ B := by
      by_cases hb : B < 0
      · have hb2 : B * ((2 ^ k : Nat) : Int) < 0 := Int.mul_neg_of_neg_of_pos hb hp
        omega
      · omega
    have hb2 : 0 ≤ B * ((2 ^ k : Nat) : Int) := Int.mul_nonneg hb (by omega)
    have := near_le (T := T.natAbs) hr (k := k) (by rw [← e, ← hn]; omega)
    have := V_le this
    omega
theorem rI_neg (k : Nat) (T : Int) : rI k (-T) = -rI k T := by
  unfold rI
  by_cases h0 : T = 0
  · subst h0
    have : V (nearR (0 : Int).natAbs (-1074 - (k : Int))) = 0 := by rw [Int.natAbs_zero, nearR_zero (by omega), V_zero]
    simp only [Int.neg_zero, this]; simp
  · rw [Int.natAbs_neg]
    by_cases h : T < 0
    · rw [if_pos h, if_neg (by omega)]; omega
    · rw [if_neg h, if_pos (by omega)]
theorem round_ge {k : Nat} {T A : Int} (hA : Rep A) (h : A * ((2 ^ k : Nat) : Int) ≤ T) : A ≤ rI k T := by
  have := round_le (k := k) (T := -T) hA.neg (by rw [Int.neg_mul]; omega)
  rw [rI_neg] at this; omega
theorem fin_of {k : Nat} {T A B : Int} (hA : Rep A) (hB : Rep B) (h1 : A * ((2 ^ k : Nat) : Int) ≤ T) (h2 : T ≤ B * ((2 ^ k : Nat) : Int)) : FinR k T := by
  unfold FinR
  have hp : (0 : Int) < ((2 ^ k : Nat) : Int) := by have := Nat.two_pow_pos k; omega
  by_cases hT : T < 0
  · obtain ⟨r, hr, e⟩ := hA
    have hn := natAbs_mul_pow A k
    have := near_le (T := T.natAbs) hr (k := k) (by rw [← e, ← hn]; omega)
    omega
  · obtain ⟨r, hr, e⟩ := hB
    have hn := natAbs_mul_pow B k
    have := near_le (T := T.natAbs) hr (k := k) (by rw [← e, ← hn]; omega)
    omega
end Go.Proofs.Ytbkmbdbjeiffpaa
namespace Go.Proofs.Ytbkmbdbjeiffpaa
open Go.RowKit

def infB (u : Int) : Bool := szI u == 9218868437227405312

set_option maxHeartbeats 400000 in
theorem refInf_any (u : Int) (w : World) (h : U64 u) :
    Calls Try.prog 48 #[.int .u64 u] w fun e w' => e = .returned (.bool (infB u)) ∧ w' = w := by
  have hz := andNot_sz h
  go_enter Try.func48, Try.ntmps48
  go_wp2
  go_ret
  exact ⟨rfl, rfl⟩

set_option maxHeartbeats 400000 in
theorem of_zero (u : Int) (w : World) (h : U64 u) (h0 : szI u = 0) :
    Calls Try.prog 50 #[.int .u64 u] w fun x w' => ∃ v, x = .returned (NumV false v 0) ∧ DN w' v 0 ∧ Below w.heap.size w w' := by
  have hm : bits .and .u64 u 4503599627370495 = 0 := by rw [and_mant h, h0]; rfl
  have hE : bits .and .u64 (u / 4503599627370496) 2047 = 0 := by
    have := h.1; have := h.2
    rw [and_2047 (by omega) (by omega)]; unfold szI at h0; omega
  unfold NumV
  clear h h0
  go_enter Try.func50, Try.ntmps50
  go_wp2_with fail
  refine bodyPost_ret (v := .agg #[.bool false, .slice none 0 0, .int .i64 0]) (by simp [results, Try.results50, go_sem]) rfl ⟨_, rfl, Or.inl ⟨rfl, _, _, rfl⟩, ?_⟩
  exact (Below.refl w.heap.size w).alloc (Nat.le_refl _) _

/-- What Of tells of a number: N * 2^e is its size. -/
structure OfR (x : Nat) (neg : Bool) (N : Nat) (e : Int) : Prop where
  lt : N < 9007199254740992
  lo : -1074 ≤ e
  hi : e ≤ 971
  val : N * 2 ^ (e + 1074).toNat = aV x
  sgn : N ≠ 0 → neg = sB x
  mag : N ≠ 0 → N = mg (x % 9223372036854775808) ∧ e = -1074 + (pl (x % 9223372036854775808) : Int)
theorem sgB_nat {x : Nat} (h : x < 18446744073709551616) : sgB (x : Int) = sB x := by
  unfold sgB sB
  rcases (show x / 9223372036854775808 = 0 ∨ x / 9223372036854775808 = 1 by omega) with e | e
  · rw [e]; show _ = false; rw [decide_eq_false_iff_not]; omega
  · rw [e]; show _ = true; rw [decide_eq_true_eq]; omega
theorem szI_nat (x : Nat) : szI (x : Int) = ((x % 9223372036854775808 : Nat) : Int) := by unfold szI; omega

theorem of_num (x : Nat) (u : Int) (w : World) (hu : Hid (u = (x : Int))) (h : U64 u) (hx : NumB x) :
    Calls Try.prog 50 #[.int .u64 u] w fun r w' => ∃ neg v N e, r = .returned (.agg #[.bool neg, v, .int .i64 e]) ∧ DN w' v N ∧ OfR x neg N e ∧ Below w.heap.size w w' := by
  have hx64 : x < 18446744073709551616 := by have := h.2; rw [hu.out] at this; omega
  have hs : szI u = ((x % 9223372036854775808 : Nat) : Int) := by rw [hu.out]; exact szI_nat x
  unfold NumB at hx
  by_cases h0 : szI u = 0
  · refine (of_zero u w h h0).mono ?_
    rintro r w' ⟨v, rfl, hd, hb⟩
    refine ⟨false, v, 0, 0, rfl, hd, ⟨by decide, by decide, by decide, ?_, fun h => absurd rfl h, fun h => absurd rfl h⟩, hb⟩
    unfold aV
    rw [show x % 9223372036854775808 = 0 by omega, V_zero, Nat.zero_mul]
  · refine (of_any u w h (by omega) (by omega)).mono ?_
    rintro r w' ⟨v, rfl, hd, hb⟩
    have hn : (magI (szI u)).toNat = mg (x % 9223372036854775808) := by
      rw [hs]; generalize x % 9223372036854775808 = r at *
      unfold magI mg
      by_cases c : r < 4503599627370496
      · rw [if_pos c, if_pos (by omega)]; omega
      · rw [if_neg c, if_neg (by omega)]; omega
    have he : plcI (szI u) = -1074 + (pl (x % 9223372036854775808) : Int) := by
      rw [hs]; generalize x % 9223372036854775808 = r at *
      unfold plcI pl
      by_cases c : r < 4503599627370496
      · rw [if_pos (by omega)]; omega
      · rw [if_neg (by omega)]; omega
    have hp : pl (x % 9223372036854775808) ≤ 2045 := by unfold pl; omega
    rw [hn] at hd
    refine ⟨sgB u, v, _, plcI (szI u), rfl, hd, ⟨mg_lt _, by omega, by omega, ?_, fun _ => ?_, fun _ => ⟨rfl, he⟩⟩, hb⟩
    · rw [he]
      unfold aV V
      congr 2
      omega
    · rw [hu.out]; exact sgB_nat hx64
theorem nd_two {N : Nat} (h : N < 9007199254740992) : nd N ≤ 2 := nd_mono (k := 2) (by omega)
end Go.Proofs.Ytbkmbdbjeiffpaa
