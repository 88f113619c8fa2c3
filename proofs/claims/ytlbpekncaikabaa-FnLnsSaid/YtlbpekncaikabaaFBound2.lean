/- Sums and products against a grid; the rest that Exp's polynomial is asked at is at most a half. -/
import Derived.Test.YtlbpekncaikabaaFBound
namespace Go.Proofs.Ytlbpekncaikabaa

theorem mg_pl_at {q k : Nat} (hk1 : 4503599627370496 ≤ k) (hk2 : k < 9007199254740992) : mg (q * 4503599627370496 + k) = k ∧ pl (q * 4503599627370496 + k) = q := by
  unfold mg pl
  rw [if_neg (by omega)]
  omega
theorem rep_dyad {m E : Nat} (h : m < 9007199254740992) (hE : 52 ≤ E) (hE2 : E ≤ 1900) : Rep ((m * 2 ^ E : Nat) : Int) := by
  by_cases h0 : m = 0
  · subst h0; rw [Nat.zero_mul]; exact rep_zero
  have a := Nat.log2_self_le h0
  have b : m < 2 ^ (m.log2 + 1) := Nat.lt_log2_self
  have hl : m.log2 < 53 := (Nat.log2_lt h0).2 (by omega)
  generalize m.log2 = l at a b hl
  obtain ⟨k, hk⟩ : ∃ k, m * 2 ^ (52 - l) = k := ⟨_, rfl⟩
  have hk1 : 4503599627370496 ≤ k := by
    have := Nat.mul_le_mul_right (2 ^ (52 - l)) a
    rw [← Nat.pow_add, show l + (52 - l) = 52 by omega, hk] at this; exact this
  have hk2 : k < 9007199254740992 := by
    have := Nat.mul_lt_mul_of_pos_right b (Nat.two_pow_pos (52 - l))
    rw [← Nat.pow_add, show l + 1 + (52 - l) = 53 by omega, hk] at this; exact this
  obtain ⟨h1, h2⟩ := mg_pl_at (q := E + l - 52) hk1 hk2
  refine ⟨(E + l - 52) * 4503599627370496 + k, by omega, ?_⟩
  unfold V
  rw [h1, h2, Int.natAbs_natCast, ← hk, Nat.mul_assoc, ← Nat.pow_add, show 52 - l + (E + l - 52) = E by omega]
theorem rep_grid {j : Int} {E : Nat} (h1 : -9007199254740992 < j) (h2 : j < 9007199254740992) (hE : 52 ≤ E) (hE2 : E ≤ 1900) : Rep (j * ((2 ^ E : Nat) : Int)) := by
  obtain ⟨r, hr, e⟩ := rep_dyad (m := j.natAbs) (E := E) (by omega) hE hE2
  refine ⟨r, hr, ?_⟩
  rw [Int.natAbs_natCast] at e
  rw [natAbs_mul_pow]; exact e
/-- Rounded to a number within a step of the grid. -/
theorem near_grid {k E : Nat} {T : Int} (hE : 52 ≤ E) (hE2 : E ≤ 1900) {G P : Int} (hG : G = ((2 ^ E : Nat) : Int)) (hP : P = ((2 ^ k : Nat) : Int)) (h1 : -(2097152 * (G * P)) ≤ T) (h2 : T ≤ 2097152 * (G * P)) :
    FinR k T ∧ -(G * P) ≤ rI k T * P - T ∧ rI k T * P - T ≤ G * P := by
  have hGp : 0 < G := by rw [hG]; have := Nat.two_pow_pos E; omega
  have hPp : 0 < P := by rw [hP]; have := Nat.two_pow_pos k; omega
  have hGP : 0 < G * P := Int.mul_pos hGp hPp
  obtain ⟨j, hj⟩ : ∃ j, T / (G * P) = j := ⟨_, rfl⟩
  have e1 : j * (G * P) ≤ T := by rw [← hj]; exact Int.ediv_mul_le T (by omega)
  have e2 : T < (j + 1) * (G * P) := by rw [← hj]; exact Int.lt_ediv_add_one_mul_self T hGP
  have j1 : -2097152 ≤ j := by
    rw [← hj]
    refine (Int.le_ediv_iff_mul_le hGP).2 ?_
    rw [Int.neg_mul]; exact h1
  have j2 : j ≤ 2097152 := by
    by_cases h : 2097152 < j
    · have := Int.mul_lt_mul_of_pos_right h hGP
      omega
    · omega
  have rA : Rep (j * G) := by rw [hG]; exact rep_grid (by omega) (by omega) hE hE2
  have rB : Rep ((j + 1) * G) := by rw [hG]; exact rep_grid (by omega) (by omega) hE hE2
  have f1 : j * G * ((2 ^ k : Nat) : Int) ≤ T := by rw [← hP, Int.mul_assoc]; exact e1
  have f2 : T ≤ (j + 1) * G * ((2 ^ k : Nat) : Int) := by rw [← hP, Int.mul_assoc]; omega
  have a1 := round_ge rA f1
  have a2 := round_le rB f2
  have b1 := Int.mul_le_mul_of_nonneg_right a1 (show 0 ≤ P by omega)
  have b2 := Int.mul_le_mul_of_nonneg_right a2 (show 0 ≤ P by omega)
  rw [Int.mul_assoc] at b1 b2
  have e3 : (j + 1) * (G * P) = j * (G * P) + G * P := by rw [Int.add_mul, Int.one_mul]
  rw [e3] at e2 b2
  exact ⟨fin_of rA rB f1 f2, by omega, by omega⟩

/-- Powers of 2 as letters: the unit is 2^100 g. -/
structure Scale (K : Nat) (g : Int) : Prop where
  k : K = 1074
  pos : 0 < g
  unit : ((2 ^ K : Nat) : Int) = 1267650600228229401496703205376 * g
  grid : ((2 ^ 1064 : Nat) : Int) = 1237940039285380274899124224 * g
  at_ : ∀ q p : Nat, q + 974 = p → ((2 ^ p : Nat) : Int) = ((2 ^ q : Nat) : Int) * g
theorem pow_split {a b c : Nat} (h : a + b = c) : ((2 ^ c : Nat) : Int) = ((2 ^ a : Nat) : Int) * ((2 ^ b : Nat) : Int) := by
  subst h; rw [Nat.pow_add, Int.natCast_mul]
theorem scale : ∃ K g, Scale K g := by
  obtain ⟨e, he⟩ : ∃ e, e = 974 := ⟨_, rfl⟩
  obtain ⟨K, hK⟩ : ∃ K, K = 1074 := ⟨_, rfl⟩
  obtain ⟨L, hL⟩ : ∃ L, L = 1064 := ⟨_, rfl⟩
  refine ⟨K, ((2 ^ e : Nat) : Int), hK, by have := Nat.two_pow_pos e; omega, ?_, ?_, fun q p h => pow_split (by omega)⟩
  · rw [pow_split (a := 100) (b := e) (c := K) (by omega)]; rfl
  · rw [← hL, pow_split (a := 90) (b := e) (c := L) (by omega)]; rfl

theorem add_near {K : Nat} {g : Int} (hs : Scale K g) {x y : Nat} (hx : NumB x) (hy : NumB y) (h1 : -(2596148429267413814265248164610048 * g) ≤ vI x + vI y) (h2 : vI x + vI y ≤ 2596148429267413814265248164610048 * g) :
    ∃ z, floatBits .add .f64 x y = some z ∧ NumB z ∧ z < 18446744073709551616 ∧ -(1237940039285380274899124224 * g) ≤ vI z - (vI x + vI y) ∧ vI z - (vI x + vI y) ≤ 1237940039285380274899124224 * g := by
  obtain ⟨E, hE⟩ : ∃ E, E = 1064 := ⟨_, rfl⟩
  have hg := hs.grid
  rw [← hE] at hg
  obtain ⟨f, a, b⟩ := near_grid (k := 0) (E := E) (T := vI x + vI y) (by omega) (by omega) (P := 1) rfl rfl (by rw [hg]; omega) (by rw [hg]; omega)
  obtain ⟨z, z1, z2, z3, z4⟩ := add_worth hx hy f
  rw [hg] at a b
  rw [← z4] at a b
  exact ⟨z, z1, z2, z3, by omega, by omega⟩
theorem sub_near {K : Nat} {g : Int} (hs : Scale K g) {x y : Nat} (hx : NumB x) (hy : NumB y) (h1 : -(2596148429267413814265248164610048 * g) ≤ vI x - vI y) (h2 : vI x - vI y ≤ 2596148429267413814265248164610048 * g) :
    ∃ z, floatBits .sub .f64 x y = some z ∧ NumB z ∧ z < 18446744073709551616 ∧ -(1237940039285380274899124224 * g) ≤ vI z - (vI x - vI y) ∧ vI z - (vI x - vI y) ≤ 1237940039285380274899124224 * g := by
  obtain ⟨E, hE⟩ : ∃ E, E = 1064 := ⟨_, rfl⟩
  have hg := hs.grid
  rw [← hE] at hg
  obtain ⟨f, a, b⟩ := near_grid (k := 0) (E := E) (T := vI x - vI y) (by omega) (by omega) (P := 1) rfl rfl (by rw [hg]; omega) (by rw [hg]; omega)
  obtain ⟨z, z1, z2, z3, z4⟩ := sub_worth hx hy f
  rw [hg] at a b
  rw [← z4] at a b
  exact ⟨z, z1, z2, z3, by omega, by omega⟩
/-- A product with a constant of worth c g. -/
theorem mul_near {K : Nat} {g : Int} (hs : Scale K g) {x y : Nat} {c : Int} (hx : NumB x) (hy : NumB y) (hc : vI y = c * g) (h1 : -(3291009114642412084309938365114701009965471731267159726697218048 * g) ≤ c * vI x) (h2 : c * vI x ≤ 3291009114642412084309938365114701009965471731267159726697218048 * g) :
    ∃ z, floatBits .mul .f64 x y = some z ∧ NumB z ∧ z < 18446744073709551616 ∧ -(1569275433846670190958947355801916604025588861116008628224 * g) ≤ 1267650600228229401496703205376 * vI z - c * vI x ∧ 1267650600228229401496703205376 * vI z - c * vI x ≤ 1569275433846670190958947355801916604025588861116008628224 * g := by
  obtain ⟨E, hE⟩ : ∃ E, E = 1064 := ⟨_, rfl⟩
  have hg := hs.grid
  rw [← hE] at hg
  have hgp := hs.pos
  have eT : vI x * vI y = (c * vI x) * g := by rw [hc, ← Int.mul_assoc, Int.mul_comm (vI x) c]
  have eGP : ((2 ^ E : Nat) : Int) * ((2 ^ K : Nat) : Int) = (1569275433846670190958947355801916604025588861116008628224 * g) * g := by
    rw [hg, hs.unit, ← Int.mul_assoc, show (1237940039285380274899124224 * g * 1267650600228229401496703205376 : Int) = 1569275433846670190958947355801916604025588861116008628224 * g by omega]
  have b1 := Int.mul_le_mul_of_nonneg_right h1 (show 0 ≤ g by omega)
  have b2 := Int.mul_le_mul_of_nonneg_right h2 (show 0 ≤ g by omega)
  have e3 : (2097152 : Int) * (1569275433846670190958947355801916604025588861116008628224 * g * g) = 3291009114642412084309938365114701009965471731267159726697218048 * g * g := by rw [← Int.mul_assoc, ← Int.mul_assoc]; rfl
  rw [Int.neg_mul] at b1
  obtain ⟨f, a, b⟩ := near_grid (k := K) (E := E) (T := vI x * vI y) (by omega) (by omega) rfl rfl (by rw [eGP, e3, eT]; exact b1) (by rw [eGP, e3, eT]; exact b2)
  obtain ⟨z, z1, z2, z3, z4⟩ := mul_worth hs.k hx hy f
  rw [eGP, eT, ← eT, ← z4, eT, hs.unit, ← Int.mul_assoc, Int.mul_comm (vI z), ← Int.sub_mul] at a b
  refine ⟨z, z1, z2, z3, ?_, ?_⟩
  · rw [← Int.neg_mul] at a
    exact Int.le_of_mul_le_mul_right a hgp
  · exact Int.le_of_mul_le_mul_right b hgp
end Go.Proofs.Ytlbpekncaikabaa
