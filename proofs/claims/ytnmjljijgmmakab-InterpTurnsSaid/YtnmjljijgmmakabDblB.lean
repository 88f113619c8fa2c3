/- Ranges through steps, in bits; values doubled through a table's steps. No word of the program. -/
import Derived.Test.YtnmjljijgmmakabHaq
namespace Go.Proofs.Ytnmjljijgmmakab
open Go.RowKit

/-- The size's bits. -/
abbrev zB (x : Nat) : Nat := x % 9223372036854775808
/-- 2 ^ k, as bits (k + 1023 = e). -/
abbrev pB (e : Nat) : Nat := e * 4503599627370496
structure Rg (x lo hi : Nat) : Prop where
  num : NumB x
  lt : x < 18446744073709551616
  lo : zB x = 0 ∨ lo ≤ zB x
  hi : zB x ≤ hi
theorem Rg.wide {x lo hi lo' hi' : Nat} (h : Rg x lo hi) (h1 : lo' ≤ lo) (h2 : hi ≤ hi') : Rg x lo' hi' :=
  ⟨h.num, h.lt, by rcases h.lo with a | a <;> omega, by have := h.hi; omega⟩
theorem rk_z {r q : Nat} {s : Bool} (h : RkW r (sgZ s q)) : zB r = q := by
  have e := rk_size h
  have hn := h.2.2
  have e2 := sgn_rank h.2.1 hn
  rw [← e2] at e
  unfold sgn at e
  unfold zB
  split at e <;> omega
theorem rg_of {r q lo hi : Nat} {s : Bool} (h : RkW r (sgZ s q)) (h1 : q = 0 ∨ lo ≤ q) (h2 : q ≤ hi) (h3 : hi < 9218868437227405312) : Rg r lo hi := by
  have e := rk_z h
  exact ⟨by unfold NumB; show zB r < _; omega, h.2.1, by rw [e]; exact h1, by rw [e]; exact h2⟩
theorem aV_z (x : Nat) : aV x = V (zB x) := rfl
theorem rg_div {x y lo hi d1 d2 lo' hi' : Nat} (hx : Rg x lo hi) (hy : NumB y) (y1 : d1 ≤ zB y) (y2 : zB y ≤ d2) (d0 : 0 < d1) (e1 : qR (V lo) (V d2) = lo') (e2 : qR (V hi) (V d1) = hi') (h3 : hi' < 9218868437227405312) : ∃ r, floatBits .quo .f64 x y = some r ∧ Rg r lo' hi' ∧ (zB x ≠ 0 → lo' ≤ zB r) := by
  obtain ⟨r, e, k⟩ := quo_rank hx.num hy (by show zB y ≠ 0; omega)
  have hd : 0 < V d1 := by have := V_lt (r := 0) (s := d1) d0; rw [V_zero] at this; exact this
  have u : qR (aV x) (aV y) ≤ hi' := by
    rw [← e2]
    exact Nat.le_trans (qR_up (V_le hx.hi)) (qR_down hd (V_le y1))
  have l : zB x ≠ 0 → lo' ≤ qR (aV x) (aV y) := fun h => by
    rw [← e1]
    have hl : lo ≤ zB x := by rcases hx.lo with a | a; exact absurd a h; exact a
    exact Nat.le_trans (qR_down (by have := V_lt (r := 0) (s := zB y) (by omega); rw [V_zero] at this; exact this) (V_le y2)) (qR_up (V_le hl))
  have z : zB x = 0 → qR (aV x) (aV y) = 0 := fun h => by
    unfold qR; rw [if_pos (by rw [aV_z, h]; exact V_zero)]
  refine ⟨r, e, rg_of k ?_ u h3, fun h => by rw [rk_z k]; exact l h⟩
  by_cases h : zB x = 0
  · exact Or.inl (z h)
  · exact Or.inr (l h)
theorem mul_rk2 {x y : Nat} (hx : NumB x) (hy : NumB y) : ∃ r, floatBits .mul .f64 x y = some r ∧ RkW r (sgZ (sB x ^^ sB y) (if aV x * aV y = 0 then 0 else nearR (aV x * aV y) (-2148))) := by
  refine ⟨_, mul_num hx hy, ?_⟩
  unfold mulR
  split
  · exact rk_wrd (by omega)
  · exact rk_wrd (nearR_top _ _)
theorem rg_mul {x y lo hi d1 d2 lo' hi' : Nat} (hx : Rg x lo hi) (hy : NumB y) (y1 : d1 ≤ zB y) (y2 : zB y ≤ d2) (e1 : nearR (V lo * V d1) (-2148) = lo') (e2 : nearR (V hi * V d2) (-2148) = hi') (h3 : hi' < 9218868437227405312) : ∃ r, floatBits .mul .f64 x y = some r ∧ Rg r lo' hi' ∧ (aV x * aV y ≠ 0 → lo' ≤ zB r) := by
  obtain ⟨r, e, k⟩ := mul_rk2 hx.num hy
  have l : aV x * aV y ≠ 0 → lo' ≤ nearR (aV x * aV y) (-2148) := fun h => by
    rw [← e1]
    have hl : lo ≤ zB x := by
      rcases hx.lo with a | a
      · exact absurd (by rw [aV_z, a, V_zero, Nat.zero_mul]) h
      · exact a
    exact nearR_mono _ (Nat.mul_le_mul (V_le hl) (V_le y1))
  have u : nearR (aV x * aV y) (-2148) ≤ hi' := by
    rw [← e2]; exact nearR_mono _ (Nat.mul_le_mul (V_le hx.hi) (V_le y2))
  refine ⟨r, e, rg_of k ?_ ?_ h3, fun h => by rw [rk_z k, if_neg h]; exact l h⟩
  · by_cases h : aV x * aV y = 0
    · rw [if_pos h]; exact Or.inl rfl
    · rw [if_neg h]; exact Or.inr (l h)
  · by_cases h : aV x * aV y = 0
    · rw [if_pos h]; omega
    · rw [if_neg h]; exact u
theorem vI_abs2 (x : Nat) : vI x = (aV x : Int) ∨ vI x = -(aV x : Int) := by
  rw [vI_sg]; unfold sgZ
  cases sB x
  · exact Or.inl rfl
  · exact Or.inr rfl
/-- Any sum of two that are bounded. -/
theorem add_hi {x y a b c : Nat} (hx : NumB x) (hy : NumB y) (h1 : zB x ≤ a) (h2 : zB y ≤ b) (e : nearR (V a + V b) (-1074) = c) (hc : c < 9218868437227405312) : (∃ r, floatBits .add .f64 x y = some r ∧ NumB r ∧ r < 18446744073709551616 ∧ zB r ≤ c) ∧ (∃ r, floatBits .sub .f64 x y = some r ∧ NumB r ∧ r < 18446744073709551616 ∧ zB r ≤ c) := by
  have key : ∀ {r : Nat} {T : Int}, RkW r (rndI T (-1074)) → T.natAbs ≤ V a + V b → NumB r ∧ r < 18446744073709551616 ∧ zB r ≤ c := fun {r T} k hT => by
    have hz : zB r = (rankI (r : Int)).natAbs := by
      rw [← sgn_rank k.2.1 k.2.2]; unfold sgn zB; split <;> omega
    have hle : (rankI (r : Int)).natAbs ≤ c := by
      rw [k.1]
      by_cases h0 : T = 0
      · rw [h0, rnd_zero]; exact Nat.zero_le _
      · rw [(rnd_abs (p := -1074) h0).1, ← e]
        exact nearR_mono _ hT
    exact ⟨by unfold NumB; show zB r < _; omega, k.2.1, by omega⟩
  have ax : (vI x).natAbs = aV x := by rcases vI_abs2 x with h | h <;> omega
  have ay : (vI y).natAbs = aV y := by rcases vI_abs2 y with h | h <;> omega
  have b1 : aV x ≤ V a := V_le h1
  have b2 : aV y ≤ V b := V_le h2
  obtain ⟨r, e1, k1⟩ := add_rank hx hy
  obtain ⟨s, e2, k2⟩ := sub_rank hx hy
  exact ⟨⟨r, e1, key k1 (by omega)⟩, ⟨s, e2, key k2 (by omega)⟩⟩

/-- Divided by what lies in a range. -/
theorem rg_inv {c y lo hi lo' hi' : Nat} (hc : NumB c) (cs : sB c = false) (hy : Rg y lo hi) (y0 : zB y ≠ 0) (l0 : 0 < lo) (e1 : qR (aV c) (V hi) = lo') (e2 : qR (aV c) (V lo) = hi') (h3 : hi' < 9218868437227405312) : ∃ r, floatBits .quo .f64 c y = some r ∧ Rg r lo' hi' ∧ lo' ≤ zB r ∧ vI r = sgZ (sB y) (aV r) := by
  obtain ⟨r, e, k⟩ := quo_rank hc hy.num y0
  have hl : lo ≤ zB y := by rcases hy.lo with a | a; exact absurd a y0; exact a
  have u : qR (aV c) (aV y) ≤ hi' := by
    rw [← e2]; exact qR_down (by have := V_lt (r := 0) (s := lo) l0; rw [V_zero] at this; exact this) (V_le hl)
  have l : lo' ≤ qR (aV c) (aV y) := by
    rw [← e1]; exact qR_down (by have := V_lt (r := 0) (s := zB y) (by omega); rw [V_zero] at this; exact this) (V_le hy.hi)
  rw [cs, Bool.false_xor] at k
  refine ⟨r, e, rg_of k (Or.inr l) u h3, by rw [rk_z k]; exact l, ?_⟩
  rw [vI_sgR k, show aV r = V (qR (aV c) (aV y)) by rw [aV_z r, rk_z k]]
theorem sgZ_sum (s : Bool) (m n : Nat) : sgZ s m + sgZ s n = sgZ s (m + n) := by cases s <;> simp [sgZ] <;> omega
theorem sgZ_abs (s : Bool) (m : Nat) : (sgZ s m).natAbs = m := by cases s <;> simp [sgZ]
/-- A sum of two of one sign. -/
theorem rg_same {x y lo hi hi' : Nat} {s : Bool} (hx : Rg x lo hi) (hy : Rg y lo hi) (x0 : lo ≤ zB x) (sx : vI x = sgZ s (aV x)) (sy : vI y = sgZ s (aV y)) (l0 : 0 < lo) (hlo : lo < 9218868437227405312) (e2 : nearR (V hi + V hi) (-1074) = hi') (h3 : hi' < 9218868437227405312) : ∃ r, floatBits .add .f64 x y = some r ∧ Rg r lo hi' ∧ lo ≤ zB r := by
  obtain ⟨r, e, k⟩ := add_rank hx.num hy.num
  have hp : 0 < aV x := by
    have := V_lt (r := 0) (s := zB x) (by omega)
    rw [V_zero] at this; exact this
  have hT : (vI x + vI y).natAbs = aV x + aV y := by rw [sx, sy, sgZ_sum, sgZ_abs]
  have hz : zB r = nearR (aV x + aV y) (-1074) := by
    have h1 : zB r = (rankI (r : Int)).natAbs := by
      rw [← sgn_rank k.2.1 k.2.2]; unfold sgn zB; split <;> omega
    rw [h1, k.1, (rnd_abs (p := -1074) (show vI x + vI y ≠ 0 by omega)).1, hT]
  have ht : lo ≤ zB r := by
    have h1 := nearR_V hlo 0
    rw [Nat.pow_zero, Nat.mul_one, show ((-1074 : Int) - ((0 : Nat) : Int)) = -1074 by decide] at h1
    rw [hz]
    have h2 := nearR_mono (-1074) (show V lo ≤ aV x + aV y from Nat.le_trans (V_le x0) (Nat.le_add_right _ _))
    omega
  have hu : zB r ≤ hi' := by
    rw [hz, ← e2]; exact nearR_mono _ (Nat.add_le_add (V_le hx.hi) (V_le hy.hi))
  exact ⟨r, e, ⟨by unfold NumB; show zB r < _; omega, k.2.1, Or.inr ht, hu⟩, ht⟩
/-- Numbers from 2^k on are whole multiples of 2^(k - 52). -/
theorem mult_of {r g : Nat} (h : pB (g + 1) ≤ r) : 2 ^ g ∣ V r := by
  have hp : g ≤ pl r := by unfold pl; unfold pB at h; omega
  unfold V
  obtain ⟨d, hd⟩ : ∃ d, pl r = g + d := ⟨pl r - g, by omega⟩
  rw [hd, Nat.pow_add]
  exact ⟨mg r * 2 ^ d, by rw [← Nat.mul_assoc, Nat.mul_comm (mg r), Nat.mul_assoc]⟩
theorem V_rung2 {t k : Nat} (h : 4503599627370496 ≤ k) (hk : k < 9007199254740992) : V (t * 4503599627370496 + k) = k * 2 ^ t := by
  have e1 : mg (t * 4503599627370496 + k) = k := by unfold mg; rw [if_neg (by omega)]; omega
  have e2 : pl (t * 4503599627370496 + k) = t := by unfold pl; omega
  unfold V; rw [e1, e2]
/-- Rounding keeps whole multiples. -/
theorem near_mult {M g : Nat} (hg : 52 ≤ g) (hg2 : g ≤ 1000) (h : 2 ^ g ∣ M ∨ 2 ^ (g + 53) ≤ M) : 2 ^ g ∣ V (nearR M (-1074)) := by
  have hV : ∀ r, r < 9218868437227405312 → nearR (V r) (-1074) = r := fun r hr => by
    have := nearR_V hr 0
    rw [Nat.pow_zero, Nat.mul_one, show ((-1074 : Int) - ((0 : Nat) : Int)) = -1074 by decide] at this
    exact this
  by_cases c : 2 ^ (g + 53) ≤ M
  · have e : V ((g + 1) * 4503599627370496 + 4503599627370496) = 2 ^ (g + 53) := by
      rw [V_rung2 (by decide) (by decide), show (4503599627370496 : Nat) = 2 ^ 52 by decide, ← Nat.pow_add]
      congr 1; omega
    have h1 := hV ((g + 1) * 4503599627370496 + 4503599627370496) (by omega)
    rw [e] at h1
    have h2 := nearR_mono (-1074) c
    exact mult_of (by unfold pB; omega)
  · have hd : 2 ^ g ∣ M := by rcases h with h | h; exact h; exact absurd h c
    obtain ⟨m, rfl⟩ := hd
    by_cases m0 : m = 0
    · rw [m0, Nat.mul_zero, nearR_zero (by decide), V_zero]; exact Nat.dvd_zero _
    · have hm : m < 2 ^ 53 := by
        refine Classical.byContradiction fun d => c ?_
        rw [Nat.pow_add]
        exact Nat.mul_le_mul_left _ (by omega)
      have hl : m.log2 ≤ 52 := by have := (Nat.log2_lt m0).2 hm; omega
      have a := Nat.log2_self_le m0
      have b : m < 2 ^ (m.log2 + 1) := Nat.lt_log2_self
      have k1 : 4503599627370496 ≤ m * 2 ^ (52 - m.log2) := by
        have := Nat.mul_le_mul_right (2 ^ (52 - m.log2)) a
        rw [← Nat.pow_add, show m.log2 + (52 - m.log2) = 52 by omega] at this; exact this
      have k2 : m * 2 ^ (52 - m.log2) < 9007199254740992 := by
        have := Nat.mul_lt_mul_of_pos_right b (Nat.two_pow_pos (52 - m.log2))
        rw [← Nat.pow_add, show m.log2 + 1 + (52 - m.log2) = 53 by omega] at this; exact this
      have e : V ((g + m.log2 - 52) * 4503599627370496 + m * 2 ^ (52 - m.log2)) = 2 ^ g * m := by
        rw [V_rung2 k1 k2, Nat.mul_assoc, ← Nat.pow_add, show 52 - m.log2 + (g + m.log2 - 52) = g by omega, Nat.mul_comm]
      have h1 := hV ((g + m.log2 - 52) * 4503599627370496 + m * 2 ^ (52 - m.log2)) (by omega)
      rw [e] at h1
      rw [h1, e]
      exact Nat.dvd_mul_right _ _
/-- A sum of doubled weight, divided. -/
theorem over_low {A d B D lo : Nat} (hd : 0 < d) (hA : B ≤ A) (hD : d ≤ D) (e : nearR (quoS B D 0) (-2149) = lo) : lo ≤ nearR (quoS A d 0) (-2149) := by
  rw [← e]
  exact nearR_mono _ (Nat.le_trans (quoS_down hd hD) (quoS_up hA))
end Go.Proofs.Ytnmjljijgmmakab
