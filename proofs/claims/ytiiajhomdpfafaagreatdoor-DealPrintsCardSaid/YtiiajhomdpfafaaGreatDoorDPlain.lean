/- Days and dates as whole numbers: no word of the program. -/
import Derived.Below
namespace Go.Proofs.YtiiajhomdpfafaaGreatDoor
open Go.RowKit

def leapB (y : Int) : Bool := (y.tmod 4 == 0) && (y.tmod 100 != 0) || (y.tmod 400 == 0)
def lpI (y : Int) : Int := if leapB y then 1 else 0
def lenI (y m : Int) : Int := if m = 2 then 28 + lpI y else if m = 4 ∨ m = 6 ∨ m = 9 ∨ m = 11 then 30 else 31
def lpsI (y : Int) : Int := y / 4 - y / 100 + y / 400
def nyI (y : Int) : Int := 365 * (y - 1900) + lpsI (y - 1) - 460
def cumI (y m : Int) : Int := (367 * m - 362) / 12 - (if m ≤ 2 then 0 else 2 - lpI y)
def okD (y m d : Int) : Prop := 1900 ≤ y ∧ y ≤ 2199 ∧ 1 ≤ m ∧ m ≤ 12 ∧ 1 ≤ d ∧ d ≤ lenI y m
def dayI (y m d : Int) : Int := nyI y + cumI y m + d - 1
def IsD (n y m d : Int) : Prop := okD y m d ∧ n = dayI y m d

theorem lp_cases (y : Int) : lpI y = 0 ∨ lpI y = 1 := by
  unfold lpI; cases leapB y
  · exact Or.inl rfl
  · exact Or.inr rfl
theorem lp_lo (y : Int) : 0 ≤ lpI y := by rcases lp_cases y with e | e <;> omega
theorem lp_hi (y : Int) : lpI y ≤ 1 := by rcases lp_cases y with e | e <;> omega
theorem len_lo (y m : Int) : 28 ≤ lenI y m := by
  have := lp_lo y
  unfold lenI
  split
  · omega
  · split <;> omega
theorem len_hi (y m : Int) : lenI y m ≤ 31 := by
  have := lp_hi y
  unfold lenI
  split
  · omega
  · split <;> omega

theorem leap_iff {y : Int} (h : 0 ≤ y) : leapB y = true ↔ (y % 4 = 0 ∧ y % 100 ≠ 0 ∨ y % 400 = 0) := by
  unfold leapB
  rw [Int.tmod_eq_emod_of_nonneg h, Int.tmod_eq_emod_of_nonneg h, Int.tmod_eq_emod_of_nonneg h]
  simp
theorem lp_val {y : Int} (h : 0 ≤ y) : (lpI y = 1 ∧ (y % 4 = 0 ∧ y % 100 ≠ 0 ∨ y % 400 = 0)) ∨ (lpI y = 0 ∧ ¬ (y % 4 = 0 ∧ y % 100 ≠ 0 ∨ y % 400 = 0)) := by
  have e := leap_iff h
  unfold lpI
  cases hl : leapB y
  · rw [hl] at e
    exact Or.inr ⟨rfl, fun h => Bool.noConfusion (e.2 h)⟩
  · exact Or.inl ⟨rfl, e.1 hl⟩

theorem ny_succ {y : Int} (h : 1900 ≤ y) : nyI (y + 1) = nyI y + 365 + lpI y := by
  have := lp_val (y := y) (by omega)
  unfold nyI lpsI
  omega
theorem ny_first : nyI 1900 = 0 := by decide
theorem ny_last : nyI 2200 = 109573 := by decide
theorem ny_mono {y z : Int} (_h : 1900 ≤ y) (hz : y ≤ z) : nyI y ≤ nyI z := by
  unfold nyI lpsI; omega
theorem ny_lo {y : Int} (h : 1900 ≤ y) : 365 * (y - 1900) ≤ nyI y := by unfold nyI lpsI; omega
theorem ny_hi {y : Int} (h : 1900 ≤ y) : nyI y ≤ 366 * (y - 1900) := by unfold nyI lpsI; omega

theorem month_cases {m : Int} (h : 1 ≤ m) (h' : m ≤ 12) : m = 1 ∨ m = 2 ∨ m = 3 ∨ m = 4 ∨ m = 5 ∨ m = 6 ∨ m = 7 ∨ m = 8 ∨ m = 9 ∨ m = 10 ∨ m = 11 ∨ m = 12 := by omega
theorem cum_first (y : Int) : cumI y 1 = 0 := by unfold cumI; rw [if_pos (by decide)]; decide
theorem cum_succ {y m : Int} (h : 1 ≤ m) (h' : m ≤ 12) : cumI y (m + 1) = cumI y m + lenI y m := by
  have h0 := lp_cases y
  unfold cumI lenI
  generalize lpI y = l at *
  rcases month_cases h h' with rfl | rfl | rfl | rfl | rfl | rfl | rfl | rfl | rfl | rfl | rfl | rfl <;> rcases h0 with rfl | rfl <;> decide
theorem cum_last (y : Int) : cumI y 13 = 365 + lpI y := by
  unfold cumI; rw [if_neg (by decide)]
  rw [show ((367 * 13 - 362) / 12 : Int) = 367 by decide]; omega
theorem cum_mono {y m k : Int} (h : 1 ≤ m) (hk : m ≤ k) (h' : k ≤ 13) : cumI y m ≤ cumI y k := by
  have h0 := lp_lo y
  have h1 := lp_hi y
  unfold cumI
  split <;> split <;> omega
theorem cum_lo {y m : Int} (h : 1 ≤ m) (h' : m ≤ 13) : 0 ≤ cumI y m := by
  rw [← cum_first y]; exact cum_mono (by omega) h h'
theorem cum_hi {y m : Int} (h : 1 ≤ m) (h' : m ≤ 13) : cumI y m ≤ 366 := by
  have := cum_mono (y := y) h h' (by omega)
  rw [cum_last] at this
  have := lp_hi y
  omega

theorem IsD.year {n y m d : Int} (h : IsD n y m d) : nyI y ≤ n ∧ n < nyI (y + 1) := by
  obtain ⟨⟨h1, h2, h3, h4, h5, h6⟩, rfl⟩ := h
  have a := cum_lo (y := y) h3 (by omega)
  have b := cum_mono (y := y) (m := m + 1) (k := 13) (by omega) (by omega) (by omega)
  rw [cum_last, cum_succ h3 h4] at b
  rw [ny_succ h1]
  unfold dayI
  omega
theorem IsD.range {n y m d : Int} (h : IsD n y m d) : 0 ≤ n ∧ n ≤ 109572 := by
  have := h.year
  obtain ⟨⟨h1, h2, h3, h4, h5, h6⟩, rfl⟩ := h
  have a := ny_mono (y := 1900) (z := y) (by omega) h1
  have b := ny_mono (y := y + 1) (z := 2200) (by omega) (by omega)
  rw [ny_first] at a
  rw [ny_last] at b
  omega
theorem IsD.month {n y m d : Int} (h : IsD n y m d) : cumI y m ≤ n - nyI y ∧ n - nyI y < cumI y (m + 1) := by
  obtain ⟨⟨h1, h2, h3, h4, h5, h6⟩, rfl⟩ := h
  rw [cum_succ h3 h4]
  unfold dayI
  omega
theorem IsD.unique {n y m d y' m' d' : Int} (h : IsD n y m d) (h' : IsD n y' m' d') : y = y' ∧ m = m' ∧ d = d' := by
  have a := h.year
  have a' := h'.year
  have hy : y = y' := by
    rcases Int.lt_trichotomy y y' with e | e | e
    · have := ny_mono (y := y + 1) (z := y') (by have := h.1.1; omega) (by omega)
      omega
    · exact e
    · have := ny_mono (y := y' + 1) (z := y) (by have := h'.1.1; omega) (by omega)
      omega
  subst hy
  have b := h.month
  have b' := h'.month
  have hm : m = m' := by
    obtain ⟨⟨_, _, h3, h4, _, _⟩, _⟩ := h
    obtain ⟨⟨_, _, h3', h4', _, _⟩, _⟩ := h'
    rcases Int.lt_trichotomy m m' with e | e | e
    · have := cum_mono (y := y) (m := m + 1) (k := m') (by omega) (by omega) (by omega)
      omega
    · exact e
    · have := cum_mono (y := y) (m := m' + 1) (k := m) (by omega) (by omega) (by omega)
      omega
  subst hm
  refine ⟨rfl, rfl, ?_⟩
  have e := h.2
  have e' := h'.2
  unfold dayI at e e'
  omega

theorem year_ex (k : Nat) (n : Int) (h0 : 0 ≤ n) (h : n < nyI (1900 + k)) : ∃ y, 1900 ≤ y ∧ y < 1900 + (k : Int) ∧ nyI y ≤ n ∧ n < nyI (y + 1) := by
  induction k with
  | zero =>
    rw [show (1900 + ((0 : Nat) : Int)) = 1900 by rfl, ny_first] at h
    omega
  | succ k ih =>
    by_cases hk : n < nyI (1900 + k)
    · obtain ⟨y, a, b, c, d⟩ := ih hk
      exact ⟨y, a, by omega, c, d⟩
    · refine ⟨1900 + k, by omega, by omega, by omega, ?_⟩
      rw [show (1900 + (k : Int) + 1) = 1900 + ((k + 1 : Nat) : Int) by omega]
      exact h
theorem month_ex (y r : Int) (k : Nat) (hk : k ≤ 12) (h0 : 0 ≤ r) (h : r < cumI y (1 + k)) : ∃ m, 1 ≤ m ∧ m < 1 + (k : Int) ∧ cumI y m ≤ r ∧ r < cumI y (m + 1) := by
  induction k with
  | zero =>
    rw [show (1 + ((0 : Nat) : Int)) = 1 by rfl, cum_first] at h
    omega
  | succ k ih =>
    by_cases hk' : r < cumI y (1 + k)
    · obtain ⟨m, a, b, c, d⟩ := ih (by omega) hk'
      exact ⟨m, a, by omega, c, d⟩
    · refine ⟨1 + k, by omega, by omega, by omega, ?_⟩
      rw [show (1 + (k : Int) + 1) = 1 + ((k + 1 : Nat) : Int) by omega]
      exact h
theorem isD_ex {n : Int} (h0 : 0 ≤ n) (h1 : n ≤ 109572) : ∃ y m d, IsD n y m d := by
  obtain ⟨y, a, b, c, e⟩ := year_ex 300 n h0 (by rw [show (1900 + ((300 : Nat) : Int)) = 2200 by rfl, ny_last]; omega)
  rw [ny_succ a] at e
  obtain ⟨m, f, g, i, j⟩ := month_ex y (n - nyI y) 12 (by omega) (by omega) (by rw [show (1 + ((12 : Nat) : Int)) = 13 by rfl, cum_last]; omega)
  rw [cum_succ f (by omega)] at j
  refine ⟨y, m, n - nyI y - cumI y m + 1, ⟨a, by omega, f, by omega, by omega, by omega⟩, ?_⟩
  unfold dayI
  omega
end Go.Proofs.YtiiajhomdpfafaaGreatDoor
