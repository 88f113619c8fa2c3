/- Days and dates as whole numbers: no word of the program. Easter's steps as whole numbers, and what holds of them in each of the 300 years. Calendars as whole numbers and lists of rules: no word of the program. -/
import Derived.Below
namespace Go.Proofs.YtphnainibdepbaaGreat
open Go.RowKit

def leapB (y : Int) : Bool := (y.tmod 4 == 0) && (y.tmod 100 != 0) || (y.tmod 400 == 0)
def lpI (y : Int) : Int := if leapB y then 1 else 0
def lenI (y m : Int) : Int := if m = 2 then 28 + lpI y else if m = 4 ∨ m = 6 ∨ m = 9 ∨ m = 11 then 30 else 31
def lpsI (y : Int) : Int := y / 4 - y / 100 + y / 400
def nyI (y : Int) : Int := 365 * (y - 1900) + lpsI (y - 1) - 460
def cumI (y m : Int) : Int := (367 * m - 362) / 12 - (if m ≤ 2 then 0 else 2 - lpI y)
def okD (y m d : Int) : Prop := 1900 ≤ y ∧ y ≤ 2199 ∧ 1 ≤ m ∧ m ≤ 12 ∧ 1 ≤ d ∧ d ≤ lenI y m
def dayI (y m d : Int) : Int := nyI y + cumI y m + d - 1
def IsD (n y m d : Int) : Prop := okD y m d ∧ n = dayI y m d

theorem lp_cases (y : Int) : lpI y = 0 ∨ lpI y = 1 := by
  unfold lpI; cases leapB y
  · exact Or.inl rfl
  · exact Or.inr rfl
theorem lp_lo (y : Int) : 0 ≤ lpI y := by rcases lp_cases y with e | e <;> omega
theorem lp_hi (y : Int) : lpI y ≤ 1 := by rcases lp_cases y with e | e <;> omega
theorem len_lo (y m : Int) : 28 ≤ lenI y m := by
  have := lp_lo y
  unfold lenI
  split
  · omega
  · split <;> omega
theorem len_hi (y m : Int) : lenI y m ≤ 31 := by
  have := lp_hi y
  unfold lenI
  split
  · omega
  · split <;> omega

theorem leap_iff {y : Int} (h : 0 ≤ y) : leapB y = true ↔ (y % 4 = 0 ∧ y % 100 ≠ 0 ∨ y % 400 = 0) := by
  unfold leapB
  rw [Int.tmod_eq_emod_of_nonneg h, Int.tmod_eq_emod_of_nonneg h, Int.tmod_eq_emod_of_nonneg h]
  simp
theorem lp_val {y : Int} (h : 0 ≤ y) : (lpI y = 1 ∧ (y % 4 = 0 ∧ y % 100 ≠ 0 ∨ y % 400 = 0)) ∨ (lpI y = 0 ∧ ¬ (y % 4 = 0 ∧ y % 100 ≠ 0 ∨ y % 400 = 0)) := by
  have e := leap_iff h
  unfold lpI
  cases hl : leapB y
  · rw [hl] at e
    exact Or.inr ⟨rfl, fun h => Bool.noConfusion (e.2 h)⟩
  · exact Or.inl ⟨rfl, e.1 hl⟩

theorem ny_succ {y : Int} (h : 1900 ≤ y) : nyI (y + 1) = nyI y + 365 + lpI y := by
  have := lp_val (y := y) (by omega)
  unfold nyI lpsI
  omega
theorem ny_first : nyI 1900 = 0 := by decide
theorem ny_last : nyI 2200 = 109573 := by decide
theorem ny_mono {y z : Int} (_h : 1900 ≤ y) (hz : y ≤ z) : nyI y ≤ nyI z := by
  unfold nyI lpsI; omega
theorem ny_lo {y : Int} (h : 1900 ≤ y) : 365 * (y - 1900) ≤ nyI y := by unfold nyI lpsI; omega
theorem ny_hi {y : Int} (h : 1900 ≤ y) : nyI y ≤ 366 * (y - 1900) := by unfold nyI lpsI; omega

theorem month_cases {m : Int} (h : 1 ≤ m) (h' : m ≤ 12) : m = 1 ∨ m = 2 ∨ m = 3 ∨ m = 4 ∨ m = 5 ∨ m = 6 ∨ m = 7 ∨ m = 8 ∨ m = 9 ∨ m = 10 ∨ m = 11 ∨ m = 12 := by omega
theorem cum_first (y : Int) : cumI y 1 = 0 := by unfold cumI; rw [if_pos (by decide)]; decide
theorem cum_succ {y m : Int} (h : 1 ≤ m) (h' : m ≤ 12) : cumI y (m + 1) = cumI y m + lenI y m := by
  have h0 := lp_cases y
  unfold cumI lenI
  generalize lpI y = l at *
  rcases month_cases h h' with rfl | rfl | rfl | rfl | rfl | rfl | rfl | rfl | rfl | rfl | rfl | rfl <;> rcases h0 with rfl | rfl <;> decide
theorem cum_last (y : Int) : cumI y 13 = 365 + lpI y := by
  unfold cumI; rw [if_neg (by decide)]
  rw [show ((367 * 13 - 362) / 12 : Int) = 367 by decide]; omega
theorem cum_mono {y m k : Int} (h : 1 ≤ m) (hk : m ≤ k) (h' : k ≤ 13) : cumI y m ≤ cumI y k := by
  have h0 := lp_lo y
  have h1 := lp_hi y
  unfold cumI
  split <;> split <;> omega
theorem cum_lo {y m : Int} (h : 1 ≤ m) (h' : m ≤ 13) : 0 ≤ cumI y m := by
  rw [← cum_first y]; exact cum_mono (by omega) h h'
theorem cum_hi {y m : Int} (h : 1 ≤ m) (h' : m ≤ 13) : cumI y m ≤ 366 := by
  have := cum_mono (y := y) h h' (by omega)
  rw [cum_last] at this
  have := lp_hi y
  omega

theorem IsD.year {n y m d : Int} (h : IsD n y m d) : nyI y ≤ n ∧ n < nyI (y + 1) := by
  obtain ⟨⟨h1, h2, h3, h4, h5, h6⟩, rfl⟩ := h
  have a := cum_lo (y := y) h3 (by omega)
  have b := cum_mono (y := y) (m := m + 1) (k := 13) (by omega) (by omega) (by omega)
  rw [cum_last, cum_succ h3 h4] at b
  rw [ny_succ h1]
  unfold dayI
  omega
theorem IsD.range {n y m d : Int} (h : IsD n y m d) : 0 ≤ n ∧ n ≤ 109572 := by
  have := h.year
  obtain ⟨⟨h1, h2, h3, h4, h5, h6⟩, rfl⟩ := h
  have a := ny_mono (y := 1900) (z := y) (by omega) h1
  have b := ny_mono (y := y + 1) (z := 2200) (by omega) (by omega)
  rw [ny_first] at a
  rw [ny_last] at b
  omega
theorem IsD.month {n y m d : Int} (h : IsD n y m d) : cumI y m ≤ n - nyI y ∧ n - nyI y < cumI y (m + 1) := by
  obtain ⟨⟨h1, h2, h3, h4, h5, h6⟩, rfl⟩ := h
  rw [cum_succ h3 h4]
  unfold dayI
  omega
theorem IsD.unique {n y m d y' m' d' : Int} (h : IsD n y m d) (h' : IsD n y' m' d') : y = y' ∧ m = m' ∧ d = d' := by
  have a := h.year
  have a' := h'.year
  have hy : y = y' := by
    rcases Int.lt_trichotomy y y' with e | e | e
    · have := ny_mono (y := y + 1) (z := y') (by have := h.1.1; omega) (by omega)
      omega
    · exact e
    · have := ny_mono (y := y' + 1) (z := y) (by have := h'.1.1; omega) (by omega)
      omega
  subst hy
  have b := h.month
  have b' := h'.month
  have hm : m = m' := by
    obtain ⟨⟨_, _, h3, h4, _, _⟩, _⟩ := h
    obtain ⟨⟨_, _, h3', h4', _, _⟩, _⟩ := h'
    rcases Int.lt_trichotomy m m' with e | e | e
    · have := cum_mono (y := y) (m := m + 1) (k := m') (by omega) (by omega) (by omega)
      omega
    · exact e
    · have := cum_mono (y := y) (m := m' + 1) (k := m) (by omega) (by omega) (by omega)
      omega
  subst hm
  refine ⟨rfl, rfl, ?_⟩
  have e := h.2
  have e' := h'.2
  unfold dayI at e e'
  omega

theorem year_ex (k : Nat) (n : Int) (h0 : 0 ≤ n) (h : n < nyI (1900 + k)) : ∃ y, 1900 ≤ y ∧ y < 1900 + (k : Int) ∧ nyI y ≤ n ∧ n < nyI (y + 1) := by
  induction k with
  | zero =>
    rw [show (1900 + ((0 : Nat) : Int)) = 1900 by rfl, ny_first] at h
    omega
  | succ k ih =>
    by_cases hk : n < nyI (1900 + k)
    · obtain ⟨y, a, b, c, d⟩ := ih hk
      exact ⟨y, a, by omega, c, d⟩
    · refine ⟨1900 + k, by omega, by omega, by omega, ?_⟩
      rw [show (1900 + (k : Int) + 1) = 1900 + ((k + 1 : Nat) : Int) by omega]
      exact h
theorem month_ex (y r : Int) (k : Nat) (hk : k ≤ 12) (h0 : 0 ≤ r) (h : r < cumI y (1 + k)) : ∃ m, 1 ≤ m ∧ m < 1 + (k : Int) ∧ cumI y m ≤ r ∧ r < cumI y (m + 1) := by
  induction k with
  | zero =>
    rw [show (1 + ((0 : Nat) : Int)) = 1 by rfl, cum_first] at h
    omega
  | succ k ih =>
    by_cases hk' : r < cumI y (1 + k)
    · obtain ⟨m, a, b, c, d⟩ := ih (by omega) hk'
      exact ⟨m, a, by omega, c, d⟩
    · refine ⟨1 + k, by omega, by omega, by omega, ?_⟩
      rw [show (1 + (k : Int) + 1) = 1 + ((k + 1 : Nat) : Int) by omega]
      exact h
theorem isD_ex {n : Int} (h0 : 0 ≤ n) (h1 : n ≤ 109572) : ∃ y m d, IsD n y m d := by
  obtain ⟨y, a, b, c, e⟩ := year_ex 300 n h0 (by rw [show (1900 + ((300 : Nat) : Int)) = 2200 by rfl, ny_last]; omega)
  rw [ny_succ a] at e
  obtain ⟨m, f, g, i, j⟩ := month_ex y (n - nyI y) 12 (by omega) (by omega) (by rw [show (1 + ((12 : Nat) : Int)) = 13 by rfl, cum_last]; omega)
  rw [cum_succ f (by omega)] at j
  refine ⟨y, m, n - nyI y - cumI y m + 1, ⟨a, by omega, f, by omega, by omega, by omega⟩, ?_⟩
  unfold dayI
  omega
theorem isD_of {y m d : Int} (h : okD y m d) : IsD (dayI y m d) y m d := ⟨h, rfl⟩
end Go.Proofs.YtphnainibdepbaaGreat
namespace Go.Proofs.YtphnainibdepbaaGreat
open Go.RowKit

def eaG (b : Int) : Int := (b - (b + 8) / 25 + 1) / 3
def eaH (y : Int) : Int := (19 * (y % 19) + y / 100 - y / 100 / 4 - eaG (y / 100) + 15) % 30
def eaL (y : Int) : Int := (32 + 2 * (y / 100 % 4) + 2 * (y % 100 / 4) - eaH y - y % 100 % 4) % 7
def eaT (y : Int) : Int := eaH y + eaL y - 7 * ((y % 19 + 11 * eaH y + 22 * eaL y) / 451) + 114
def eaLook (y : Int) : Bool :=
  decide (eaT y / 31 = 3 ∨ eaT y / 31 = 4) && decide (eaT y % 31 + 1 ≤ lenI y (eaT y / 31)) && decide ((dayI y (eaT y / 31) (eaT y % 31 + 1)) % 7 = 6) && decide (dayI y 3 22 ≤ dayI y (eaT y / 31) (eaT y % 31 + 1)) && decide (dayI y (eaT y / 31) (eaT y % 31 + 1) ≤ dayI y 4 25) && decide (eaT y ≤ 200) && decide (0 ≤ eaT y)
theorem ea_all : ∀ i < 20, ∀ j < 15, eaLook (1900 + 15 * ((i : Nat) : Int) + ((j : Nat) : Int)) = true := by decide +kernel
structure EaOk (y : Int) : Prop where
  mon : eaT y / 31 = 3 ∨ eaT y / 31 = 4
  ok : okD y (eaT y / 31) (eaT y % 31 + 1)
  sun : (dayI y (eaT y / 31) (eaT y % 31 + 1)) % 7 = 6
  lo : dayI y 3 22 ≤ dayI y (eaT y / 31) (eaT y % 31 + 1)
  hi : dayI y (eaT y / 31) (eaT y % 31 + 1) ≤ dayI y 4 25
  small : eaT y ≤ 200
  pos : 0 ≤ eaT y
theorem ea_ok {y : Int} (h : 1900 ≤ y) (h' : y ≤ 2199) : EaOk y := by
  have e := ea_all ((y - 1900) / 15).toNat (by omega) ((y - 1900) % 15).toNat (by omega)
  rw [show 1900 + 15 * ((((y - 1900) / 15).toNat : Nat) : Int) + ((((y - 1900) % 15).toNat : Nat) : Int) = y by omega] at e
  unfold eaLook at e
  simp only [Bool.and_eq_true, decide_eq_true_eq] at e
  obtain ⟨⟨⟨⟨⟨⟨a, b⟩, c⟩, d⟩, f⟩, g⟩, i⟩ := e
  refine ⟨a, ?_, c, d, f, g, i⟩
  unfold okD
  exact ⟨h, h', by omega, by omega, by omega, b⟩
end Go.Proofs.YtphnainibdepbaaGreat
namespace Go.Proofs.YtphnainibdepbaaGreat
open Go.RowKit

structure Rul where
  (kind mon day nth wd off fr to mv : Int)
deriving DecidableEq

def offB (W n : Int) : Bool := W / ((2 ^ (n % 7).toNat : Nat) : Int) % 2 == 1
theorem free_ex {W : Int} (h0 : 0 ≤ W) (h1 : W ≤ 126) : ∃ r : Int, 0 ≤ r ∧ r ≤ 6 ∧ offB W r = false := by
  by_cases a : ∀ j < 7, offB W ((j : Nat) : Int) = true
  · exfalso
    have e : ∀ W' < 127, ¬ (∀ j < 7, offB ((W' : Nat) : Int) ((j : Nat) : Int) = true) := by decide +kernel
    obtain ⟨w, rfl⟩ := Int.eq_ofNat_of_zero_le h0
    exact e w (by omega) a
  · obtain ⟨j, hj⟩ := Classical.not_forall.1 a
    obtain ⟨hj1, hj2⟩ := Classical.not_imp.1 hj
    exact ⟨j, by omega, by omega, by simpa using hj2⟩
structure Ups (W n : Int) (u d : Nat) : Prop where
  ub : u ≤ 6
  db : d ≤ 6
  uf : offB W (n + u) = false
  df : offB W (n - d) = false
  uo : ∀ j < u, offB W (n + j) = true
  dn : ∀ j < d, offB W (n - j) = true
theorem least_of {p : Nat → Bool} (N : Nat) : (∃ i ≤ N, p i = false) → ∃ k ≤ N, p k = false ∧ ∀ j < k, p j = true := by
  induction N with
  | zero =>
    rintro ⟨i, hi, hpi⟩
    obtain rfl : i = 0 := by omega
    exact ⟨0, by omega, hpi, fun j hj => by omega⟩
  | succ N ihN =>
    rintro ⟨i, hi, hpi⟩
    by_cases h2 : ∃ i ≤ N, p i = false
    · obtain ⟨k, hk, a, b⟩ := ihN h2
      exact ⟨k, by omega, a, b⟩
    · obtain rfl : i = N + 1 := by
        by_cases h3 : i ≤ N
        · exact absurd ⟨i, h3, hpi⟩ h2
        · omega
      exact ⟨N + 1, Nat.le_refl _, hpi, fun j hj => by
        cases hpj : p j
        · exact absurd ⟨j, by omega, hpj⟩ h2
        · rfl⟩
theorem least_ex {p : Nat → Bool} {m : Nat} (h : p m = false) : ∃ k ≤ m, p k = false ∧ ∀ j < k, p j = true := least_of m ⟨m, Nat.le_refl _, h⟩
theorem ups_ex {W : Int} (h0 : 0 ≤ W) (h1 : W ≤ 126) (n : Int) : ∃ u d, Ups W n u d := by
  obtain ⟨r, r0, r1, hr⟩ := free_ex h0 h1
  obtain ⟨u, hu, uf, uo⟩ := least_ex (p := fun j => offB W (n + (j : Nat))) (m := ((r - n) % 7).toNat) (by
    show offB W (n + _) = false
    rw [← hr]
    unfold offB
    rw [show (n + ((((r - n) % 7).toNat : Nat) : Int)) % 7 = r % 7 by omega])
  obtain ⟨d, hd, df, dn⟩ := least_ex (p := fun j => offB W (n - (j : Nat))) (m := ((n - r) % 7).toNat) (by
    show offB W (n - _) = false
    rw [← hr]
    unfold offB
    rw [show (n - ((((n - r) % 7).toNat : Nat) : Int)) % 7 = r % 7 by omega])
  exact ⟨u, d, by omega, by omega, uf, df, uo, dn⟩
def movI (W n mv : Int) (u d : Nat) : Int := if mv = 0 ∨ offB W n = false then n else if mv = 2 ∧ (d : Int) < u then n - d else n + u
def nthI (y m w k : Int) : Int :=
  let n := dayI y m 1 + (w - dayI y m 1) % 7 + 7 * (k - 1)
  if k = 5 ∧ dayI y m 1 + lenI y m ≤ n then n - 7 else n
end Go.Proofs.YtphnainibdepbaaGreat
