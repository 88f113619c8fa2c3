/- Calendars as whole numbers and lists of rules: no word of the program. The contracts of Leap, length, Length, leaps and newYear, of the program and of the document's answer. -/
import Derived.Test.YtelghkhcplmnmaaHaa
import Derived.Test.YtelghkhcplmnmaaRows
import Derived.WalkKit
import Derived.WalkSpells
import Derived.WalkLawsBesides
import Derived.Handy
import Derived.LoopTactic
import Derived.BigQuiet
namespace Go.Proofs.Ytelghkhcplmnmaa
open Go.RowKit

/-- A rule's nine numbers. -/
structure Rul where
  (kind mon day nth wd off fr to mv : Int)
deriving DecidableEq

/-- Is n's weekday (of any whole number) in W? -/
def offB (W n : Int) : Bool := W / ((2 ^ (n % 7).toNat : Nat) : Int) % 2 == 1
theorem off_week (W n : Int) (k : Int) : offB W (n + 7 * k) = offB W n := by
  unfold offB
  rw [show (n + 7 * k) % 7 = n % 7 by omega]
/-- Some weekday is free. -/
theorem free_ex {W : Int} (h0 : 0 ≤ W) (h1 : W ≤ 126) : ∃ r : Int, 0 ≤ r ∧ r ≤ 6 ∧ offB W r = false := by
  by_cases a : ∀ j < 7, offB W ((j : Nat) : Int) = true
  · exfalso
    have e : ∀ W' < 127, ¬ (∀ j < 7, offB ((W' : Nat) : Int) ((j : Nat) : Int) = true) := by decide +kernel
    obtain ⟨w, rfl⟩ := Int.eq_ofNat_of_zero_le h0
    exact e w (by omega) a
  · obtain ⟨j, hj⟩ := Classical.not_forall.1 a
    obtain ⟨hj1, hj2⟩ := Classical.not_imp.1 hj
    exact ⟨j, by omega, by omega, by simpa using hj2⟩
/-- u steps up, d steps down to the next free weekdays. -/
structure Ups (W n : Int) (u d : Nat) : Prop where
  ub : u ≤ 6
  db : d ≤ 6
  uf : offB W (n + u) = false
  df : offB W (n - d) = false
  uo : ∀ j < u, offB W (n + j) = true
  dn : ∀ j < d, offB W (n - j) = true
theorem least_of {p : Nat → Bool} (N : Nat) : (∃ i ≤ N, p i = false) → ∃ k ≤ N, p k = false ∧ ∀ j < k, p j = true := by
  induction N with
  | zero =>
    rintro ⟨i, hi, hpi⟩
    obtain rfl : i = 0 := by omega
    exact ⟨0, by omega, hpi, fun j hj => by omega⟩
  | succ N ihN =>
    rintro ⟨i, hi, hpi⟩
    by_cases h2 : ∃ i ≤ N, p i = false
    · obtain ⟨k, hk, a, b⟩ := ihN h2
      exact ⟨k, by omega, a, b⟩
    · obtain rfl : i = N + 1 := by
        by_cases h3 : i ≤ N
        · exact absurd ⟨i, h3, hpi⟩ h2
        · omega
      exact ⟨N + 1, Nat.le_refl _, hpi, fun j hj => by
        cases hpj : p j
        · exact absurd ⟨j, by omega, hpj⟩ h2
        · rfl⟩
theorem least_ex {p : Nat → Bool} {m : Nat} (h : p m = false) : ∃ k ≤ m, p k = false ∧ ∀ j < k, p j = true := least_of m ⟨m, Nat.le_refl _, h⟩
theorem ups_ex {W : Int} (h0 : 0 ≤ W) (h1 : W ≤ 126) (n : Int) : ∃ u d, Ups W n u d := by
  obtain ⟨r, r0, r1, hr⟩ := free_ex h0 h1
  obtain ⟨u, hu, uf, uo⟩ := least_ex (p := fun j => offB W (n + (j : Nat))) (m := ((r - n) % 7).toNat) (by
    show offB W (n + _) = false
    rw [← hr]
    unfold offB
    rw [show (n + ((((r - n) % 7).toNat : Nat) : Int)) % 7 = r % 7 by omega])
  obtain ⟨d, hd, df, dn⟩ := least_ex (p := fun j => offB W (n - (j : Nat))) (m := ((n - r) % 7).toNat) (by
    show offB W (n - _) = false
    rw [← hr]
    unfold offB
    rw [show (n - ((((n - r) % 7).toNat : Nat) : Int)) % 7 = r % 7 by omega])
  exact ⟨u, d, by omega, by omega, uf, df, uo, dn⟩
/-- Where a rule's day lies, u up and d down the next free days. -/
def movI (W n mv : Int) (u d : Nat) : Int := if mv = 0 ∨ offB W n = false then n else if mv = 2 ∧ (d : Int) < u then n - d else n + u
/-- The N-th such weekday of a month; 5: the last one. -/
def nthI (y m w k : Int) : Int :=
  let n := dayI y m 1 + (w - dayI y m 1) % 7 + 7 * (k - 1)
  if k = 5 ∧ dayI y m 1 + lenI y m ≤ n then n - 7 else n
end Go.Proofs.Ytelghkhcplmnmaa
namespace Go.Proofs.Ytelghkhcplmnmaa
open Go.RowKit

theorem hideS {p : Prop} (h : p) : Hid p := h

set_option maxHeartbeats 400000 in
theorem leap_any (y : Int) (w : World) :
    Calls Try.prog 77 #[.int .i64 y] w fun e w' => e = .returned (.bool (leapB y)) ∧ w' = w := by
  unfold leapB
  cases h4 : (y.tmod 4 == 0) <;> cases h1 : (y.tmod 100 != 0) <;> cases h400 : (y.tmod 400 == 0)
  all_goals
    go_enter Try.func77, Try.ntmps77
    go_wp2
    go_ret
    exact ⟨rfl, rfl⟩

set_option maxHeartbeats 400000 in
theorem refLeap_any (y : Int) (w : World) :
    Calls Try.prog 62 #[.int .i64 y] w fun e w' => e = .returned (.bool (leapB y)) ∧ w' = w := by
  unfold leapB
  cases h4 : (y.tmod 4 == 0) <;> cases h1 : (y.tmod 100 != 0) <;> cases h400 : (y.tmod 400 == 0)
  all_goals
    go_enter Try.func62, Try.ntmps62
    go_wp2
    go_ret
    exact ⟨rfl, rfl⟩

theorem len_eq {y m : Int} {l : Bool} (hl : leapB y = l) (x : Int) (hx : (if m = 2 then 28 + (if l then 1 else 0) else if m = 4 ∨ m = 6 ∨ m = 9 ∨ m = 11 then 30 else (31 : Int)) = x) : lenI y m = x := by
  unfold lenI lpI; rw [hl]; exact hx

set_option maxHeartbeats 1000000 in
theorem length_any (y m : Int) (w : World) (h1 : 1 ≤ m) (h2 : m ≤ 12) :
    Calls Try.prog 67 #[.int .i64 y, .int .i64 m] w fun e w' => e = .returned (.int .i64 (lenI y m)) ∧ w' = w := by
  cases hl : leapB y <;> rcases month_cases h1 h2 with rfl | rfl | rfl | rfl | rfl | rfl | rfl | rfl | rfl | rfl | rfl | rfl
  all_goals
    rw [len_eq hl _ rfl]
    clear h1 h2
    go_enter Try.func67, Try.ntmps67
    go_wp2_with (go_at_call 77; refine (leap_any _ _).mono ?_; rintro e w' ⟨rfl, rfl⟩)
    go_ret
    exact ⟨rfl, rfl⟩

set_option maxHeartbeats 1000000 in
theorem refLength_any (y m : Int) (w : World) (h1 : 1 ≤ m) (h2 : m ≤ 12) :
    Calls Try.prog 63 #[.int .i64 y, .int .i64 m] w fun e w' => e = .returned (.int .i64 (lenI y m)) ∧ w' = w := by
  cases hl : leapB y <;> rcases month_cases h1 h2 with rfl | rfl | rfl | rfl | rfl | rfl | rfl | rfl | rfl | rfl | rfl | rfl
  all_goals
    rw [len_eq hl _ rfl]
    clear h1 h2
    go_enter Try.func63, Try.ntmps63
    go_wp2_with (go_at_call 62; refine (refLeap_any _ _).mono ?_; rintro e w' ⟨rfl, rfl⟩)
    go_ret
    exact ⟨rfl, rfl⟩
end Go.Proofs.Ytelghkhcplmnmaa
