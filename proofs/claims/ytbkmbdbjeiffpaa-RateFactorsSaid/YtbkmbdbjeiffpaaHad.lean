/- The contracts of Class, Negative, Same, Rank, At, Mid, Gap, Up and Down, of the program and of the document's answer. The contracts of At, Up, Down, Mid, Gap, of the program and of the document's answer. -/
import Derived.Test.YtbkmbdbjeiffpaaHac
namespace Go.Proofs.Ytbkmbdbjeiffpaa
open Go.RowKit

theorem size_as (b : Nat) (u : Int) (w : World) (hu : Hid (u = b)) (h : U64 u) :
    Calls Try.prog 93 #[.float .f64 b] w fun e w' => e = .returned (.int .u64 (szI u)) ∧ w' = w := by
  have e := hu.out; subst e; exact size_any b w h

set_option maxHeartbeats 400000 in
theorem refSame_any (a b : Int) (w : World) (h : U64 a) (h' : U64 b) :
    Calls Try.prog 34 #[.int .u64 a, .int .u64 b] w fun e w' => e = .returned (.bool (sameB a b)) ∧ w' = w := by
  by_cases h0 : a = b
  · have hb : (a == b) = true := by simpa using h0
    clear h0
    have hs : Hid (sameB a b = true) := by
      have : a = b := by simpa using hb
      subst this; exact sameB_refl a
    rw [hs.out]
    go_enter Try.func34, Try.ntmps34
    go_wp2
    go_ret
    exact ⟨rfl, rfl⟩
  · have hb : (a == b) = false := by simpa using h0
    have hs : Hid (sameB a b = (nanB a && nanB b)) := by show sameB a b = _; simp [sameB, h0]
    clear h0
    rw [hs.out]
    cases h1 : nanB a <;> cases h2 : nanB b
    all_goals
      go_enter Try.func34, Try.ntmps34
      go_wp2_with fail
      refine (refNaN_any _ _ h).mono ?_
      rintro e w' ⟨rfl, rfl⟩
      go_wp2_with (go_at_call 47; refine (refNaN_any _ _ h').mono ?_; rintro e w' ⟨rfl, rfl⟩)
      go_ret
      exact ⟨rfl, rfl⟩

set_option maxHeartbeats 400000 in
theorem is_any (a : Nat) (b : Int) (w : World) (h : U64 a) (h' : U64 b) :
    Calls Try.prog 10 #[.float .f64 a, .int .u64 b] w fun e w' => e = .returned (.bool (sameB a b)) ∧ w' = w := by
  go_enter Try.func10, Try.ntmps10
  go_wp2_with (first | (go_at_call 9; refine (bits_any _ _).mono ?_; rintro e w' ⟨rfl, rfl⟩) | (go_at_call 34; refine (refSame_any _ _ _ h h').mono ?_; rintro e w' ⟨rfl, rfl⟩))
  go_ret
  exact ⟨rfl, rfl⟩

theorem rank_nan {u : Int} (h : nanB u = true) : rankI u = 0 := by simp [rankI, h]
theorem rank_neg {u : Int} (h : nanB u = false) (h' : sgB u = true) : rankI u = -szI u := by simp [rankI, h, h']
theorem rank_pos {u : Int} (h : nanB u = false) (h' : sgB u = false) : rankI u = szI u := by simp [rankI, h, h']

theorem signed_as (b : Nat) (u : Int) (w : World) (hu : Hid (u = b)) (h : U64 u) :
    Calls Try.prog 94 #[.float .f64 b] w fun e w' => e = .returned (.bool (sgB u)) ∧ w' = w := by
  have e := hu.out; subst e; exact signed_any b w h

set_option maxHeartbeats 400000 in
theorem refRank_any (u : Int) (w : World) (h : U64 u) :
    Calls Try.prog 44 #[.int .u64 u] w fun e w' => e = .returned (.tuple #[.int .i64 (rankI u), .bool (!nanB u)]) ∧ w' = w := by
  cases h1 : nanB u
  · cases h2 : sgB u
    · have h3 : u < 9223372036854775808 := by simpa [sgB] using h2
      have h4 : 0 ≤ u := h.1
      rw [rank_pos h1 h2, szI_of_pos h h2]
      clear h2
      go_enter Try.func44, Try.ntmps44
      go_wp2_with (go_at_call 47; refine (refNaN_any _ _ h).mono ?_; rintro e w' ⟨rfl, rfl⟩)
      go_ret2
      exact ⟨rfl, rfl⟩
    · have h3 : 9223372036854775808 ≤ u := by simpa [sgB] using h2
      have h4 : u < 18446744073709551616 := h.2
      rw [rank_neg h1 h2, szI_of_neg h h2]
      clear h2
      go_enter Try.func44, Try.ntmps44
      go_wp2_with (go_at_call 47; refine (refNaN_any _ _ h).mono ?_; rintro e w' ⟨rfl, rfl⟩)
      go_ret2
      exact ⟨rfl, rfl⟩
  · rw [rank_nan h1]
    go_enter Try.func44, Try.ntmps44
    go_wp2_with (go_at_call 47; refine (refNaN_any _ _ h).mono ?_; rintro e w' ⟨rfl, rfl⟩)
    go_ret2
    exact ⟨rfl, rfl⟩

end Go.Proofs.Ytbkmbdbjeiffpaa
namespace Go.Proofs.Ytbkmbdbjeiffpaa
open Go.RowKit

theorem or_sg' {u : Int} (h0 : 0 ≤ u) (h : u < 9223372036854775808) : (bits .or .u64 u 9223372036854775808).toNat = (9223372036854775808 + u).toNat := by rw [or_sg h0 h]

set_option maxHeartbeats 400000 in
theorem withSign_pos (u : Int) (w : World) :
    Calls Try.prog 95 #[.int .u64 u, .bool false] w fun e w' => e = .returned (.float .f64 u.toNat) ∧ w' = w := by
  go_enter Try.func95, Try.ntmps95
  go_wp2_with (go_at_call 99; refine (float_any _ _).mono ?_; rintro e w' ⟨rfl, rfl⟩)
  go_ret
  exact ⟨rfl, rfl⟩

set_option maxHeartbeats 400000 in
theorem withSign_neg (u : Int) (w : World) (h0 : 0 ≤ u) (h : u < 9223372036854775808) :
    Calls Try.prog 95 #[.int .u64 u, .bool true] w fun e w' => e = .returned (.float .f64 (9223372036854775808 + u).toNat) ∧ w' = w := by
  go_enter Try.func95, Try.ntmps95
  go_wp2_with (go_at_call 99; refine (float_any _ _).mono ?_; rintro e w' ⟨rfl, rfl⟩)
  go_ret
  exact ⟨ret_f64 (or_sg' h0 h), rfl⟩

theorem atI_no {n : Int} (h : atOk n = false) : atI n = 0 := by simp [atI, h]
theorem atI_neg {n : Int} (h : atOk n = true) (h' : n < 0) : atI n = 9223372036854775808 - n := by simp [atI, h, h']
theorem atI_pos {n : Int} (h : atOk n = true) (h' : 0 ≤ n) : atI n = n := by simp [atI, h, Int.not_lt.2 h']
theorem atOk_iff (n : Int) : atOk n = true ↔ -9218868437227405312 ≤ n ∧ n ≤ 9218868437227405312 := by simp [atOk]
theorem atOk_not {n : Int} (h : atOk n = false) : n < -9218868437227405312 ∨ 9218868437227405312 < n := by
  simp only [atOk, decide_eq_false_iff_not] at h; omega
theorem ret_at {a b : Nat} {c : Bool} (h : a = b) : Ending.returned (.tuple #[.float .f64 a, .bool c]) = .returned (.tuple #[.float .f64 b, .bool c]) := by rw [h]
theorem ret_atu {a b : Int} {c : Bool} (h : a = b) : Ending.returned (.tuple #[.int .u64 a, .bool c]) = .returned (.tuple #[.int .u64 b, .bool c]) := by rw [h]

/-- The middle of two ranks, as both texts write it. -/
def midI (a b : Int) : Int := wrap64 (a / 2 + b / 2 + bits .and .i64 (bits .and .i64 a b) 1)
def upI (u d : Int) : Int := if nanB u then u else if atOk (wrap64 (rankI u + d)) then atI (wrap64 (rankI u + d)) else u

theorem rank_lo (u : Int) : -9218868437227405312 ≤ rankI u := by
  unfold rankI nanB; have := szI_lo u
  split
  · omega
  · rename_i h; simp only [decide_eq_true_eq] at h; split <;> omega
theorem rank_hi (u : Int) : rankI u ≤ 9218868437227405312 := by
  unfold rankI nanB; have := szI_lo u
  split
  · omega
  · rename_i h; simp only [decide_eq_true_eq] at h; split <;> omega

/-- What the document's answer tells there: of a NaN its own NaN. -/
def refUpI (u d : Int) : Int := if nanB u then 9221120237041090561 else upI u d

end Go.Proofs.Ytbkmbdbjeiffpaa
