/- The contracts of At, Up, Down, Mid, Gap, of the program and of the document's answer. -/
import Derived.Test.YtkmhfjklldhfjaaSteps
namespace Go.Proofs.Ytkmhfjklldhfjaa
open Go.RowKit

theorem or_sg' {u : Int} (h0 : 0 ≤ u) (h : u < 9223372036854775808) : (bits .or .u64 u 9223372036854775808).toNat = (9223372036854775808 + u).toNat := by rw [or_sg h0 h]

set_option maxHeartbeats 400000 in
theorem withSign_pos (u : Int) (w : World) :
    Calls Try.prog 38 #[.int .u64 u, .bool false] w fun e w' => e = .returned (.float .f64 u.toNat) ∧ w' = w := by
  go_enter Try.func38, Try.ntmps38
  go_wp2_with (go_at_call 50; refine (float_any _ _).mono ?_; rintro e w' ⟨rfl, rfl⟩)
  go_ret
  exact ⟨rfl, rfl⟩

set_option maxHeartbeats 400000 in
theorem withSign_neg (u : Int) (w : World) (h0 : 0 ≤ u) (h : u < 9223372036854775808) :
    Calls Try.prog 38 #[.int .u64 u, .bool true] w fun e w' => e = .returned (.float .f64 (9223372036854775808 + u).toNat) ∧ w' = w := by
  go_enter Try.func38, Try.ntmps38
  go_wp2_with (go_at_call 50; refine (float_any _ _).mono ?_; rintro e w' ⟨rfl, rfl⟩)
  go_ret
  exact ⟨ret_f64 (or_sg' h0 h), rfl⟩

theorem atI_no {n : Int} (h : atOk n = false) : atI n = 0 := by simp [atI, h]
theorem atI_neg {n : Int} (h : atOk n = true) (h' : n < 0) : atI n = 9223372036854775808 - n := by simp [atI, h, h']
theorem atI_pos {n : Int} (h : atOk n = true) (h' : 0 ≤ n) : atI n = n := by simp [atI, h, Int.not_lt.2 h']
theorem atOk_iff (n : Int) : atOk n = true ↔ -9218868437227405312 ≤ n ∧ n ≤ 9218868437227405312 := by simp [atOk]
theorem atOk_not {n : Int} (h : atOk n = false) : n < -9218868437227405312 ∨ 9218868437227405312 < n := by
  simp only [atOk, decide_eq_false_iff_not] at h; omega
theorem ret_at {a b : Nat} {c : Bool} (h : a = b) : Ending.returned (.tuple #[.float .f64 a, .bool c]) = .returned (.tuple #[.float .f64 b, .bool c]) := by rw [h]
theorem ret_atu {a b : Int} {c : Bool} (h : a = b) : Ending.returned (.tuple #[.int .u64 a, .bool c]) = .returned (.tuple #[.int .u64 b, .bool c]) := by rw [h]

set_option maxHeartbeats 400000 in
theorem at_any (n : Int) (w : World) :
    Calls Try.prog 36 #[.int .i64 n] w fun e w' => e = .returned (.tuple #[.float .f64 (atI n).toNat, .bool (atOk n)]) ∧ w' = w := by
  cases h : atOk n
  · rw [atI_no h]
    have h1 : n < -9218868437227405312 ∨ 9218868437227405312 < n := by
      exact atOk_not h
    clear h
    rcases h1 with h1 | h1
    all_goals
      go_enter Try.func36, Try.ntmps36
      go_wp2_with fail
      go_ret2
      exact ⟨rfl, rfl⟩
  · obtain ⟨h1, h2⟩ := (atOk_iff n).1 h
    by_cases h3 : n < 0
    · rw [atI_neg h h3]
      clear h
      go_enter Try.func36, Try.ntmps36
      go_wp2_with (go_at_call 38; refine (withSign_neg _ _ (by omega) (by omega)).mono ?_; rintro e w' ⟨rfl, rfl⟩)
      go_ret2
      exact ⟨ret_at (by omega), rfl⟩
    · have h4 : 0 ≤ n := by omega
      rw [atI_pos h h4]
      clear h h3
      go_enter Try.func36, Try.ntmps36
      go_wp2_with (go_at_call 38; refine (withSign_pos _ _).mono ?_; rintro e w' ⟨rfl, rfl⟩)
      go_ret2
      exact ⟨rfl, rfl⟩

/-- The middle of two ranks, as both texts write it. -/
def midI (a b : Int) : Int := wrap64 (a / 2 + b / 2 + bits .and .i64 (bits .and .i64 a b) 1)
def upI (u d : Int) : Int := if nanB u then u else if atOk (wrap64 (rankI u + d)) then atI (wrap64 (rankI u + d)) else u

theorem rank_lo (u : Int) : -9218868437227405312 ≤ rankI u := by
  unfold rankI nanB; have := szI_lo u
  split
  · omega
  · rename_i h; simp only [decide_eq_true_eq] at h; split <;> omega
theorem rank_hi (u : Int) : rankI u ≤ 9218868437227405312 := by
  unfold rankI nanB; have := szI_lo u
  split
  · omega
  · rename_i h; simp only [decide_eq_true_eq] at h; split <;> omega

set_option maxHeartbeats 400000 in
theorem ranks_as (a b : Nat) (u v : Int) (w : World) (hu : Hid (u = a)) (hv : Hid (v = b)) (h : U64 u) (h' : U64 v) :
    Calls Try.prog 35 #[.float .f64 a, .float .f64 b] w fun e w' => e = .returned (.tuple #[.int .i64 (rankI u), .int .i64 (rankI v), .bool (!nanB u && !nanB v)]) ∧ w' = w := by
  cases h1 : nanB u <;> cases h2 : nanB v
  all_goals
    go_enter Try.func35, Try.ntmps35
    go_wp2_with fail
    refine (rank_as _ _ _ hu h).mono ?_
    rintro e w' ⟨rfl, rfl⟩
    go_wp2_with (go_at_call 22; refine (rank_as _ _ _ hv h').mono ?_; rintro e w' ⟨rfl, rfl⟩)
    go_ret3
    exact ⟨rfl, rfl⟩

set_option maxHeartbeats 400000 in
theorem beside_as (a : Nat) (u d : Int) (w : World) (hu : Hid (u = a)) (h : U64 u) :
    Calls Try.prog 37 #[.float .f64 a, .int .i64 d] w fun e w' => e = .returned (.float .f64 (upI u d).toNat) ∧ w' = w := by
  cases h1 : nanB u
  · cases h2 : atOk (wrap64 (rankI u + d))
    · have e : Hid ((upI u d).toNat = a) := by show _ = _; have := hu.out; simp [upI, h1, h2]; omega
      rw [e.out]
      go_enter Try.func37, Try.ntmps37
      go_wp2_with (first | (go_at_call 22; refine (rank_as _ _ _ hu h).mono ?_; rintro e w' ⟨rfl, rfl⟩) | (go_at_call 36; refine (at_any _ _).mono ?_; rintro e w' ⟨rfl, rfl⟩))
      go_ret
      exact ⟨rfl, rfl⟩
    · have e : Hid (upI u d = atI (wrap64 (rankI u + d))) := by show _ = _; simp [upI, h1, h2]
      rw [e.out]
      go_enter Try.func37, Try.ntmps37
      go_wp2_with (first | (go_at_call 22; refine (rank_as _ _ _ hu h).mono ?_; rintro e w' ⟨rfl, rfl⟩) | (go_at_call 36; refine (at_any _ _).mono ?_; rintro e w' ⟨rfl, rfl⟩))
      go_ret
      exact ⟨rfl, rfl⟩
  · have e : Hid ((upI u d).toNat = a) := by show _ = _; have := hu.out; simp [upI, h1]; omega
    rw [e.out]
    go_enter Try.func37, Try.ntmps37
    go_wp2_with (go_at_call 22; refine (rank_as _ _ _ hu h).mono ?_; rintro e w' ⟨rfl, rfl⟩)
    go_ret
    exact ⟨rfl, rfl⟩

/-- What the document's answer tells there: of a NaN its own NaN. -/
def refUpI (u d : Int) : Int := if nanB u then 9221120237041090561 else upI u d

end Go.Proofs.Ytkmhfjklldhfjaa
