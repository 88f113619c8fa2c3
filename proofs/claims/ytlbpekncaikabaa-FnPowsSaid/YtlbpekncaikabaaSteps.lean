/- The contracts of Class, Negative, Same, Rank, At, Mid, Gap, Up and Down, of the program and of the document's answer. -/
import Derived.Test.YtlbpekncaikabaaLeaf
namespace Go.Proofs.Ytlbpekncaikabaa
open Go.RowKit

theorem size_as (b : Nat) (u : Int) (w : World) (hu : Hid (u = b)) (h : U64 u) :
    Calls Try.prog 55 #[.float .f64 b] w fun e w' => e = .returned (.int .u64 (szI u)) ∧ w' = w := by
  have e := hu.out; subst e; exact size_any b w h

set_option maxHeartbeats 400000 in
theorem refSame_any (a b : Int) (w : World) (h : U64 a) (h' : U64 b) :
    Calls Try.prog 22 #[.int .u64 a, .int .u64 b] w fun e w' => e = .returned (.bool (sameB a b)) ∧ w' = w := by
  by_cases h0 : a = b
  · have hb : (a == b) = true := by simpa using h0
    clear h0
    have hs : Hid (sameB a b = true) := by
      have : a = b := by simpa using hb
      subst this; exact sameB_refl a
    rw [hs.out]
    go_enter Try.func22, Try.ntmps22
    go_wp2
    go_ret
    exact ⟨rfl, rfl⟩
  · have hb : (a == b) = false := by simpa using h0
    have hs : Hid (sameB a b = (nanB a && nanB b)) := by show sameB a b = _; simp [sameB, h0]
    clear h0
    rw [hs.out]
    cases h1 : nanB a <;> cases h2 : nanB b
    all_goals
      go_enter Try.func22, Try.ntmps22
      go_wp2_with fail
      refine (refNaN_any _ _ h).mono ?_
      rintro e w' ⟨rfl, rfl⟩
      go_wp2_with (go_at_call 30; refine (refNaN_any _ _ h').mono ?_; rintro e w' ⟨rfl, rfl⟩)
      go_ret
      exact ⟨rfl, rfl⟩

set_option maxHeartbeats 400000 in
theorem is_any (a : Nat) (b : Int) (w : World) (h : U64 a) (h' : U64 b) :
    Calls Try.prog 9 #[.float .f64 a, .int .u64 b] w fun e w' => e = .returned (.bool (sameB a b)) ∧ w' = w := by
  go_enter Try.func9, Try.ntmps9
  go_wp2_with (first | (go_at_call 12; refine (bits_any _ _).mono ?_; rintro e w' ⟨rfl, rfl⟩) | (go_at_call 22; refine (refSame_any _ _ _ h h').mono ?_; rintro e w' ⟨rfl, rfl⟩))
  go_ret
  exact ⟨rfl, rfl⟩

theorem rank_nan {u : Int} (h : nanB u = true) : rankI u = 0 := by simp [rankI, h]
theorem rank_neg {u : Int} (h : nanB u = false) (h' : sgB u = true) : rankI u = -szI u := by simp [rankI, h, h']
theorem rank_pos {u : Int} (h : nanB u = false) (h' : sgB u = false) : rankI u = szI u := by simp [rankI, h, h']

theorem signed_as (b : Nat) (u : Int) (w : World) (hu : Hid (u = b)) (h : U64 u) :
    Calls Try.prog 56 #[.float .f64 b] w fun e w' => e = .returned (.bool (sgB u)) ∧ w' = w := by
  have e := hu.out; subst e; exact signed_any b w h

set_option maxHeartbeats 400000 in
theorem refRank_any (u : Int) (w : World) (h : U64 u) :
    Calls Try.prog 59 #[.int .u64 u] w fun e w' => e = .returned (.tuple #[.int .i64 (rankI u), .bool (!nanB u)]) ∧ w' = w := by
  cases h1 : nanB u
  · cases h2 : sgB u
    · have h3 : u < 9223372036854775808 := by simpa [sgB] using h2
      have h4 : 0 ≤ u := h.1
      rw [rank_pos h1 h2, szI_of_pos h h2]
      clear h2
      go_enter Try.func59, Try.ntmps59
      go_wp2_with (go_at_call 30; refine (refNaN_any _ _ h).mono ?_; rintro e w' ⟨rfl, rfl⟩)
      go_ret2
      exact ⟨rfl, rfl⟩
    · have h3 : 9223372036854775808 ≤ u := by simpa [sgB] using h2
      have h4 : u < 18446744073709551616 := h.2
      rw [rank_neg h1 h2, szI_of_neg h h2]
      clear h2
      go_enter Try.func59, Try.ntmps59
      go_wp2_with (go_at_call 30; refine (refNaN_any _ _ h).mono ?_; rintro e w' ⟨rfl, rfl⟩)
      go_ret2
      exact ⟨rfl, rfl⟩
  · rw [rank_nan h1]
    go_enter Try.func59, Try.ntmps59
    go_wp2_with (go_at_call 30; refine (refNaN_any _ _ h).mono ?_; rintro e w' ⟨rfl, rfl⟩)
    go_ret2
    exact ⟨rfl, rfl⟩

end Go.Proofs.Ytlbpekncaikabaa
