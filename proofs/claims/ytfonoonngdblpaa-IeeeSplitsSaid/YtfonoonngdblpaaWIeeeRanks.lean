/- The walk of IeeeRanks. -/
import Derived.Test.YtfonoonngdblpaaAwake
namespace Go.Proofs.Ytfonoonngdblpaa
open Go.RowKit

theorem is_at (a : Nat) (b : Int) (w : World) (ha : Hid ((a : Int) = b)) (h : U64 b) :
    Calls Try.prog 21 #[.float .f64 a, .int .u64 b] w fun e w' => e = .returned (.bool true) ∧ w' = w := by
  have e := ha.out; subst e
  have := is_any a a w h h
  rw [sameB_refl] at this; exact this
theorem atI_toNat (n : Int) : Hid (((atI n).toNat : Int) = atI n) := Int.toNat_of_nonneg (atI_u64 n).1

set_option maxHeartbeats 400000 in
theorem ieeeRanks_walk (x : Nat) (n : Int) (wx : (Lit.float .f64 x).wf = true) (_wn : (Lit.int .i64 n).wf = true) (w : World) :
    Calls Try.prog 4 #[.float .f64 x, .int .i64 n] w fun e w' => e = .returned (.bool true) ∧ Grown w w' := by
  have hx := u64_of_wf wx
  clear wx _wn
  cases h1 : nanB x <;> cases h2 : atOk n
  all_goals
    go_enter Try.func4, Try.ntmps4
    go_wp2_with (first | (go_at_call 8; refine (bits_any _ _).mono ?_; rintro e w' ⟨rfl, rfl⟩) | (go_at_call 17; refine (rank_any _ _ hx).mono ?_; rintro e w' ⟨rfl, rfl⟩) | (go_at_call 18; refine (refRank_any _ _ hx).mono ?_; rintro e w' ⟨rfl, rfl⟩) | (go_at_call 19; refine (at_any _ _).mono ?_; rintro e w' ⟨rfl, rfl⟩) | (go_at_call 20; refine (refAt_any _ _).mono ?_; rintro e w' ⟨rfl, rfl⟩) | (go_at_call 21; refine (is_at _ _ _ (atI_toNat _) (atI_u64 _)).mono ?_; rintro e w' ⟨rfl, rfl⟩) | (go_at_call 16; refine (awake_true _).mono ?_; rintro e w' ⟨rfl, nq, rfl⟩))
    go_ret
    exact ⟨rfl, grown_drewN _ _⟩

end Go.Proofs.Ytfonoonngdblpaa
