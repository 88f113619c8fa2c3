/- The walk of IeeeClasses. -/
import Derived.Test.YtfonoonngdblpaaAwake
namespace Go.Proofs.Ytfonoonngdblpaa
open Go.RowKit

set_option maxHeartbeats 400000 in
theorem ieeeClasses_walk (x y : Nat) (wx : (Lit.float .f64 x).wf = true) (wy : (Lit.float .f64 y).wf = true) (w : World) :
    Calls Try.prog 3 #[.float .f64 x, .float .f64 y] w fun e w' => e = .returned (.bool true) ∧ Grown w w' := by
  have hx := u64_of_wf wx
  have hy := u64_of_wf wy
  clear wx wy
  cases h1 : sgB x <;> cases h2 : nanB x
  all_goals
    go_enter Try.func3, Try.ntmps3
    go_wp2_with (first | (go_at_call 8; refine (bits_any _ _).mono ?_; rintro e w' ⟨rfl, rfl⟩) | (go_at_call 9; refine (refNegative_any _ _).mono ?_; rintro e w' ⟨rfl, rfl⟩) | (go_at_call 10; refine (refNaN_any _ _ hx).mono ?_; rintro e w' ⟨rfl, rfl⟩) | (go_at_call 11; refine (class_any _ _ hx).mono ?_; rintro e w' ⟨rfl, rfl⟩) | (go_at_call 12; refine (refClass_any _ _ hx).mono ?_; rintro e w' ⟨rfl, rfl⟩) | (go_at_call 13; refine (negative_any _ _ hx).mono ?_; rintro e w' ⟨rfl, rfl⟩) | (go_at_call 14; refine (same_any _ _ _ hx hy).mono ?_; rintro e w' ⟨rfl, rfl⟩) | (go_at_call 15; refine (refSame_any _ _ _ hx hy).mono ?_; rintro e w' ⟨rfl, rfl⟩) | (go_at_call 16; refine (awake_true _).mono ?_; rintro e w' ⟨rfl, nq, rfl⟩))
    go_ret
    exact ⟨rfl, grown_drewN _ _⟩

end Go.Proofs.Ytfonoonngdblpaa
