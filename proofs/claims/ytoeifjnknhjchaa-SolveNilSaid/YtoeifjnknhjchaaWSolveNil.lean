/- The walk of SolveNil. -/
import Derived.Test.YtoeifjnknhjchaaVAw
namespace Go.Proofs.Ytoeifjnknhjchaa
open Go.RowKit

set_option maxHeartbeats 800000 in
theorem root_nil (lo hi : Nat) (w : World) :
    Calls Try.prog 16 #[.nilFunc, .float .f64 lo, .float .f64 hi] w fun e w' => e = .returned (.tuple #[.float .f64 0, .int .i64 0, .int .i64 1]) ∧ w' = w := by
  have hq := eql_nof
  go_enter Try.func16, Try.ntmps16
  go_wp2_with fail
  go_ret3
  exact ⟨rfl, rfl⟩

set_option maxHeartbeats 800000 in
theorem solveNil_walk (lo hi : Nat) (_wl : (Lit.float .f64 lo).wf = true) (_wh : (Lit.float .f64 hi).wf = true) (w : World) :
    Calls Try.prog 7 #[.float .f64 lo, .float .f64 hi] w fun e w' => e = .returned (.bool true) ∧ Below w.heap.size w w' := by
  have HIs : Hid (∀ w, Calls Try.prog 13 #[.float .f64 0, .int .u64 0] w fun e w' => e = .returned (.bool true) ∧ w = w') := fun w => isA 0 0 w (by show U64 _; unfold U64; omega) (by show U64 _; unfold U64; omega) (by show _ = _; decide)
  clear _wl _wh
  go_enter Try.func7, Try.ntmps7
  go_wp2_with fail
  refine (root_nil lo hi _).mono ?_
  rintro e w' ⟨rfl, rfl⟩
  go_wp2_with fail
  refine (HIs.out _).mono ?_
  rintro e w1 ⟨rfl, rfl⟩
  go_wp2_with fail
  refine (awake12 _).mono ?_
  rintro e w2 ⟨rfl, hb⟩
  have HB := hideS hb
  clear hb
  go_wp2_with fail
  go_ret
  exact ⟨rfl, HB.out⟩
end Go.Proofs.Ytoeifjnknhjchaa
