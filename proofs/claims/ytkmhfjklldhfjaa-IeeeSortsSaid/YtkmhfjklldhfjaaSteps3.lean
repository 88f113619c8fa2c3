/- The contracts of Mid, Gap, Up, Down, of the program and of the document's answer. -/
import Derived.Test.YtkmhfjklldhfjaaSteps2
namespace Go.Proofs.Ytkmhfjklldhfjaa
open Go.RowKit

set_option maxHeartbeats 400000 in
theorem up_as (a : Nat) (u : Int) (w : World) (hu : Hid (u = a)) (h : U64 u) :
    Calls Try.prog 25 #[.float .f64 a] w fun e w' => e = .returned (.float .f64 (upI u 1).toNat) ∧ w' = w := by
  go_enter Try.func25, Try.ntmps25
  go_wp2_with (go_at_call 37; refine (beside_as _ _ _ _ hu h).mono ?_; rintro e w' ⟨rfl, rfl⟩)
  go_ret
  exact ⟨rfl, rfl⟩

def midOk (u v : Int) : Bool := !nanB u && !nanB v && atOk (midI (rankI u) (rankI v))
def midA (u v : Int) : Int := if !nanB u && !nanB v then atI (midI (rankI u) (rankI v)) else 0

set_option maxHeartbeats 400000 in
theorem mid_as (a b : Nat) (u v : Int) (w : World) (hu : Hid (u = a)) (hv : Hid (v = b)) (h : U64 u) (h' : U64 v) :
    Calls Try.prog 23 #[.float .f64 a, .float .f64 b] w fun e w' => e = .returned (.tuple #[.float .f64 (midA u v).toNat, .bool (midOk u v)]) ∧ w' = w := by
  have hl := rank_lo u
  have hh := rank_hi u
  have hl' := rank_lo v
  have hh' := rank_hi v
  cases h1 : nanB u
  · cases h2 : nanB v
    · have e1 : Hid (midA u v = atI (midI (rankI u) (rankI v))) := by show _ = _; simp [midA, h1, h2]
      have e2 : Hid (midOk u v = atOk (midI (rankI u) (rankI v))) := by show _ = _; simp [midOk, h1, h2]
      rw [e1.out, e2.out]
      go_enter Try.func23, Try.ntmps23
      go_wp2_with (first | (go_at_call 35; refine (ranks_as _ _ _ _ _ hu hv h h').mono ?_; rintro e w' ⟨rfl, rfl⟩) | (go_at_call 36; refine (at_any _ _).mono ?_; rintro e w' ⟨rfl, rfl⟩))
      go_ret2
      exact ⟨rfl, rfl⟩
    · have e1 : Hid (midA u v = 0) := by show _ = _; simp [midA, h2]
      have e2 : Hid (midOk u v = false) := by show _ = _; simp [midOk, h2]
      rw [e1.out, e2.out]
      go_enter Try.func23, Try.ntmps23
      go_wp2_with (go_at_call 35; refine (ranks_as _ _ _ _ _ hu hv h h').mono ?_; rintro e w' ⟨rfl, rfl⟩)
      go_ret2
      exact ⟨rfl, rfl⟩
  · have e1 : Hid (midA u v = 0) := by show _ = _; simp [midA, h1]
    have e2 : Hid (midOk u v = false) := by show _ = _; simp [midOk, h1]
    rw [e1.out, e2.out]
    go_enter Try.func23, Try.ntmps23
    go_wp2_with (go_at_call 35; refine (ranks_as _ _ _ _ _ hu hv h h').mono ?_; rintro e w' ⟨rfl, rfl⟩)
    go_ret2
    exact ⟨rfl, rfl⟩

theorem ret_midu {n m : Int} {c d : Bool} (h : n = m) (h' : c = d) : Ending.returned (.tuple #[.int .u64 n, .bool c]) = .returned (.tuple #[.int .u64 m, .bool d]) := by rw [h, h']

def gapI (u v : Int) : Int := if !nanB u && !nanB v then (if rankI u < rankI v then IntKind.u64.wrap (IntKind.u64.wrap (rankI v) - IntKind.u64.wrap (rankI u)) else IntKind.u64.wrap (IntKind.u64.wrap (rankI u) - IntKind.u64.wrap (rankI v))) else 0
def bothB (u v : Int) : Bool := !nanB u && !nanB v

end Go.Proofs.Ytkmhfjklldhfjaa
