/- The contracts of Mid, Gap, Up, Down, of the program and of the document's answer. -/
import Derived.Test.YtfonoonngdblpaaSteps2
namespace Go.Proofs.Ytfonoonngdblpaa
open Go.RowKit

set_option maxHeartbeats 400000 in
theorem up_as (a : Nat) (u : Int) (w : World) (hu : Hid (u = a)) (h : U64 u) :
    Calls Try.prog 26 #[.float .f64 a] w fun e w' => e = .returned (.float .f64 (upI u 1).toNat) ∧ w' = w := by
  go_enter Try.func26, Try.ntmps26
  go_wp2_with (go_at_call 47; refine (beside_as _ _ _ _ hu h).mono ?_; rintro e w' ⟨rfl, rfl⟩)
  go_ret
  exact ⟨rfl, rfl⟩

set_option maxHeartbeats 400000 in
theorem down_as (a : Nat) (u : Int) (w : World) (hu : Hid (u = a)) (h : U64 u) :
    Calls Try.prog 28 #[.float .f64 a] w fun e w' => e = .returned (.float .f64 (upI u (-1)).toNat) ∧ w' = w := by
  go_enter Try.func28, Try.ntmps28
  go_wp2_with (go_at_call 47; refine (beside_as _ _ _ _ hu h).mono ?_; rintro e w' ⟨rfl, rfl⟩)
  go_ret
  exact ⟨rfl, rfl⟩

set_option maxHeartbeats 400000 in
theorem refUp_any (u : Int) (w : World) (h : U64 u) :
    Calls Try.prog 27 #[.int .u64 u] w fun e w' => e = .returned (.int .u64 (refUpI u 1)) ∧ w' = w := by
  go_enter Try.func27, Try.ntmps27
  go_wp2_with (go_at_call 48; refine (refNext_any _ _ _ h).mono ?_; rintro e w' ⟨rfl, rfl⟩)
  go_ret
  exact ⟨rfl, rfl⟩

set_option maxHeartbeats 400000 in
theorem refDown_any (u : Int) (w : World) (h : U64 u) :
    Calls Try.prog 29 #[.int .u64 u] w fun e w' => e = .returned (.int .u64 (refUpI u (-1))) ∧ w' = w := by
  go_enter Try.func29, Try.ntmps29
  go_wp2_with (go_at_call 48; refine (refNext_any _ _ _ h).mono ?_; rintro e w' ⟨rfl, rfl⟩)
  go_ret
  exact ⟨rfl, rfl⟩

def midOk (u v : Int) : Bool := !nanB u && !nanB v && atOk (midI (rankI u) (rankI v))
def midA (u v : Int) : Int := if !nanB u && !nanB v then atI (midI (rankI u) (rankI v)) else 0

set_option maxHeartbeats 400000 in
theorem mid_as (a b : Nat) (u v : Int) (w : World) (hu : Hid (u = a)) (hv : Hid (v = b)) (h : U64 u) (h' : U64 v) :
    Calls Try.prog 22 #[.float .f64 a, .float .f64 b] w fun e w' => e = .returned (.tuple #[.float .f64 (midA u v).toNat, .bool (midOk u v)]) ∧ w' = w := by
  have hl := rank_lo u
  have hh := rank_hi u
  have hl' := rank_lo v
  have hh' := rank_hi v
  cases h1 : nanB u
  · cases h2 : nanB v
    · have e1 : Hid (midA u v = atI (midI (rankI u) (rankI v))) := by show _ = _; simp [midA, h1, h2]
      have e2 : Hid (midOk u v = atOk (midI (rankI u) (rankI v))) := by show _ = _; simp [midOk, h1, h2]
      rw [e1.out, e2.out]
      go_enter Try.func22, Try.ntmps22
      go_wp2_with (first | (go_at_call 46; refine (ranks_as _ _ _ _ _ hu hv h h').mono ?_; rintro e w' ⟨rfl, rfl⟩) | (go_at_call 19; refine (at_any _ _).mono ?_; rintro e w' ⟨rfl, rfl⟩))
      go_ret2
      exact ⟨rfl, rfl⟩
    · have e1 : Hid (midA u v = 0) := by show _ = _; simp [midA, h2]
      have e2 : Hid (midOk u v = false) := by show _ = _; simp [midOk, h2]
      rw [e1.out, e2.out]
      go_enter Try.func22, Try.ntmps22
      go_wp2_with (go_at_call 46; refine (ranks_as _ _ _ _ _ hu hv h h').mono ?_; rintro e w' ⟨rfl, rfl⟩)
      go_ret2
      exact ⟨rfl, rfl⟩
  · have e1 : Hid (midA u v = 0) := by show _ = _; simp [midA, h1]
    have e2 : Hid (midOk u v = false) := by show _ = _; simp [midOk, h1]
    rw [e1.out, e2.out]
    go_enter Try.func22, Try.ntmps22
    go_wp2_with (go_at_call 46; refine (ranks_as _ _ _ _ _ hu hv h h').mono ?_; rintro e w' ⟨rfl, rfl⟩)
    go_ret2
    exact ⟨rfl, rfl⟩

theorem ret_midu {n m : Int} {c d : Bool} (h : n = m) (h' : c = d) : Ending.returned (.tuple #[.int .u64 n, .bool c]) = .returned (.tuple #[.int .u64 m, .bool d]) := by rw [h, h']

set_option maxHeartbeats 400000 in
theorem refMid_any (u v : Int) (w : World) (h : U64 u) (h' : U64 v) :
    Calls Try.prog 23 #[.int .u64 u, .int .u64 v] w fun e w' => e = .returned (.tuple #[.int .u64 (midA u v), .bool (midOk u v)]) ∧ w' = w := by
  have hl := rank_lo u
  have hh := rank_hi u
  have hl' := rank_lo v
  have hh' := rank_hi v
  cases h1 : nanB u
  · cases h2 : nanB v
    · have e1 : Hid (midA u v = atI (midI (rankI u) (rankI v))) := by show _ = _; simp [midA, h1, h2]
      have e2 : Hid (midOk u v = atOk (midI (rankI u) (rankI v))) := by show _ = _; simp [midOk, h1, h2]
      rw [e1.out, e2.out]
      go_enter Try.func23, Try.ntmps23
      go_wp2_with fail
      refine (refRank_any _ _ h).mono ?_
      rintro e w' ⟨rfl, rfl⟩
      go_wp2_with (first | (go_at_call 18; refine (refRank_any _ _ h').mono ?_; rintro e w' ⟨rfl, rfl⟩) | (go_at_call 20; refine (refAt_any _ _).mono ?_; rintro e w' ⟨rfl, rfl⟩))
      go_ret2
      exact ⟨rfl, rfl⟩
    · have e1 : Hid (midA u v = 0) := by show _ = _; simp [midA, h2]
      have e2 : Hid (midOk u v = false) := by show _ = _; simp [midOk, h2]
      rw [e1.out, e2.out]
      go_enter Try.func23, Try.ntmps23
      go_wp2_with fail
      refine (refRank_any _ _ h).mono ?_
      rintro e w' ⟨rfl, rfl⟩
      go_wp2_with (go_at_call 18; refine (refRank_any _ _ h').mono ?_; rintro e w' ⟨rfl, rfl⟩)
      go_ret2
      exact ⟨rfl, rfl⟩
  · have e1 : Hid (midA u v = 0) := by show _ = _; simp [midA, h1]
    have e2 : Hid (midOk u v = false) := by show _ = _; simp [midOk, h1]
    rw [e1.out, e2.out]
    go_enter Try.func23, Try.ntmps23
    go_wp2_with fail
    refine (refRank_any _ _ h).mono ?_
    rintro e w' ⟨rfl, rfl⟩
    go_wp2_with (go_at_call 18; refine (refRank_any _ _ h').mono ?_; rintro e w' ⟨rfl, rfl⟩)
    go_ret2
    exact ⟨rfl, rfl⟩

def gapI (u v : Int) : Int := if !nanB u && !nanB v then (if rankI u < rankI v then IntKind.u64.wrap (IntKind.u64.wrap (rankI v) - IntKind.u64.wrap (rankI u)) else IntKind.u64.wrap (IntKind.u64.wrap (rankI u) - IntKind.u64.wrap (rankI v))) else 0
def bothB (u v : Int) : Bool := !nanB u && !nanB v

set_option maxHeartbeats 400000 in
theorem gap_as (a b : Nat) (u v : Int) (w : World) (hu : Hid (u = a)) (hv : Hid (v = b)) (h : U64 u) (h' : U64 v) :
    Calls Try.prog 24 #[.float .f64 a, .float .f64 b] w fun e w' => e = .returned (.tuple #[.int .u64 (gapI u v), .bool (bothB u v)]) ∧ w' = w := by
  cases h1 : nanB u
  · cases h2 : nanB v
    · have e2 : Hid (bothB u v = true) := by show _ = _; simp [bothB, h1, h2]
      rw [e2.out]
      by_cases h3 : rankI u < rankI v
      · have e1 : Hid (gapI u v = IntKind.u64.wrap (IntKind.u64.wrap (rankI v) - IntKind.u64.wrap (rankI u))) := by show _ = _; simp [gapI, h1, h2, h3]
        rw [e1.out]
        go_enter Try.func24, Try.ntmps24
        go_wp2_with (go_at_call 46; refine (ranks_as _ _ _ _ _ hu hv h h').mono ?_; rintro e w' ⟨rfl, rfl⟩)
        go_ret2
        exact ⟨rfl, rfl⟩
      · have e1 : Hid (gapI u v = IntKind.u64.wrap (IntKind.u64.wrap (rankI u) - IntKind.u64.wrap (rankI v))) := by show _ = _; simp [gapI, h1, h2, h3]
        rw [e1.out]
        go_enter Try.func24, Try.ntmps24
        go_wp2_with (go_at_call 46; refine (ranks_as _ _ _ _ _ hu hv h h').mono ?_; rintro e w' ⟨rfl, rfl⟩)
        all_goals go_ret2
        · exact ⟨rfl, rfl⟩
        · exact ⟨ret_midu (by rw [show rankI u = rankI v by omega, Int.sub_self]) rfl, rfl⟩
    · have e1 : Hid (gapI u v = 0) := by show _ = _; simp [gapI, h2]
      have e2 : Hid (bothB u v = false) := by show _ = _; simp [bothB, h2]
      rw [e1.out, e2.out]
      go_enter Try.func24, Try.ntmps24
      go_wp2_with (go_at_call 46; refine (ranks_as _ _ _ _ _ hu hv h h').mono ?_; rintro e w' ⟨rfl, rfl⟩)
      go_ret2
      exact ⟨rfl, rfl⟩
  · have e1 : Hid (gapI u v = 0) := by show _ = _; simp [gapI, h1]
    have e2 : Hid (bothB u v = false) := by show _ = _; simp [bothB, h1]
    rw [e1.out, e2.out]
    go_enter Try.func24, Try.ntmps24
    go_wp2_with (go_at_call 46; refine (ranks_as _ _ _ _ _ hu hv h h').mono ?_; rintro e w' ⟨rfl, rfl⟩)
    go_ret2
    exact ⟨rfl, rfl⟩

set_option maxHeartbeats 400000 in
theorem refGap_any (u v : Int) (w : World) (h : U64 u) (h' : U64 v) :
    Calls Try.prog 25 #[.int .u64 u, .int .u64 v] w fun e w' => e = .returned (.tuple #[.int .u64 (gapI u v), .bool (bothB u v)]) ∧ w' = w := by
  cases h1 : nanB u
  · cases h2 : nanB v
    · have e2 : Hid (bothB u v = true) := by show _ = _; simp [bothB, h1, h2]
      rw [e2.out]
      by_cases h3 : rankI u < rankI v
      · have e1 : Hid (gapI u v = IntKind.u64.wrap (IntKind.u64.wrap (rankI v) - IntKind.u64.wrap (rankI u))) := by show _ = _; simp [gapI, h1, h2, h3]
        rw [e1.out]
        go_enter Try.func25, Try.ntmps25
        go_wp2_with fail
        refine (refRank_any _ _ h).mono ?_
        rintro e w' ⟨rfl, rfl⟩
        go_wp2_with (go_at_call 18; refine (refRank_any _ _ h').mono ?_; rintro e w' ⟨rfl, rfl⟩)
        go_ret2
        exact ⟨rfl, rfl⟩
      · have e1 : Hid (gapI u v = IntKind.u64.wrap (IntKind.u64.wrap (rankI u) - IntKind.u64.wrap (rankI v))) := by show _ = _; simp [gapI, h1, h2, h3]
        rw [e1.out]
        go_enter Try.func25, Try.ntmps25
        go_wp2_with fail
        refine (refRank_any _ _ h).mono ?_
        rintro e w' ⟨rfl, rfl⟩
        go_wp2_with (go_at_call 18; refine (refRank_any _ _ h').mono ?_; rintro e w' ⟨rfl, rfl⟩)
        go_ret2
        exact ⟨rfl, rfl⟩
    · have e1 : Hid (gapI u v = 0) := by show _ = _; simp [gapI, h2]
      have e2 : Hid (bothB u v = false) := by show _ = _; simp [bothB, h2]
      rw [e1.out, e2.out]
      go_enter Try.func25, Try.ntmps25
      go_wp2_with fail
      refine (refRank_any _ _ h).mono ?_
      rintro e w' ⟨rfl, rfl⟩
      go_wp2_with (go_at_call 18; refine (refRank_any _ _ h').mono ?_; rintro e w' ⟨rfl, rfl⟩)
      go_ret2
      exact ⟨rfl, rfl⟩
  · have e1 : Hid (gapI u v = 0) := by show _ = _; simp [gapI, h1]
    have e2 : Hid (bothB u v = false) := by show _ = _; simp [bothB, h1]
    rw [e1.out, e2.out]
    go_enter Try.func25, Try.ntmps25
    go_wp2_with fail
    refine (refRank_any _ _ h).mono ?_
    rintro e w' ⟨rfl, rfl⟩
    go_wp2_with (go_at_call 18; refine (refRank_any _ _ h').mono ?_; rintro e w' ⟨rfl, rfl⟩)
    go_ret2
    exact ⟨rfl, rfl⟩

end Go.Proofs.Ytfonoonngdblpaa
