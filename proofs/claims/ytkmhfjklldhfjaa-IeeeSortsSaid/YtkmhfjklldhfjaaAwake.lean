/- The closed look of every statement of this layer: the document's fixed answers. -/
import Derived.Test.YtkmhfjklldhfjaaSteps3
import Derived.Test.YtkmhfjklldhfjaaShelf
import Derived.BigQuiet
namespace Go.Proofs.Ytkmhfjklldhfjaa
open Go.RowKit

theorem lead_at (x : Int) (k : Int) (w : World) (h0 : 0 ≤ x) (h1 : x ≤ 18446744073709551615) (hk : Hid (64 - (Lib.bitLen x.toNat : Int) = k)) :
    Calls Try.prog 51 #[.int .u64 x] w fun e w' => e = .returned (.int .i64 k) ∧ w' = w := by
  rw [← hk.out]; exact Try.bits_LeadingZeros64 x w h0 h1

set_option maxHeartbeats 400000 in
theorem shiftNear3 (w : World) :
    Calls Try.prog 52 #[.int .u64 13835058055282163712, .int .i64 63] w fun e w' => e = .returned (.int .u64 2) ∧ ∃ n, w' = w.drewN n := by
  have hb : bits .and .u64 1 1 = 1 := by decide
  go_enter Try.func52, Try.ntmps52
  go_wp2
  go_quiet (fail)
  go_wp2
  go_ret
  exact ⟨rfl, _, rfl⟩

set_option maxRecDepth 100000 in
set_option maxHeartbeats 400000 in
theorem join3 (w : World) :
    Calls Try.prog 26 #[.int .i64 3, .int .i64 (-1075)] w fun e w' => e = .returned (.float .f64 2) ∧ ∃ n, w' = w.drewN n := by
  have hb := call_frombits
  go_enter Try.func26, Try.ntmps26
  go_wp2_with (first | (go_at_call 51; refine (lead_at _ 62 _ (by omega) (by omega) (by show _ = _; decide)).mono ?_; rintro e w' ⟨rfl, rfl⟩) | (go_at_call 39; go_in) | (go_at_call 52; refine (shiftNear3 _).mono ?_; rintro e w' ⟨rfl, nq, rfl⟩) | (go_at_call 38; refine (withSign_pos _ _).mono ?_; rintro e w' ⟨rfl, rfl⟩))
  go_ret
  exact ⟨rfl, _, rfl⟩

theorem rank1 (w : World) :
    Calls Try.prog 22 #[.float .f64 4607182418800017408] w fun e w' => e = .returned (.tuple #[.int .i64 4607182418800017408, .bool true]) ∧ w' = w :=
  rank_as 4607182418800017408 4607182418800017408 w rfl (by unfold U64; omega)
theorem mid12 (w : World) :
    Calls Try.prog 23 #[.float .f64 4607182418800017408, .float .f64 4611686018427387904] w fun e w' => e = .returned (.tuple #[.float .f64 4609434218613702656, .bool true]) ∧ w' = w := by
  have h := mid_as 4607182418800017408 4611686018427387904 4607182418800017408 4611686018427387904 w rfl rfl (by unfold U64; omega) (by unfold U64; omega)
  have e1 : (midA 4607182418800017408 4611686018427387904).toNat = 4609434218613702656 := by kernel_rfl
  have e2 : midOk 4607182418800017408 4611686018427387904 = true := by kernel_rfl
  rw [e1, e2] at h; exact h
theorem class1 (w : World) :
    Calls Try.prog 24 #[.float .f64 4607182418800017408] w fun e w' => e = .returned (.int .i64 3) ∧ w' = w :=
  class_as 4607182418800017408 4607182418800017408 w rfl (by unfold U64; omega)
theorem up1 (w : World) :
    Calls Try.prog 25 #[.float .f64 4607182418800017408] w fun e w' => e = .returned (.float .f64 4607182418800017409) ∧ w' = w := by
  have h := up_as 4607182418800017408 4607182418800017408 w rfl (by unfold U64; omega)
  have e1 : (upI 4607182418800017408 1).toNat = 4607182418800017409 := by kernel_rfl
  rw [e1] at h; exact h

set_option maxHeartbeats 400000 in
theorem single_at (b r : Nat) (w : World) (h : Hid (floatToFloatBits .f64 b .f32 = some r)) :
    Calls Try.prog 27 #[.float .f64 b] w fun e w' => e = .returned (.float .f32 r) ∧ w' = w := by
  have hc := fun w => run_convert_float_float (P := Try.prog) w 23 48 .f64 .f32 b r (by kernel_rfl) Try.underlying48 h.out
  go_enter Try.func27, Try.ntmps27
  go_wp2
  go_ret
  exact ⟨rfl, rfl⟩

set_option maxHeartbeats 400000 in
theorem awake_true (w : World) :
    Calls Try.prog 12 #[] w fun e w' => e = .returned (.bool true) ∧ ∃ n, w' = w.drewN n := by
  have o1 : (FloatKind.f64.format.order 4609434218613702656 4609434218613702656 == some .eq) = true := by decide
  have o2 : (FloatKind.f64.format.order 4607182418800017409 4607182418800017409 == some .eq) = true := by decide
  have o3 : (FloatKind.f64.format.order 2 2 == some .eq) = true := by decide
  have o4 : (FloatKind.f32.format.order 1036831949 1036831949 == some .eq) = true := by decide
  go_enter Try.func12, Try.ntmps12
  go_wp2_with (first | (go_at_call 22; refine (rank1 _).mono ?_; rintro e w' ⟨rfl, rfl⟩) | (go_at_call 23; refine (mid12 _).mono ?_; rintro e w' ⟨rfl, rfl⟩) | (go_at_call 24; refine (class1 _).mono ?_; rintro e w' ⟨rfl, rfl⟩) | (go_at_call 25; refine (up1 _).mono ?_; rintro e w' ⟨rfl, rfl⟩) | (go_at_call 26; refine (join3 _).mono ?_; rintro e w' ⟨rfl, nq, rfl⟩) | (go_at_call 27; refine (single_at _ 1036831949 _ (by show _ = _; decide)).mono ?_; rintro e w' ⟨rfl, rfl⟩))
  go_ret
  exact ⟨rfl, _, rfl⟩

theorem u64_of_wf {b : Nat} (h : (Lit.float .f64 b).wf = true) : U64 b := by
  simp only [Lit.wf, decide_eq_true_eq] at h
  exact ⟨by omega, by omega⟩
theorem grown_drewN (w : World) (n : Nat) : Grown w (w.drewN n) := Grown.refl w
end Go.Proofs.Ytkmhfjklldhfjaa
