/- The closed look of every statement of this layer: the document's fixed answers. -/
import Derived.Test.YtlbpekncaikabaaSteps3
import Derived.Test.YtlbpekncaikabaaShelf
import Derived.BigQuiet
namespace Go.Proofs.Ytlbpekncaikabaa
open Go.RowKit

theorem lead_at (x : Int) (k : Int) (w : World) (h0 : 0 ≤ x) (h1 : x ≤ 18446744073709551615) (hk : Hid (64 - (Lib.bitLen x.toNat : Int) = k)) :
    Calls Try.prog 74 #[.int .u64 x] w fun e w' => e = .returned (.int .i64 k) ∧ w' = w := by
  rw [← hk.out]; exact Try.bits_LeadingZeros64 x w h0 h1

set_option maxHeartbeats 400000 in
theorem shiftNear3 (w : World) :
    Calls Try.prog 75 #[.int .u64 13835058055282163712, .int .i64 63] w fun e w' => e = .returned (.int .u64 2) ∧ ∃ n, w' = w.drewN n := by
  have hb : bits .and .u64 1 1 = 1 := by decide
  go_enter Try.func75, Try.ntmps75
  go_wp2
  go_quiet (fail)
  go_wp2
  go_ret
  exact ⟨rfl, _, rfl⟩

set_option maxRecDepth 100000 in
set_option maxHeartbeats 400000 in
theorem join3 (w : World) :
    Calls Try.prog 29 #[.int .i64 3, .int .i64 (-1075)] w fun e w' => e = .returned (.float .f64 2) ∧ ∃ n, w' = w.drewN n := by
  have hb := call_frombits
  go_enter Try.func29, Try.ntmps29
  go_wp2_with (first | (go_at_call 74; refine (lead_at _ 62 _ (by omega) (by omega) (by show _ = _; decide)).mono ?_; rintro e w' ⟨rfl, rfl⟩) | (go_at_call 58; go_in) | (go_at_call 75; refine (shiftNear3 _).mono ?_; rintro e w' ⟨rfl, nq, rfl⟩) | (go_at_call 57; refine (withSign_pos _ _).mono ?_; rintro e w' ⟨rfl, rfl⟩))
  go_ret
  exact ⟨rfl, _, rfl⟩

theorem u64_of_wf {b : Nat} (h : (Lit.float .f64 b).wf = true) : U64 b := by
  simp only [Lit.wf, decide_eq_true_eq] at h
  exact ⟨by omega, by omega⟩
theorem grown_drewN (w : World) (n : Nat) : Grown w (w.drewN n) := Grown.refl w
end Go.Proofs.Ytlbpekncaikabaa
