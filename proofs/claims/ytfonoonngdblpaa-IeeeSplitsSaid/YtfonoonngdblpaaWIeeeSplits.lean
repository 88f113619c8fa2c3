/- The walk of IeeeSplits. -/
import Derived.Test.YtfonoonngdblpaaRefJoin
import Derived.Test.YtfonoonngdblpaaWIeeeRanks
namespace Go.Proofs.Ytfonoonngdblpaa
open Go.RowKit

theorem joinN_u64 (m e : Int) : U64 (joinN m e : Int) := by
  have h := nearR_le m.natAbs e
  unfold joinN U64
  split
  · omega
  · split <;> omega
theorem i64_of_wf {n : Int} (h : (Lit.int .i64 n).wf = true) : -9223372036854775808 ≤ n ∧ n ≤ 9223372036854775807 := by
  simp only [Lit.wf, IntKind.min, IntKind.max, IntKind.signed, IntKind.bits] at h
  simp at h
  omega

set_option maxHeartbeats 800000 in
theorem ieeeSplits_walk (x : Nat) (m e : Int) (wx : (Lit.float .f64 x).wf = true) (wm : (Lit.int .i64 m).wf = true) (_we : (Lit.int .i64 e).wf = true) (w : World) :
    Calls Try.prog 6 #[.float .f64 x, .int .i64 m, .int .i64 e] w fun a w' => a = .returned (.bool true) ∧ Below w.heap.size w w' := by
  have hx := u64_of_wf wx
  obtain ⟨hm0, hm1⟩ := i64_of_wf wm
  clear wx wm _we
  have HJ := hide (joinN_u64 m e)
  have HSp := hide (fun w => split_as x x w rfl hx)
  have HRSp := hide (fun w => refSplit_any x w hx)
  go_enter Try.func6, Try.ntmps6
  go_wp2_with fail
  refine (unhide HSp _).mono ?_
  rintro a w' ⟨rfl, rfl⟩
  go_wp2_with fail
  refine (bits_any _ _).mono ?_
  rintro a w' ⟨rfl, rfl⟩
  go_wp2_with fail
  refine (unhide HRSp _).mono ?_
  rintro a w1 ⟨rfl, hb1⟩
  have HB1 := hide hb1
  clear hb1
  go_wp2_with fail
  refine (join_any m e _ hm0 hm1).mono ?_
  rintro a w2 ⟨rfl, n2, rfl⟩
  go_wp2_with fail
  refine (refJoin_any m e _ hm0 hm1).mono ?_
  rintro a w3 ⟨rfl, hb3⟩
  have HB3 := hide hb3
  clear hb3
  go_wp2_with fail
  refine (is_at _ _ _ rfl HJ.out).mono ?_
  rintro a w' ⟨rfl, rfl⟩
  go_wp2_with (go_at_call 16; refine (awake_true _).mono ?_; rintro a w4 ⟨rfl, nq, rfl⟩)
  all_goals
    go_ret
    exact ⟨rfl, below_drewN ((below_drewN HB1.out _).trans (HB3.out.mono (by have := HB1.out.size; simp; omega))) _⟩

end Go.Proofs.Ytfonoonngdblpaa
