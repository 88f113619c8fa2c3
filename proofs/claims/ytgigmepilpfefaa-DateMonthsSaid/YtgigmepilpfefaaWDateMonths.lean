/- The walk of DateMonths: months on of the program are the document's. -/
import Derived.Test.YtgigmepilpfefaaDAwake
import Derived.Test.YtgigmepilpfefaaDRefMon
namespace Go.Proofs.Ytgigmepilpfefaa
open Go.RowKit

theorem i64_wf {n : Int} (h : (Lit.int .i64 n).wf = true) : -9223372036854775808 ≤ n ∧ n ≤ 9223372036854775807 := by
  simp only [Lit.wf, IntKind.min, IntKind.max, IntKind.signed, IntKind.bits] at h
  simp at h
  omega

set_option maxHeartbeats 800000 in
theorem refMonths_far (n y m d k : Int) (en : Bool) (w : World) (h : IsD n y m d) (hk : ¬ (0 ≤ atI y m k ∧ atI y m k < 3600)) :
    Calls Try.prog 19 #[.int .i64 n, .int .i64 k, .bool en] w fun e w' => e = .returned (.tuple #[.int .i64 0, .int .i64 51]) ∧ Below w.heap.size w w' := by
  have HC := hideS (fun w => refCiv_ok n y m d w h)
  unfold dateV at HC
  obtain ⟨y1, y2, m1, m2, d1, d2⟩ := h.1
  have HM := hideS (fun wx => refMonth_far y m d k wx y1 y2 m1 m2 hk)
  clear h hk
  go_enter Try.func19, Try.ntmps19
  go_wp2_with (first | (go_at_call 12; refine (HC.out _).mono ?_; rintro e w1 ⟨rfl, hb1⟩) | (go_at_call 33; refine (HM.out _).mono ?_; rintro e w2 ⟨rfl, hb2⟩))
  go_ret2
  exact ⟨rfl, month_below hb1 hb2⟩
set_option maxHeartbeats 800000 in
theorem refMonths_bad (n k : Int) (en : Bool) (w : World) (h : ¬ (0 ≤ n ∧ n ≤ 109572)) :
    Calls Try.prog 19 #[.int .i64 n, .int .i64 k, .bool en] w fun e w' => e = .returned (.tuple #[.int .i64 0, .int .i64 51]) ∧ Below w.heap.size w w' := by
  have HC := hideS (fun w => refCiv_bad n w h)
  unfold dateV at HC
  clear h
  go_enter Try.func19, Try.ntmps19
  go_wp2_with (go_at_call 12; refine (HC.out _).mono ?_; rintro e w1 ⟨rfl, hb1⟩)
  go_ret2
  exact ⟨rfl, hb1.trans (((Below.refl _ w1).alloc (Nat.le_refl _) _).mono hb1.size)⟩

theorem months_both (n k : Int) (en : Bool) (k0 : -9223372036854775808 ≤ k) (k1 : k ≤ 9223372036854775807) : ∃ A E : Int, (∀ w, Calls Try.prog 18 #[.int .i64 n, .int .i64 k, .bool en] w fun e w' => e = .returned (.tuple #[.int .i64 A, .int .i64 E]) ∧ w' = w) ∧
    (∀ w, Calls Try.prog 19 #[.int .i64 n, .int .i64 k, .bool en] w fun e w' => e = .returned (.tuple #[.int .i64 A, .int .i64 E]) ∧ Below w.heap.size w w') := by
  by_cases h : 0 ≤ n ∧ n ≤ 109572
  · obtain ⟨y, m, d, hd⟩ := isD_ex h.1 h.2
    by_cases hk : 0 ≤ atI y m k ∧ atI y m k < 3600
    · exact ⟨_, _, fun w => months_ok n y m d k en w hd hk.1 hk.2, fun w => refMonths_ok n y m d k en w hd hk.1 hk.2⟩
    · exact ⟨_, _, fun w => months_far n y m d k en w hd hk k0 k1, fun w => refMonths_far n y m d k en w hd hk⟩
  · exact ⟨_, _, fun w => months_bad n k en w h, fun w => refMonths_bad n k en w h⟩

set_option maxRecDepth 10000 in
set_option maxHeartbeats 800000 in
theorem dateMonths_walk (n k : Int) (en : Bool) (_ : (Lit.int .i64 n).wf = true) (wk : (Lit.int .i64 k).wf = true) (w : World) :
    Calls Try.prog 4 #[.int .i64 n, .int .i64 k, .bool en] w fun e w' => e = .returned (.bool true) ∧ Below w.heap.size w w' := by
  obtain ⟨k0, k1⟩ := i64_wf wk
  obtain ⟨A1, E1, p1, r1⟩ := months_both n k en k0 k1
  have P1 := hideS p1
  have R1 := hideS r1
  clear p1 r1
  go_enter Try.func4, Try.ntmps4
  go_wp2_with (first | (go_at_call 18; refine (P1.out _).mono ?_; rintro e w' ⟨rfl, rfl⟩) | (go_at_call 19; refine (R1.out _).mono ?_; rintro e w1 ⟨rfl, hb1⟩) | (go_at_call 17; refine (awake_true _).mono ?_; rintro e w2 ⟨rfl, hb2⟩))
  go_ret
  exact ⟨rfl, hb1.trans (hb2.mono hb1.size)⟩
end Go.Proofs.Ytgigmepilpfefaa
