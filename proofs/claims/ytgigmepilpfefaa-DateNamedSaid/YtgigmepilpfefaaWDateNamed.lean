/- The walk of DateNamed: third Wednesdays and Easters of the program are the document's. -/
import Derived.Test.YtgigmepilpfefaaDAwake
namespace Go.Proofs.Ytgigmepilpfefaa
open Go.RowKit

theorem third_both (y m : Int) : ∃ A E : Int, (∀ w, Calls Try.prog 20 #[.int .i64 y, .int .i64 m] w fun e w' => e = .returned (.tuple #[.int .i64 A, .int .i64 E]) ∧ w' = w) ∧
    (∀ w, Calls Try.prog 21 #[.int .i64 y, .int .i64 m] w fun e w' => e = .returned (.tuple #[.int .i64 A, .int .i64 E]) ∧ w' = w) := by
  by_cases h : ymB y m
  · exact ⟨_, _, fun w => third_ok y m w h, fun w => refThird_ok y m w h⟩
  · exact ⟨_, _, fun w => third_bad y m w h, fun w => refThird_bad y m w h⟩
theorem easter_both (y : Int) : ∃ A E : Int, (∀ w, Calls Try.prog 22 #[.int .i64 y] w fun e w' => e = .returned (.tuple #[.int .i64 A, .int .i64 E]) ∧ w' = w) ∧
    (∀ w, Calls Try.prog 23 #[.int .i64 y] w fun e w' => e = .returned (.tuple #[.int .i64 A, .int .i64 E]) ∧ w' = w) := by
  by_cases h : 1900 ≤ y ∧ y ≤ 2199
  · exact ⟨_, _, fun w => easter_ok y w h.1 h.2, fun w => refEaster_ok y w h.1 h.2⟩
  · exact ⟨_, _, fun w => easter_bad y w h, fun w => refEaster_bad y w h⟩

set_option maxRecDepth 10000 in
set_option maxHeartbeats 800000 in
theorem dateNamed_walk (y m : Int) (_ : (Lit.int .i64 y).wf = true) (_ : (Lit.int .i64 m).wf = true) (w : World) :
    Calls Try.prog 5 #[.int .i64 y, .int .i64 m] w fun e w' => e = .returned (.bool true) ∧ Below w.heap.size w w' := by
  obtain ⟨A1, E1, p1, r1⟩ := third_both y m
  obtain ⟨A2, E2, p2, r2⟩ := easter_both y
  have P1 := hideS p1
  have R1 := hideS r1
  have P2 := hideS p2
  have R2 := hideS r2
  clear p1 p2 r1 r2
  go_enter Try.func5, Try.ntmps5
  go_wp2_with (first | (go_at_call 20; refine (P1.out _).mono ?_; rintro e w' ⟨rfl, rfl⟩) | (go_at_call 21; refine (R1.out _).mono ?_; rintro e w' ⟨rfl, rfl⟩) | (go_at_call 22; refine (P2.out _).mono ?_; rintro e w' ⟨rfl, rfl⟩) | (go_at_call 23; refine (R2.out _).mono ?_; rintro e w' ⟨rfl, rfl⟩) | (go_at_call 17; refine (awake_true _).mono ?_; rintro e w2 ⟨rfl, hb2⟩))
  go_ret
  exact ⟨rfl, hb2⟩
end Go.Proofs.Ytgigmepilpfefaa
