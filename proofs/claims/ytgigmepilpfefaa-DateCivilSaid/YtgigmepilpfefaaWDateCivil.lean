/- The walk of DateCivil: lengths, days, dates and weekdays of the program are the document's. -/
import Derived.Test.YtgigmepilpfefaaDAwake
import Derived.Test.YtgigmepilpfefaaDRefCiv
namespace Go.Proofs.Ytgigmepilpfefaa
open Go.RowKit

theorem length_both (y m : Int) : ∃ A E : Int, (∀ w, Calls Try.prog 7 #[.int .i64 y, .int .i64 m] w fun e w' => e = .returned (.tuple #[.int .i64 A, .int .i64 E]) ∧ w' = w) ∧
    (∀ w, Calls Try.prog 8 #[.int .i64 y, .int .i64 m] w fun e w' => e = .returned (.tuple #[.int .i64 A, .int .i64 E]) ∧ w' = w) := by
  by_cases h : ymB y m
  · exact ⟨_, _, fun w => lengthP_ok y m w h, fun w => refLengthP_ok y m w h⟩
  · exact ⟨_, _, fun w => lengthP_bad y m w h, fun w => refLengthP_bad y m w h⟩
theorem of_both (y m d : Int) : ∃ A E : Int, (∀ w, Calls Try.prog 9 #[.int .i64 y, .int .i64 m, .int .i64 d] w fun e w' => e = .returned (.tuple #[.int .i64 A, .int .i64 E]) ∧ w' = w) ∧
    (∀ w, Calls Try.prog 10 #[.int .i64 y, .int .i64 m, .int .i64 d] w fun e w' => e = .returned (.tuple #[.int .i64 A, .int .i64 E]) ∧ w' = w) := by
  by_cases h : okD y m d
  · exact ⟨_, _, fun w => ofP_ok y m d w h, fun w => refOf_ok y m d w h⟩
  · exact ⟨_, _, fun w => ofP_bad y m d w h, fun w => refOf_bad y m d w h⟩
theorem civil_both (n : Int) : ∃ y m d E : Int, (∀ w, Calls Try.prog 11 #[.int .i64 n] w fun e w' => e = .returned (.tuple #[.int .i64 y, .int .i64 m, .int .i64 d, .int .i64 E]) ∧ w' = w) ∧
    (∀ w, Calls Try.prog 12 #[.int .i64 n] w fun e w' => e = .returned (.tuple #[.agg #[.int .i64 y, .int .i64 m, .int .i64 d], .int .i64 E]) ∧ Below w.heap.size w w') := by
  by_cases h : 0 ≤ n ∧ n ≤ 109572
  · obtain ⟨y, m, d, hd⟩ := isD_ex h.1 h.2
    exact ⟨_, _, _, _, fun w => civil_ok n y m d w hd, fun w => refCiv_ok n y m d w hd⟩
  · exact ⟨_, _, _, _, fun w => civil_bad n w h, fun w => refCiv_bad n w h⟩
theorem weekday_both (n : Int) : ∃ A E : Int, (∀ w, Calls Try.prog 13 #[.int .i64 n] w fun e w' => e = .returned (.tuple #[.int .i64 A, .int .i64 E]) ∧ w' = w) ∧
    (∀ w, Calls Try.prog 14 #[.int .i64 n] w fun e w' => e = .returned (.tuple #[.int .i64 A, .int .i64 E]) ∧ w' = w) := by
  by_cases h : 0 ≤ n ∧ n ≤ 109572
  · exact ⟨_, _, fun w => weekday_ok n w h, fun w => refWeekday_ok n w h⟩
  · exact ⟨_, _, fun w => weekday_bad n w h, fun w => refWeekday_bad n w h⟩

set_option maxRecDepth 10000 in
set_option maxHeartbeats 1600000 in
theorem dateCivil_walk (y m d n : Int) (_ : (Lit.int .i64 y).wf = true) (_ : (Lit.int .i64 m).wf = true) (_ : (Lit.int .i64 d).wf = true) (_ : (Lit.int .i64 n).wf = true) (w : World) :
    Calls Try.prog 3 #[.int .i64 y, .int .i64 m, .int .i64 d, .int .i64 n] w fun e w' => e = .returned (.bool true) ∧ Below w.heap.size w w' := by
  obtain ⟨A1, E1, p1, r1⟩ := length_both y m
  obtain ⟨A2, E2, p2, r2⟩ := of_both y m d
  obtain ⟨Y, M, D, E3, p3, r3⟩ := civil_both n
  obtain ⟨A4, E4, p4, r4⟩ := weekday_both n
  have P1 := hideS p1
  have R1 := hideS r1
  have P2 := hideS p2
  have R2 := hideS r2
  have P3 := hideS p3
  have R3 := hideS r3
  have P4 := hideS p4
  have R4 := hideS r4
  clear p1 p2 p3 p4 r1 r2 r3 r4
  go_enter Try.func3, Try.ntmps3
  go_wp2_with (first | (go_at_call 7; refine (P1.out _).mono ?_; rintro e w' ⟨rfl, rfl⟩) | (go_at_call 8; refine (R1.out _).mono ?_; rintro e w' ⟨rfl, rfl⟩) | (go_at_call 9; refine (P2.out _).mono ?_; rintro e w' ⟨rfl, rfl⟩) | (go_at_call 10; refine (R2.out _).mono ?_; rintro e w' ⟨rfl, rfl⟩) | (go_at_call 11; refine (P3.out _).mono ?_; rintro e w' ⟨rfl, rfl⟩) | (go_at_call 12; refine (R3.out _).mono ?_; rintro e w1 ⟨rfl, hb1⟩) | (go_at_call 13; refine (P4.out _).mono ?_; rintro e w' ⟨rfl, rfl⟩) | (go_at_call 14; refine (R4.out _).mono ?_; rintro e w' ⟨rfl, rfl⟩) | (go_at_call 15; refine (leap_any _ _).mono ?_; rintro e w' ⟨rfl, rfl⟩) | (go_at_call 16; refine (refLeap_any _ _).mono ?_; rintro e w' ⟨rfl, rfl⟩) | (go_at_call 17; refine (awake_true _).mono ?_; rintro e w2 ⟨rfl, hb2⟩))
  go_ret
  refine ⟨rfl, ?_⟩
  exact hb1.trans ((((Below.refl _ w1).alloc (Nat.le_refl _) _).trans (hb2.mono (by simp))).mono hb1.size)
end Go.Proofs.Ytgigmepilpfefaa
