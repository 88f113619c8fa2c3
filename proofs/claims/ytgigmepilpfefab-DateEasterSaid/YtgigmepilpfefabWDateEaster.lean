/- The walk of DateEaster: Easter is a Sunday in its span, Third a Wednesday from the 15th to the 21st. -/
import Derived.Test.YtgigmepilpfefabDAwake
namespace Go.Proofs.Ytgigmepilpfefab
open Go.RowKit

theorem third_isD {y m : Int} (h : ymB y m) : ∃ d, 15 ≤ d ∧ d ≤ 21 ∧ IsD (thirdI y m) y m d ∧ thirdI y m % 7 = 2 := by
  have e := third_eq y m
  have hn := (isD_of (okD_first h 15 (by omega) (by omega))).range
  refine ⟨15 + (9 - dayI y m 15) % 7, by omega, by omega, ⟨okD_first h _ (by omega) (by omega), ?_⟩, ?_⟩
  · rw [e]
    have a : ∀ d, dayI y m d = dayI y m 15 + (d - 15) := fun d => by unfold dayI; omega
    rw [a (15 + (9 - dayI y m 15) % 7)]
    unfold wedI
    omega
  · rw [e]; unfold wedI; omega

set_option maxRecDepth 10000 in
set_option maxHeartbeats 1600000 in
theorem dateEaster_walk (y m : Int) (_ : (Lit.int .i64 y).wf = true) (_ : (Lit.int .i64 m).wf = true) (w : World) :
    Calls Try.prog 3 #[.int .i64 y, .int .i64 m] w fun e w' => e = .returned (.bool true) ∧ Below w.heap.size w w' := by
  by_cases hy : 1900 ≤ y ∧ y ≤ 2199
  · have HE := hideS (fun w => easter_ok y w hy.1 hy.2)
    have eo := ea_ok hy.1 hy.2
    have hr : 0 ≤ eaDay y ∧ eaDay y ≤ 109572 := (isD_of eo.ok).range
    have hw := fun w => weekday_ok (eaDay y) w hr
    have e6 : eaDay y % 7 = 6 := eo.sun
    rw [e6] at hw
    have HW := hideS hw
    have HO1 := hideS (fun w => ofP_ok y 3 22 w (okD_first ⟨hy.1, hy.2, by omega, by omega⟩ 22 (by omega) (by omega)))
    have HO2 := hideS (fun w => ofP_ok y 4 25 w (okD_first ⟨hy.1, hy.2, by omega, by omega⟩ 25 (by omega) (by omega)))
    have lo : dayI y 3 22 ≤ eaDay y := eo.lo
    have hi : eaDay y ≤ dayI y 4 25 := eo.hi
    clear hw e6 eo hr
    generalize eaDay y = N at *
    generalize dayI y 3 22 = A at *
    generalize dayI y 4 25 = B at *
    by_cases hm : 1 ≤ m ∧ m ≤ 12
    · have HT := hideS (fun w => third_ok y m w ⟨hy.1, hy.2, hm.1, hm.2⟩)
      obtain ⟨d, d1, d2, hd, t2⟩ := third_isD (y := y) (m := m) ⟨hy.1, hy.2, hm.1, hm.2⟩
      have hw := fun w => weekday_ok (thirdI y m) w hd.range
      rw [t2] at hw
      have HW2 := hideS hw
      have HC := hideS (fun w => civil_ok _ y m d w hd)
      clear hw hd t2
      generalize thirdI y m = K at *
      obtain ⟨y1, y2⟩ := hy
      obtain ⟨m1, m2⟩ := hm
      go_enter Try.func3, Try.ntmps3
      go_wp2_with (first | (go_at_call 4; refine (HE.out _).mono ?_; rintro e w' ⟨rfl, rfl⟩) | (go_at_call 5; refine (HT.out _).mono ?_; rintro e w' ⟨rfl, rfl⟩) | (go_at_call_of 6 (Value.int IntKind.i64 N); refine (HW.out _).mono ?_; rintro e w' ⟨rfl, rfl⟩) | (go_at_call_of 6 (Value.int IntKind.i64 K); refine (HW2.out _).mono ?_; rintro e w' ⟨rfl, rfl⟩) | (go_at_call_of 7 (Value.int IntKind.i64 22); refine (HO1.out _).mono ?_; rintro e w' ⟨rfl, rfl⟩) | (go_at_call_of 7 (Value.int IntKind.i64 25); refine (HO2.out _).mono ?_; rintro e w' ⟨rfl, rfl⟩) | (go_at_call 8; refine (HC.out _).mono ?_; rintro e w' ⟨rfl, rfl⟩) | (go_at_call 9; refine (awake_true _).mono ?_; rintro e w2 ⟨rfl, hb2⟩))
      go_ret
      exact ⟨rfl, hb2⟩
    · have HT := hideS (fun w => third_bad y m w (fun a => hm ⟨a.2.2.1, a.2.2.2⟩))
      obtain ⟨y1, y2⟩ := hy
      rcases (show m < 1 ∨ (1 ≤ m ∧ 12 < m) by omega) with m1 | ⟨m1, m2⟩
      all_goals
        clear hm
        go_enter Try.func3, Try.ntmps3
        go_wp2_with (first | (go_at_call 4; refine (HE.out _).mono ?_; rintro e w' ⟨rfl, rfl⟩) | (go_at_call 5; refine (HT.out _).mono ?_; rintro e w' ⟨rfl, rfl⟩) | (go_at_call_of 6 (Value.int IntKind.i64 N); refine (HW.out _).mono ?_; rintro e w' ⟨rfl, rfl⟩) | (go_at_call_of 7 (Value.int IntKind.i64 22); refine (HO1.out _).mono ?_; rintro e w' ⟨rfl, rfl⟩) | (go_at_call_of 7 (Value.int IntKind.i64 25); refine (HO2.out _).mono ?_; rintro e w' ⟨rfl, rfl⟩) | (go_at_call 9; refine (awake_true _).mono ?_; rintro e w2 ⟨rfl, hb2⟩))
        go_ret
        exact ⟨rfl, hb2⟩
  · have HE := hideS (fun w => easter_bad y w hy)
    have HT := hideS (fun w => third_bad y m w (fun a => hy ⟨a.1, a.2.1⟩))
    rcases (show y < 1900 ∨ (1900 ≤ y ∧ 2199 < y) by omega) with y1 | ⟨y1, y2⟩
    all_goals
      clear hy
      go_enter Try.func3, Try.ntmps3
      go_wp2_with (first | (go_at_call 4; refine (HE.out _).mono ?_; rintro e w' ⟨rfl, rfl⟩) | (go_at_call 5; refine (HT.out _).mono ?_; rintro e w' ⟨rfl, rfl⟩) | (go_at_call 9; refine (awake_true _).mono ?_; rintro e w2 ⟨rfl, hb2⟩))
      go_ret
      exact ⟨rfl, hb2⟩
end Go.Proofs.Ytgigmepilpfefab
