/- The walk of DateBack: days, dates and texts go there and back. -/
import Derived.Test.YtgigmepilpfefaaDoorWDateTexts
namespace Go.Proofs.YtgigmepilpfefaaDoor
open Go.RowKit

theorem lawDay_any (n : Int) (w : World) :
    Calls Tryd.prog 10 #[.int .i64 n] w fun e w' => e = .returned (.bool (decide (0 ≤ n ∧ n ≤ 109572))) ∧ w' = w := by
  by_cases h1 : 0 ≤ n <;> by_cases h2 : n ≤ 109572
  all_goals
    first | rw [decide_eq_true (⟨h1, h2⟩ : 0 ≤ n ∧ n ≤ 109572)] | rw [decide_eq_false (fun h : 0 ≤ n ∧ n ≤ 109572 => by omega)]
    go_enter Tryd.func10, Tryd.ntmps10
    go_wp2
    go_ret
    exact ⟨rfl, rfl⟩
theorem lawDay_yes (n : Int) (h : 0 ≤ n ∧ n ≤ 109572) (w : World) :
    Calls Tryd.prog 10 #[.int .i64 n] w fun e w' => e = .returned (.bool true) ∧ w' = w := by
  have e := lawDay_any n w
  rw [decide_eq_true h] at e; exact e
theorem lawDay_no (n : Int) (h : ¬ (0 ≤ n ∧ n ≤ 109572)) (w : World) :
    Calls Tryd.prog 10 #[.int .i64 n] w fun e w' => e = .returned (.bool false) ∧ w' = w := by
  have e := lawDay_any n w
  rw [decide_eq_false h] at e; exact e

/-- The day behind. -/
theorem next_day {n y m d : Int} (h : IsD n y m d) (hn : n < 109572) :
    (d < lenI y m ∧ IsD (n + 1) y m (d + 1)) ∨ (d = lenI y m ∧ m < 12 ∧ IsD (n + 1) y (m + 1) 1) ∨ (d = 31 ∧ lenI y m = 31 ∧ m = 12 ∧ y < 2199 ∧ IsD (n + 1) (y + 1) 1 1) := by
  obtain ⟨⟨h1, h2, h3, h4, h5, h6⟩, hd⟩ := h
  by_cases a : d < lenI y m
  · exact Or.inl ⟨a, ⟨h1, h2, h3, h4, by omega, by omega⟩, by rw [hd]; unfold dayI; omega⟩
  · have e : d = lenI y m := by omega
    by_cases b : m < 12
    · refine Or.inr (Or.inl ⟨e, b, ⟨h1, h2, by omega, by omega, by omega, by have := len_lo y (m + 1); omega⟩, ?_⟩)
      rw [hd]; unfold dayI
      rw [cum_succ h3 h4]; omega
    · obtain rfl : m = 12 := by omega
      have e2 : lenI y 12 = 31 := rfl
      have c1 : cumI y 13 = cumI y 12 + lenI y 12 := cum_succ (by omega) (by omega)
      rw [cum_last] at c1
      have hn' : n + 1 = nyI (y + 1) := by
        rw [hd, ny_succ h1]; unfold dayI; omega
      have hy : y < 2199 := by
        rcases (show y < 2199 ∨ y = 2199 by omega) with a | a
        · exact a
        · rw [a] at hn'
          have := ny_last
          rw [show (2199 + 1 : Int) = 2200 by rfl] at hn'
          omega
      refine Or.inr (Or.inr ⟨by omega, e2, rfl, hy, ⟨by omega, by omega, by omega, by omega, by omega, by have := len_lo (y + 1) 1; omega⟩, ?_⟩)
      unfold dayI
      rw [cum_first]; omega
theorem last_date {y m d : Int} (h : IsD 109572 y m d) : y = 2199 ∧ m = 12 ∧ d = 31 := by
  have e : IsD 109572 2199 12 31 := ⟨by unfold okD; decide, by decide⟩
  exact h.unique e

set_option maxRecDepth 10000 in
set_option maxHeartbeats 1600000 in
theorem dateBack_walk (n : Int) (w : World) (hT : Tab w.heap.size w) :
    Calls Tryd.prog 4 #[.int .i64 n] w fun e w' => e = .returned (.bool true) ∧ Below w.heap.size w w' := by
  by_cases hday : 0 ≤ n ∧ n ≤ 109572
  · have HY := hideS (lawDay_yes n hday)
    have HW := hideS (fun w => weekday_ok n w hday)
    obtain ⟨y, m, d, h⟩ := isD_ex hday.1 hday.2
    obtain ⟨n0, n1⟩ := hday
    have HC := hideS (fun w => civil_ok n y m d w h)
    have ho := fun w => ofP_ok y m d w h.1
    rw [← h.2] at ho
    have HO := hideS ho
    clear ho
    obtain ⟨ya, mb, dc, hnat, ey, em, ed⟩ := isD_nat h
    have HP := hideS (fun w hT => print_ok n ya mb dc w hT hnat)
    have hok := h.1
    obtain ⟨y1, y2, m1, m2, d1, d2⟩ := hok
    have d3 := len_hi y m
    have hpa := fun w => parse_day (dateT ya mb dc) w (dateT_ok ya mb dc) (by rw [dateT_y (by omega), dateT_m (by omega), dateT_d (by omega)]; exact hnat.1)
    rw [dateT_y (by omega), dateT_m (by omega), dateT_d (by omega), ← hnat.2] at hpa
    have HPa := hideS hpa
    clear hpa hnat
    generalize dateT ya mb dc = T at *
    clear ey em ed
    have HT := hideS hT
    clear hT
    by_cases hl : n = 109572
    · subst hl
      obtain ⟨rfl, rfl, rfl⟩ := last_date h
      clear h d2 d3
      go_enter Tryd.func4, Tryd.ntmps4
      go_wp2_with (first | (go_at_call 10; refine (HY.out _).mono ?_; rintro e w' ⟨rfl, hw⟩; obtain rfl := hw.symm; clear hw) | (go_at_call 12; refine (HO.out _).mono ?_; rintro e w' ⟨rfl, hw⟩; obtain rfl := hw.symm; clear hw) | (go_at_call 7; refine (HP.out _ HT.out).mono ?_; rintro e w1 ⟨rfl, hb1⟩; have HB1 := hideS hb1; clear hb1) | (go_at_call 5; refine (HPa.out _).mono ?_; rintro e w2 ⟨rfl, hb2⟩; have HB2 := hideS (HB1.out.trans (hb2.mono HB1.out.size)); clear hb2) | (go_at_call 9; refine (awake_true _).mono ?_; rintro e w3 ⟨rfl, hb3⟩; have HB3 := hideS (HB2.out.trans (hb3.mono HB2.out.size)); clear hb3) | (go_at_call 11; refine (HC.out _).mono ?_; rintro e w' ⟨rfl, hw⟩; obtain rfl := hw.symm; clear hw))
      go_ret
      exact ⟨rfl, HB3.out⟩
    · have hlt : n < 109572 := by omega
      have HW2 := hideS (fun w => weekday_ok (n + 1) w ⟨by omega, by omega⟩)
      have HL := hideS (fun w => lengthP_ok y m w ⟨y1, y2, m1, m2⟩)
      have l1 := len_lo y m
      have hl' : (n == 109572) = false := by rw [beq_eq_false_iff_ne]; exact hl
      have hnx := next_day h hlt
      obtain ⟨N1, hN1⟩ : ∃ N1, n + 1 = N1 := ⟨_, rfl⟩
      rw [hN1] at HW2 hnx
      have N10 : 0 ≤ N1 := by omega
      have N11 : N1 ≤ 109572 := by omega
      have h7 : (n % 7 + 1) % 7 = N1 % 7 := by omega
      rcases hnx with ⟨e1, hi⟩ | ⟨e1, e2, hi⟩ | ⟨e1, e2, e3, e4, hi⟩
      · have HC2 := hideS (fun w => civil_ok _ _ _ _ w hi)
        clear h hi hl
        generalize lenI y m = L at *
        go_enter Tryd.func4, Tryd.ntmps4
        go_wp2_with (first | (go_at_call 10; refine (HY.out _).mono ?_; rintro e w' ⟨rfl, hw⟩; obtain rfl := hw.symm; clear hw) | (go_at_call 12; refine (HO.out _).mono ?_; rintro e w' ⟨rfl, hw⟩; obtain rfl := hw.symm; clear hw) | (go_at_call 7; refine (HP.out _ HT.out).mono ?_; rintro e w1 ⟨rfl, hb1⟩; have HB1 := hideS hb1; clear hb1) | (go_at_call 5; refine (HPa.out _).mono ?_; rintro e w2 ⟨rfl, hb2⟩; have HB2 := hideS (HB1.out.trans (hb2.mono HB1.out.size)); clear hb2) | (go_at_call 9; refine (awake_true _).mono ?_; rintro e w3 ⟨rfl, hb3⟩; have HB3 := hideS (HB2.out.trans (hb3.mono HB2.out.size)); clear hb3) | (go_at_call_of 11 (Value.int IntKind.i64 n); refine (HC.out _).mono ?_; rintro e w' ⟨rfl, hw⟩; obtain rfl := hw.symm; clear hw) | (go_at_call_of 11 (Value.int IntKind.i64 N1); refine (HC2.out _).mono ?_; rintro e w' ⟨rfl, hw⟩; obtain rfl := hw.symm; clear hw) | (go_at_call 13; refine (HL.out _).mono ?_; rintro e w' ⟨rfl, hw⟩; obtain rfl := hw.symm; clear hw) | (go_at_call_of 14 (Value.int IntKind.i64 n); refine (HW.out _).mono ?_; rintro e w' ⟨rfl, hw⟩; obtain rfl := hw.symm; clear hw) | (go_at_call_of 14 (Value.int IntKind.i64 N1); refine (HW2.out _).mono ?_; rintro e w' ⟨rfl, hw⟩; obtain rfl := hw.symm; clear hw))
        go_ret
        exact ⟨rfl, HB3.out⟩
      · have HC2 := hideS (fun w => civil_ok _ _ _ _ w hi)
        clear h hi hl
        generalize lenI y m = L at *
        subst e1
        go_enter Tryd.func4, Tryd.ntmps4
        go_wp2_with (first | (go_at_call 10; refine (HY.out _).mono ?_; rintro e w' ⟨rfl, hw⟩; obtain rfl := hw.symm; clear hw) | (go_at_call 12; refine (HO.out _).mono ?_; rintro e w' ⟨rfl, hw⟩; obtain rfl := hw.symm; clear hw) | (go_at_call 7; refine (HP.out _ HT.out).mono ?_; rintro e w1 ⟨rfl, hb1⟩; have HB1 := hideS hb1; clear hb1) | (go_at_call 5; refine (HPa.out _).mono ?_; rintro e w2 ⟨rfl, hb2⟩; have HB2 := hideS (HB1.out.trans (hb2.mono HB1.out.size)); clear hb2) | (go_at_call 9; refine (awake_true _).mono ?_; rintro e w3 ⟨rfl, hb3⟩; have HB3 := hideS (HB2.out.trans (hb3.mono HB2.out.size)); clear hb3) | (go_at_call_of 11 (Value.int IntKind.i64 n); refine (HC.out _).mono ?_; rintro e w' ⟨rfl, hw⟩; obtain rfl := hw.symm; clear hw) | (go_at_call_of 11 (Value.int IntKind.i64 N1); refine (HC2.out _).mono ?_; rintro e w' ⟨rfl, hw⟩; obtain rfl := hw.symm; clear hw) | (go_at_call 13; refine (HL.out _).mono ?_; rintro e w' ⟨rfl, hw⟩; obtain rfl := hw.symm; clear hw) | (go_at_call_of 14 (Value.int IntKind.i64 n); refine (HW.out _).mono ?_; rintro e w' ⟨rfl, hw⟩; obtain rfl := hw.symm; clear hw) | (go_at_call_of 14 (Value.int IntKind.i64 N1); refine (HW2.out _).mono ?_; rintro e w' ⟨rfl, hw⟩; obtain rfl := hw.symm; clear hw))
        go_ret
        exact ⟨rfl, HB3.out⟩
      · have HC2 := hideS (fun w => civil_ok _ _ _ _ w hi)
        clear h hi hl
        generalize lenI y m = L at *
        subst e1 e2 e3
        go_enter Tryd.func4, Tryd.ntmps4
        go_wp2_with (first | (go_at_call 10; refine (HY.out _).mono ?_; rintro e w' ⟨rfl, hw⟩; obtain rfl := hw.symm; clear hw) | (go_at_call 12; refine (HO.out _).mono ?_; rintro e w' ⟨rfl, hw⟩; obtain rfl := hw.symm; clear hw) | (go_at_call 7; refine (HP.out _ HT.out).mono ?_; rintro e w1 ⟨rfl, hb1⟩; have HB1 := hideS hb1; clear hb1) | (go_at_call 5; refine (HPa.out _).mono ?_; rintro e w2 ⟨rfl, hb2⟩; have HB2 := hideS (HB1.out.trans (hb2.mono HB1.out.size)); clear hb2) | (go_at_call 9; refine (awake_true _).mono ?_; rintro e w3 ⟨rfl, hb3⟩; have HB3 := hideS (HB2.out.trans (hb3.mono HB2.out.size)); clear hb3) | (go_at_call_of 11 (Value.int IntKind.i64 n); refine (HC.out _).mono ?_; rintro e w' ⟨rfl, hw⟩; obtain rfl := hw.symm; clear hw) | (go_at_call_of 11 (Value.int IntKind.i64 N1); refine (HC2.out _).mono ?_; rintro e w' ⟨rfl, hw⟩; obtain rfl := hw.symm; clear hw) | (go_at_call 13; refine (HL.out _).mono ?_; rintro e w' ⟨rfl, hw⟩; obtain rfl := hw.symm; clear hw) | (go_at_call_of 14 (Value.int IntKind.i64 n); refine (HW.out _).mono ?_; rintro e w' ⟨rfl, hw⟩; obtain rfl := hw.symm; clear hw) | (go_at_call_of 14 (Value.int IntKind.i64 N1); refine (HW2.out _).mono ?_; rintro e w' ⟨rfl, hw⟩; obtain rfl := hw.symm; clear hw))
        go_ret
        exact ⟨rfl, HB3.out⟩
  · have HY := hideS (lawDay_no n hday)
    have HC := hideS (fun w => civil_bad n w hday)
    have HP := hideS (fun w => print_bad n w hday)
    clear hday hT
    go_enter Tryd.func4, Tryd.ntmps4
    go_wp2_with (first | (go_at_call 10; refine (HY.out _).mono ?_; rintro e w' ⟨rfl, hw⟩; obtain rfl := hw.symm; clear hw) | (go_at_call 11; refine (HC.out _).mono ?_; rintro e w' ⟨rfl, hw⟩; obtain rfl := hw.symm; clear hw) | (go_at_call 7; refine (HP.out _).mono ?_; rintro e w' ⟨rfl, hw⟩; obtain rfl := hw.symm; clear hw) | (go_at_call 9; refine (awake_true _).mono ?_; rintro e w3 ⟨rfl, hb3⟩))
    go_ret
    exact ⟨rfl, hb3⟩
end Go.Proofs.YtgigmepilpfefaaDoor
