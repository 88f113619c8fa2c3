/- The contracts of days, leapDays, actual and thirties. -/
import Derived.Test.YtpcgbcdldkmibaaGreatHap
import Derived.Test.YtpcgbcdldkmibaaGreatHak
import Derived.Lib.MinMax
namespace Go.Proofs.YtpcgbcdldkmibaaGreat
open Go.RowKit

theorem daysP_ok (a b : Int) (w : World) (ha : isDayP a) (hb : isDayP b) :
    Calls Tryz.prog 155 #[.int .i64 a, .int .i64 b] w fun e w' => e = .returned (.tuple #[.int .i64 (b - a), .int .i64 0]) ∧ w' = w := by
  obtain ⟨a0, a1⟩ := ha
  obtain ⟨b0, b1⟩ := hb
  go_enter Tryz.func155, Tryz.ntmps155
  go_wp2_with fail
  go_ret2
  exact ⟨rfl, rfl⟩
theorem daysP_bad (a b : Int) (w : World) (hab : a ≤ b) (h : ¬ (isDayP a ∧ isDayP b)) :
    Calls Tryz.prog 155 #[.int .i64 a, .int .i64 b] w fun e w' => e = .returned (.tuple #[.int .i64 0, .int .i64 51]) ∧ w' = w := by
  unfold isDayP at h
  rcases (show a < 0 ∨ (0 ≤ a ∧ 109572 < b) by omega) with h1 | ⟨h1, h2⟩
  all_goals
    clear h hab
    go_enter Tryz.func155, Tryz.ntmps155
    go_wp2_with fail
    go_ret2
    exact ⟨rfl, rfl⟩

def ldI (y n : Int) : Int := 366 * (nyI y - 365 * (y - 1900)) + (if leapB y then n - nyI y else 0)
theorem ld_acc (y n : Int) : 366 * n - ldI y n = accI y n := by
  unfold ldI accI lpI
  cases leapB y <;> simp <;> omega
theorem ld_bd {y n : Int} (h : 1900 ≤ y) (h' : y ≤ 2199) (h0 : nyI y ≤ n) (h1 : n < nyI (y + 1)) : 0 ≤ ldI y n ∧ ldI y n ≤ 1000000 := by
  have e1 := ny_lo h
  have e2 := ny_hi (y := y + 1) (by omega)
  have e3 := ny_hi (y := y) (by omega)
  unfold ldI
  split <;> constructor <;> omega
set_option maxHeartbeats 800000 in
theorem leapDays_any (n y m d : Int) (w : World) (h : IsD n y m d) :
    Calls Tryz.prog 183 #[.int .i64 n] w fun e w' => e = .returned (.int .i64 (ldI y n)) ∧ w' = w := by
  have HC := hideS (fun wx => civil_ok n y m d wx h)
  obtain ⟨n0, n1⟩ := h.range
  obtain ⟨h1, h2, _, _, _, _⟩ := h.1
  have hy := h.year
  have ho : okD y 1 1 := ⟨h1, h2, by omega, by omega, by omega, by have := len_lo y 1; omega⟩
  have hd : dayI y 1 1 = nyI y := by unfold dayI; rw [cum_first]; omega
  have H2 := hideS (fun wx => by have := ofP_ok y 1 1 wx ho; rw [hd] at this; exact this)
  have H3 := hideS (fun wx => leap_any y wx)
  have e1 := ny_lo h1
  have e3 := ny_hi (y := y) (by omega)
  have hy1 := hy.1
  clear h ho hd hy
  unfold ldI
  generalize nyI y = N at *
  cases hl : leapB y
  all_goals
    rw [hl] at H3
    clear hl
    go_enter Tryz.func183, Tryz.ntmps183
    go_wp2_with (first | (go_at_call 182; refine (HC.out _).mono ?_; rintro e w' ⟨rfl, rfl⟩) | (go_at_call 196; refine (H2.out _).mono ?_; rintro e w' ⟨rfl, rfl⟩) | (go_at_call 197; refine (H3.out _).mono ?_; rintro e w' ⟨rfl, rfl⟩))
    go_ret
    refine ⟨?_, rfl⟩
    simp
    try omega
set_option maxHeartbeats 800000 in
theorem actualP_ok (a b ya ma da yb mb db : Int) (w : World) (hA : IsD a ya ma da) (hB : IsD b yb mb db) :
    Calls Tryz.prog 156 #[.int .i64 a, .int .i64 b] w fun e w' => e = .returned (.tuple #[.int .i64 (accI yb b - accI ya a), .int .i64 0]) ∧ w' = w := by
  have HD := hideS (fun wx => daysP_ok a b wx hA.range hB.range)
  have H1 := hideS (fun wx => leapDays_any a ya ma da wx hA)
  have H2 := hideS (fun wx => leapDays_any b yb mb db wx hB)
  have ra := hA.range
  have rb := hB.range
  obtain ⟨a0, a1⟩ := ra
  obtain ⟨b0, b1⟩ := rb
  have la := ld_bd hA.1.1 hA.1.2.1 hA.year.1 hA.year.2
  have lb := ld_bd hB.1.1 hB.1.2.1 hB.year.1 hB.year.2
  obtain ⟨la0, la1⟩ := la
  obtain ⟨lb0, lb1⟩ := lb
  have ea := ld_acc ya a
  have eb := ld_acc yb b
  clear hA hB
  obtain ⟨R, hR⟩ : ∃ R, accI yb b - accI ya a = R := ⟨_, rfl⟩
  have HR : Hid (366 * (b - a) - (ldI yb b - ldI ya a) = R) := by show _ = _; omega
  rw [hR]
  clear ea eb hR
  generalize ldI ya a = X at *
  generalize ldI yb b = Y at *
  go_enter Tryz.func156, Tryz.ntmps156
  go_wp2_with (first | (go_at_call 155; refine (HD.out _).mono ?_; rintro e w' ⟨rfl, rfl⟩) | (go_at_call_of 183 (Value.int IntKind.i64 b); refine (H2.out _).mono ?_; rintro e w' ⟨rfl, rfl⟩) | (go_at_call_of 183 (Value.int IntKind.i64 a); refine (H1.out _).mono ?_; rintro e w' ⟨rfl, rfl⟩))
  go_ret2
  have e := HR.out
  rw [show 366 * (b - a - (Y - X)) + 365 * (Y - X) = R by omega]
  exact ⟨rfl, rfl⟩
theorem actualP_bad (a b : Int) (w : World) (hab : a ≤ b) (h : ¬ (isDayP a ∧ isDayP b)) :
    Calls Tryz.prog 156 #[.int .i64 a, .int .i64 b] w fun e w' => e = .returned (.tuple #[.int .i64 0, .int .i64 51]) ∧ w' = w := by
  have HD := hideS (fun wx => daysP_bad a b wx hab h)
  clear hab h
  go_enter Tryz.func156, Tryz.ntmps156
  go_wp2_with (go_at_call 155; refine (HD.out _).mono ?_; rintro e w' ⟨rfl, rfl⟩)
  go_ret2
  exact ⟨rfl, rfl⟩
set_option maxHeartbeats 1600000 in
theorem thirties_run (a b L ya ma da yb mb db D1 D2 : Int) (w : World) (hA : IsD a ya ma da) (hB : IsD b yb mb db) (h1 : min da 30 = D1) (h2 : (D1 = 30 ∧ min db 30 = D2) ∨ (D1 ≠ 30 ∧ min db L = D2)) (hL : L = 30 ∨ L = 31) :
    Calls Tryz.prog 157 #[.int .i64 a, .int .i64 b, .int .i64 L] w fun e w' => e = .returned (.tuple #[.int .i64 (360 * (yb - ya) + 30 * (mb - ma) + D2 - D1), .int .i64 0]) ∧ w' = w := by
  have H1 := hideS (fun wx => civil_ok a ya ma da wx hA)
  have H2 := hideS (fun wx => civil_ok b yb mb db wx hB)
  obtain ⟨a1, a2, a3, a4, a5, a6⟩ := hA.1
  obtain ⟨b1, b2, b3, b4, b5, b6⟩ := hB.1
  have l1 := len_hi ya ma
  have l2 := len_hi yb mb
  have d1 : D1 ≤ 30 := by omega
  have d2 : 1 ≤ D1 := by omega
  have d3 : D2 ≤ 31 := by omega
  have d4 : 1 ≤ D2 := by omega
  have d5 : da ≤ 31 := by omega
  have d6 : db ≤ 31 := by omega
  clear hA hB l1 l2 a6 b6
  rcases h2 with ⟨e1, e2⟩ | ⟨e1, e2⟩
  · subst e1
    go_enter Tryz.func157, Tryz.ntmps157
    go_wp2_with (first | (go_at_call_of 182 (Value.int IntKind.i64 a); refine (H1.out _).mono ?_; rintro e w' ⟨rfl, rfl⟩) | (go_at_call_of 182 (Value.int IntKind.i64 b); refine (H2.out _).mono ?_; rintro e w' ⟨rfl, rfl⟩))
    go_ret2
    exact ⟨rfl, rfl⟩
  · have e3 : (D1 == 30) = false := beq_false_of_ne e1
    go_enter Tryz.func157, Tryz.ntmps157
    go_wp2_with (first | (go_at_call_of 182 (Value.int IntKind.i64 a); refine (H1.out _).mono ?_; rintro e w' ⟨rfl, rfl⟩) | (go_at_call_of 182 (Value.int IntKind.i64 b); refine (H2.out _).mono ?_; rintro e w' ⟨rfl, rfl⟩))
    go_ret2
    exact ⟨rfl, rfl⟩
theorem thirties_ok (kind a b L ya ma da yb mb db : Int) (w : World) (hA : IsD a ya ma da) (hB : IsD b yb mb db) (hL : (kind = 4 ∧ L = 31) ∨ (kind = 5 ∧ L = 30)) :
    Calls Tryz.prog 157 #[.int .i64 a, .int .i64 b, .int .i64 L] w fun e w' => e = .returned (.tuple #[.int .i64 (thirI kind ya ma da yb mb db), .int .i64 0]) ∧ w' = w := by
  have hb : db ≤ 31 := by have := hB.1.2.2.2.2.2; have := len_hi yb mb; omega
  by_cases h : min da 30 = 30
  · have e : thirI kind ya ma da yb mb db = 360 * (yb - ya) + 30 * (mb - ma) + min db 30 - min da 30 := by
      unfold thirI; rw [if_pos (Or.inr h)]
    rw [e]
    exact thirties_run a b L ya ma da yb mb db _ _ w hA hB rfl (Or.inl ⟨h, rfl⟩) (by omega)
  · have e : thirI kind ya ma da yb mb db = 360 * (yb - ya) + 30 * (mb - ma) + min db L - min da 30 := by
      unfold thirI
      rcases hL with ⟨h4, hL⟩ | ⟨h5, hL⟩
      · rw [if_neg (by omega)]; omega
      · rw [if_pos (Or.inl h5), hL]
    rw [e]
    exact thirties_run a b L ya ma da yb mb db _ _ w hA hB rfl (Or.inr ⟨h, rfl⟩) (by omega)
theorem thirties_bad (a b L : Int) (w : World) (h : ¬ (isDayP a ∧ isDayP b)) :
    Calls Tryz.prog 157 #[.int .i64 a, .int .i64 b, .int .i64 L] w fun e w' => e = .returned (.tuple #[.int .i64 0, .int .i64 51]) ∧ w' = w := by
  by_cases ha : isDayP a
  · obtain ⟨ya, ma, da, hA⟩ := isD_ex ha.1 ha.2
    have H1 := hideS (fun wx => civil_ok a ya ma da wx hA)
    have H2 := hideS (fun wx => civil_bad b wx (fun hb => h ⟨ha, hb⟩))
    clear h ha hA
    go_enter Tryz.func157, Tryz.ntmps157
    go_wp2_with (first | (go_at_call_of 182 (Value.int IntKind.i64 a); refine (H1.out _).mono ?_; rintro e w' ⟨rfl, rfl⟩) | (go_at_call_of 182 (Value.int IntKind.i64 b); refine (H2.out _).mono ?_; rintro e w' ⟨rfl, rfl⟩))
    go_ret2
    exact ⟨rfl, rfl⟩
  · have H1 := hideS (fun wx => civil_bad a wx ha)
    clear h ha
    go_enter Tryz.func157, Tryz.ntmps157
    go_wp2_with (go_at_call 182; refine (H1.out _).mono ?_; rintro e w' ⟨rfl, rfl⟩)
    go_ret2
    exact ⟨rfl, rfl⟩
end Go.Proofs.YtpcgbcdldkmibaaGreat
