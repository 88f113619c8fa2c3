/- The contracts of Length and Of, of the program and of the document's answer. The contracts of Civil and Weekday. The contract of the document's Of: years and months added up. The contracts of the document's Civil and Weekday. The contracts of Months, of the program and of the document's answer. The contract of the document's Months. Months on: the program and the document. The contracts of Third and Easter, of the program and of the document's answer. Rules and their days: no word of the program. A slice of rules that came in. -/
import Derived.Test.YtpcgbcdldkmibaaGreatDLen
import Derived.Deep.RegionWith
import Derived.Test.YtpcgbcdldkmibaaGreatHad
namespace Go.Proofs.YtpcgbcdldkmibaaGreat
open Go.RowKit

def ymB (y m : Int) : Prop := 1900 ≤ y ∧ y ≤ 2199 ∧ 1 ≤ m ∧ m ≤ 12

theorem isYear_any (y : Int) (w : World) :
    Calls Tryz.prog 202 #[.int .i64 y] w fun e w' => e = .returned (.bool (decide (1900 ≤ y ∧ y ≤ 2199))) ∧ w' = w := by
  by_cases h1 : 1900 ≤ y <;> by_cases h2 : y ≤ 2199
  all_goals
    first | rw [decide_eq_true (⟨h1, h2⟩ : 1900 ≤ y ∧ y ≤ 2199)] | rw [decide_eq_false (fun h : 1900 ≤ y ∧ y ≤ 2199 => by omega)]
    go_enter Tryz.func202, Tryz.ntmps202
    go_wp2
    go_ret
    exact ⟨rfl, rfl⟩

theorem lengthP_ok (y m : Int) (w : World) (h : ymB y m) :
    Calls Tryz.prog 189 #[.int .i64 y, .int .i64 m] w fun e w' => e = .returned (.tuple #[.int .i64 (lenI y m), .int .i64 0]) ∧ w' = w := by
  obtain ⟨h1, h2, h3, h4⟩ := h
  have hy := isYear_any y
  rw [decide_eq_true (⟨h1, h2⟩ : 1900 ≤ y ∧ y ≤ 2199)] at hy
  have HL := hideS (length_any y m w h3 h4)
  have HY := hideS hy
  clear hy
  generalize lenI y m = L at *
  go_enter Tryz.func189, Tryz.ntmps189
  go_wp2_with (first | (go_at_call 202; refine (HY.out _).mono ?_; rintro e w' ⟨rfl, rfl⟩) | (go_at_call 201; refine HL.out.mono ?_; rintro e w' ⟨rfl, rfl⟩))
  go_ret2
  exact ⟨rfl, rfl⟩
theorem lengthP_bad (y m : Int) (w : World) (h : ¬ ymB y m) :
    Calls Tryz.prog 189 #[.int .i64 y, .int .i64 m] w fun e w' => e = .returned (.tuple #[.int .i64 0, .int .i64 50]) ∧ w' = w := by
  unfold ymB at h
  by_cases hy0 : 1900 ≤ y ∧ y ≤ 2199
  · have hy := isYear_any y
    rw [decide_eq_true hy0] at hy
    have HY := hideS hy
    clear hy
    rcases (show m < 1 ∨ (1 ≤ m ∧ 12 < m) by omega) with hm | ⟨hm, hm'⟩
    all_goals
      clear h hy0
      go_enter Tryz.func189, Tryz.ntmps189
      go_wp2_with (go_at_call 202; refine (HY.out _).mono ?_; rintro e w' ⟨rfl, rfl⟩)
      go_ret2
      exact ⟨rfl, rfl⟩
  · have hy := isYear_any y
    rw [decide_eq_false hy0] at hy
    have HY := hideS hy
    clear hy h hy0
    go_enter Tryz.func189, Tryz.ntmps189
    go_wp2_with (go_at_call 202; refine (HY.out _).mono ?_; rintro e w' ⟨rfl, rfl⟩)
    go_ret2
    exact ⟨rfl, rfl⟩

theorem refLengthP_ok (y m : Int) (w : World) (h : ymB y m) :
    Calls Tryz.prog 162 #[.int .i64 y, .int .i64 m] w fun e w' => e = .returned (.tuple #[.int .i64 (lenI y m), .int .i64 0]) ∧ w' = w := by
  obtain ⟨h1, h2, h3, h4⟩ := h
  have HL := hideS (refLength_any y m w h3 h4)
  generalize lenI y m = L at *
  go_enter Tryz.func162, Tryz.ntmps162
  go_wp2_with (go_at_call 164; refine HL.out.mono ?_; rintro e w' ⟨rfl, rfl⟩)
  go_ret2
  exact ⟨rfl, rfl⟩
theorem refLengthP_bad (y m : Int) (w : World) (h : ¬ ymB y m) :
    Calls Tryz.prog 162 #[.int .i64 y, .int .i64 m] w fun e w' => e = .returned (.tuple #[.int .i64 0, .int .i64 50]) ∧ w' = w := by
  unfold ymB at h
  rcases (show y < 1900 ∨ (1900 ≤ y ∧ 2199 < y) ∨ ((1900 ≤ y ∧ y ≤ 2199) ∧ m < 1) ∨ ((1900 ≤ y ∧ y ≤ 2199) ∧ 1 ≤ m ∧ 12 < m) by omega) with h1 | ⟨h1, h2⟩ | ⟨⟨h1, h2⟩, h3⟩ | ⟨⟨h1, h2⟩, h3, h4⟩
  all_goals
    clear h
    go_enter Tryz.func162, Tryz.ntmps162
    go_wp2
    go_ret2
    exact ⟨rfl, rfl⟩

theorem leaps_any (y : Int) (w : World) (h : 0 ≤ y) (h' : y ≤ 3000) :
    Calls Tryz.prog 204 #[.int .i64 y] w fun e w' => e = .returned (.int .i64 (lpsI y)) ∧ w' = w := by
  unfold lpsI
  go_enter Tryz.func204, Tryz.ntmps204
  go_wp2
  go_ret
  exact ⟨rfl, rfl⟩

theorem newYear_any (y : Int) (w : World) (h : 1900 ≤ y) (h' : y ≤ 2200) :
    Calls Tryz.prog 195 #[.int .i64 y] w fun e w' => e = .returned (.int .i64 (nyI y)) ∧ w' = w := by
  have H1 := hideS (leaps_any (y - 1) w (by omega) (by omega))
  have H2 := hideS (leaps_any 1899 w (by omega) (by omega))
  have e2 : lpsI 1899 = 460 := by decide
  rw [e2] at H2
  unfold nyI
  have hl : 0 ≤ lpsI (y - 1) ∧ lpsI (y - 1) ≤ 3000 := by unfold lpsI; omega
  obtain ⟨l1, l2⟩ := hl
  generalize lpsI (y - 1) = L at *
  clear e2
  go_enter Tryz.func195, Tryz.ntmps195
  go_wp2_with (first | (go_at_call_of 204 (Value.int IntKind.i64 1899); refine H2.out.mono ?_; rintro e w' ⟨rfl, rfl⟩) | (go_at_call 204; refine H1.out.mono ?_; rintro e w' ⟨rfl, rfl⟩))
  go_ret
  exact ⟨rfl, rfl⟩

set_option maxHeartbeats 400000 in
theorem ofP_ok (y m d : Int) (w : World) (h : okD y m d) :
    Calls Tryz.prog 196 #[.int .i64 y, .int .i64 m, .int .i64 d] w fun e w' => e = .returned (.tuple #[.int .i64 (dayI y m d), .int .i64 0]) ∧ w' = w := by
  obtain ⟨h1, h2, h3, h4, h5, h6⟩ := h
  have HL := hideS (lengthP_ok y m w ⟨h1, h2, h3, h4⟩)
  have HN := hideS (newYear_any y w h1 (by omega))
  have hl := len_hi y m
  have HLen := hideS (fun (k : Int) (wx : World) (a : 1 ≤ k) (b : k ≤ 12) => length_any y k wx a b)
  have HD : Hid (dayI y m d = nyI y + d - 1 + cumI y m) := by show _ = _; unfold dayI; omega
  have n1 : 0 ≤ nyI y := by have := ny_lo h1; omega
  have n2 : nyI y ≤ 110000 := by have := ny_hi h1; omega
  obtain ⟨R, hR⟩ : ∃ R, dayI y m d = R := ⟨_, rfl⟩
  rw [hR] at HD ⊢
  clear hR
  obtain ⟨L, hL⟩ : ∃ L, lenI y m = L := ⟨_, rfl⟩
  rw [hL] at HL h6 hl
  clear hL
  obtain ⟨N, hN⟩ : ∃ N, nyI y = N := ⟨_, rfl⟩
  rw [hN] at HN n1 n2 HD
  clear hN
  go_enter Tryz.func196, Tryz.ntmps196
  go_wp2_with (first | (go_at_call 189; refine HL.out.mono ?_; rintro e w' ⟨rfl, rfl⟩) | (go_at_call 195; refine HN.out.mono ?_; rintro e w' ⟨rfl, rfl⟩))
  clear HL HN
  go_loop [35, 10] (fun i n => ∃ (k : Nat) (C : Int), (k : Int) + 1 ≤ m ∧ 0 ≤ C ∧ C ≤ 200000 ∧ i = .int .i64 k ∧ n = .int .i64 C ∧ Hid (C = N + d - 1 + cumI y (k + 1))) (fun i _ => (m - intOf i).toNat)
  case atStart => exact ⟨0, N + d - 1, by omega, by omega, by omega, rfl, rfl, by show _ = _; rw [show (((0 : Nat) : Int) + 1) = 1 by rfl, cum_first]; omega⟩
  case round =>
    obtain ⟨k, C, hk, hC0, hC1, rfl, rfl, HC⟩ := hrel
    by_cases hlt : (k : Int) + 1 < m
    · have H := hideS (fun wx => HLen.out (k + 1) wx (by omega) (by omega))
      have HN : Hid (C + lenI y (k + 1) = N + d - 1 + cumI y (((k + 1 : Nat) : Int) + 1)) := by
        show _ = _
        rw [HC.out, show (((k + 1 : Nat) : Int) + 1) = (k : Int) + 1 + 1 by omega, cum_succ (m := (k : Int) + 1) (by omega) (by omega)]; omega
      have HB : Hid (cumI y (((k + 1 : Nat) : Int) + 1) ≤ 366) := cum_hi (by omega) (by omega)
      have l1 := len_lo y (k + 1)
      have l2 := len_hi y (k + 1)
      generalize lenI y (k + 1) = l at *
      have hlt' : (k : Int) < m - 1 := by omega
      go_wp2_with (go_at_call 201; refine (H.out _).mono ?_; rintro e w' ⟨rfl, rfl⟩)
      go_round
      case rel => exact ⟨k + 1, C + l, by omega, by omega, by have := HN.out; have := HB.out; omega, by go_num, rfl, HN⟩
      case measure => simp [intOf]; omega
    · have hm : m = (k : Int) + 1 := by omega
      have HR : Hid (C = R) := by show _ = _; rw [HC.out, HD.out, hm]
      have hge : ¬ (k : Int) < m - 1 := by omega
      clear HC HD hm
      go_wp2_with fail
      go_ret2
      obtain rfl := HR.out
      exact ⟨rfl, rfl⟩

theorem ofP_bad (y m d : Int) (w : World) (h : ¬ okD y m d) :
    Calls Tryz.prog 196 #[.int .i64 y, .int .i64 m, .int .i64 d] w fun e w' => e = .returned (.tuple #[.int .i64 0, .int .i64 50]) ∧ w' = w := by
  by_cases hy : ymB y m
  · have HL := hideS (lengthP_ok y m w hy)
    obtain ⟨h1, h2, h3, h4⟩ := hy
    unfold okD at h
    have l1 := len_lo y m
    generalize lenI y m = L at *
    rcases (show d < 1 ∨ (1 ≤ d ∧ L < d) by omega) with hd | ⟨hd, hd'⟩
    all_goals
      clear h
      go_enter Tryz.func196, Tryz.ntmps196
      go_wp2_with (go_at_call 189; refine HL.out.mono ?_; rintro e w' ⟨rfl, rfl⟩)
      go_ret2
      exact ⟨rfl, rfl⟩
  · have HL := hideS (lengthP_bad y m w hy)
    clear hy h
    go_enter Tryz.func196, Tryz.ntmps196
    go_wp2_with (go_at_call 189; refine HL.out.mono ?_; rintro e w' ⟨rfl, rfl⟩)
    go_ret2
    exact ⟨rfl, rfl⟩
end Go.Proofs.YtpcgbcdldkmibaaGreat
namespace Go.Proofs.YtpcgbcdldkmibaaGreat
open Go.RowKit

theorem isDay_any (n : Int) (w : World) :
    Calls Tryz.prog 192 #[.int .i64 n] w fun e w' => e = .returned (.bool (decide (0 ≤ n ∧ n ≤ 109572))) ∧ w' = w := by
  by_cases h1 : 0 ≤ n <;> by_cases h2 : n ≤ 109572
  all_goals
    first | rw [decide_eq_true (⟨h1, h2⟩ : 0 ≤ n ∧ n ≤ 109572)] | rw [decide_eq_false (fun h : 0 ≤ n ∧ n ≤ 109572 => by omega)]
    go_enter Tryz.func192, Tryz.ntmps192
    go_wp2
    go_ret
    exact ⟨rfl, rfl⟩
theorem isDay_yes (n : Int) (h : 0 ≤ n ∧ n ≤ 109572) (w : World) :
    Calls Tryz.prog 192 #[.int .i64 n] w fun e w' => e = .returned (.bool true) ∧ w' = w := by
  have e := isDay_any n w
  rw [decide_eq_true h] at e; exact e
theorem isDay_no (n : Int) (h : ¬ (0 ≤ n ∧ n ≤ 109572)) (w : World) :
    Calls Tryz.prog 192 #[.int .i64 n] w fun e w' => e = .returned (.bool false) ∧ w' = w := by
  have e := isDay_any n w
  rw [decide_eq_false h] at e; exact e

set_option maxHeartbeats 400000 in
theorem yearOf_any (n y : Int) (w : World) (h1 : 1900 ≤ y) (h2 : y ≤ 2199) (hy : nyI y ≤ n) (hy' : n < nyI (y + 1)) :
    Calls Tryz.prog 193 #[.int .i64 n] w fun e w' => e = .returned (.int .i64 y) ∧ w' = w := by
  have n0 : 0 ≤ n := by have := ny_lo h1; omega
  have n1 : n ≤ 120000 := by have := ny_hi (y := y + 1) (by omega); omega
  have hs : 1900 + n / 366 ≤ y := by have := ny_hi (y := y + 1) (by omega); omega
  have HN := hideS (fun (z : Int) (wx : World) (a : 1900 ≤ z) (b : z ≤ 2200) => newYear_any z wx a b)
  have HY := hideS hy
  have HY' := hideS hy'
  clear hy hy'
  go_enter Tryz.func193, Tryz.ntmps193
  go_wp2_with fail
  go_loop [3] (fun i => ∃ (j : Int), 1900 ≤ j ∧ j ≤ y ∧ i = .int .i64 j) (fun i => (y - intOf i).toNat)
  case atStart => exact ⟨1900 + n / 366, by omega, hs, rfl⟩
  case round =>
    obtain ⟨j, hj1, hj2, rfl⟩ := hrel
    have H := hideS (fun wx => HN.out (j + 1) wx (by omega) (by omega))
    by_cases hlt : j < y
    · have hle : nyI (j + 1) ≤ n := by
        have := ny_mono (y := j + 1) (z := y) (by omega) (by omega)
        have := HY.out
        omega
      generalize nyI (j + 1) = N at *
      go_wp2_with (go_at_call 195; refine (H.out _).mono ?_; rintro e w' ⟨rfl, rfl⟩)
      go_round
      case rel => exact ⟨j + 1, by omega, by omega, rfl⟩
      case measure => simp [intOf]; omega
    · obtain rfl : j = y := by omega
      have hle : ¬ nyI (j + 1) ≤ n := by have := HY'.out; omega
      clear HY'
      generalize nyI (j + 1) = N at *
      go_wp2_with (go_at_call 195; refine (H.out _).mono ?_; rintro e w' ⟨rfl, rfl⟩)
      go_ret
      exact ⟨rfl, rfl⟩

set_option maxHeartbeats 800000 in
theorem monthAndDay_any (y m r : Int) (w : World) (h1 : 1 ≤ m) (h2 : m ≤ 12) (hm : cumI y m ≤ r) (hm' : r < cumI y (m + 1)) :
    Calls Tryz.prog 194 #[.int .i64 y, .int .i64 r] w fun e w' => e = .returned (.tuple #[.int .i64 m, .int .i64 (r - cumI y m + 1)]) ∧ w' = w := by
  have r0 : 0 ≤ r := by have := cum_lo (y := y) h1 (by omega); omega
  have r1 : r ≤ 366 := by have := cum_hi (y := y) (m := m + 1) (by omega) (by omega); omega
  have HLen := hideS (fun (k : Int) (wx : World) (a : 1 ≤ k) (b : k ≤ 12) => length_any y k wx a b)
  have HM := hideS hm
  have HM' := hideS hm'
  clear hm hm'
  obtain ⟨D, hD⟩ : ∃ D, r - cumI y m + 1 = D := ⟨_, rfl⟩
  rw [hD]
  have HD := hideS hD
  clear hD
  go_enter Tryz.func194, Tryz.ntmps194
  go_wp2_with fail
  go_loop [7, 1, 4] (fun i b _ => ∃ (k : Int) (C : Int), 0 ≤ k ∧ k + 1 ≤ m ∧ 0 ≤ C ∧ C ≤ 366 ∧ i = .int .i64 k ∧ b = .int .i64 C ∧ Hid (C = r - cumI y (k + 1))) (fun i _ _ => (m - intOf i).toNat)
  case atStart => exact ⟨0, r, by omega, by omega, by omega, by omega, rfl, rfl, by show _ = _; rw [show ((0 : Int) + 1) = 1 by rfl, cum_first]; omega⟩
  case round =>
    obtain ⟨k, C, hk0, hk, hC0, hC1, rfl, rfl, HC⟩ := hrel
    have H := hideS (fun wx => HLen.out (k + 1) wx (by omega) (by omega))
    have l1 := len_lo y (k + 1)
    have HS : Hid (cumI y (k + 1 + 1) = cumI y (k + 1) + lenI y (k + 1)) := cum_succ (m := k + 1) (by omega) (by omega)
    by_cases hlt : k + 1 < m
    · have hle : ¬ C < lenI y (k + 1) := by
        have := cum_mono (y := y) (m := k + 1 + 1) (k := m) (by omega) (by omega) (by omega)
        have := HM.out
        have := HS.out
        have := HC.out
        omega
      have HC' : Hid (C - lenI y (k + 1) = r - cumI y (k + 1 + 1)) := by
        show _ = _
        rw [HS.out, HC.out]; omega
      generalize lenI y (k + 1) = l at *
      go_wp2_with (go_at_call 201; refine (H.out _).mono ?_; rintro e w' ⟨rfl, rfl⟩)
      go_round
      case rel => exact ⟨k + 1, C - l, by omega, by omega, by omega, by omega, rfl, rfl, HC'⟩
      case measure => simp [intOf]; omega
    · have hle : C < lenI y (k + 1) := by
        have := HM'.out
        rw [show m + 1 = k + 1 + 1 by omega, HS.out] at this
        have := HC.out
        omega
      have hm : m = k + 1 := by omega
      have HE : Hid (C + 1 = D) := by
        show _ = _
        rw [← HD.out, HC.out, hm]
      have HMk := hideS hm
      clear hm HD HC HM HM'
      generalize lenI y (k + 1) = l at *
      go_wp2_with (go_at_call 201; refine (H.out _).mono ?_; rintro e w' ⟨rfl, rfl⟩)
      go_ret2
      obtain rfl := HE.out
      obtain rfl := HMk.out
      exact ⟨rfl, rfl⟩

theorem results_tmp4 {fn : Func} {t u v x : Tmp} (h : fn.results = #[.tmp t, .tmp u, .tmp v, .tmp x]) (tmps : Array Value) (P : Program) (w : World) :
    (results fn tmps).run P w = .ok (.tuple #[tmps.getD t undef, tmps.getD u undef, tmps.getD v undef, tmps.getD x undef]) w := by
  simp [results, h]

set_option maxHeartbeats 400000 in
theorem civil_ok (n y m d : Int) (w : World) (h : IsD n y m d) :
    Calls Tryz.prog 182 #[.int .i64 n] w fun e w' => e = .returned (.tuple #[.int .i64 y, .int .i64 m, .int .i64 d, .int .i64 0]) ∧ w' = w := by
  obtain ⟨n0, n1⟩ := h.range
  obtain ⟨a, b⟩ := h.year
  obtain ⟨a', b'⟩ := h.month
  have HY := hideS (isDay_yes n ⟨n0, n1⟩)
  have hd : n - nyI y - cumI y m + 1 = d := by have := h.2; unfold dayI at this; omega
  obtain ⟨h1, h2, h3, h4, _, _⟩ := h.1
  clear h
  have H1 := hideS (fun wx => yearOf_any n y wx h1 h2 a b)
  have H2 := hideS (fun wx => newYear_any y wx h1 (by omega))
  have h5 := fun wx => monthAndDay_any y m (n - nyI y) wx h3 h4 a' b'
  rw [hd] at h5
  have H3 := hideS h5
  have c1 := cum_lo (y := y) h3 (by omega)
  have n2 := ny_lo h1
  clear h5 hd b b' a'
  generalize nyI y = N at *
  go_enter Tryz.func182, Tryz.ntmps182
  go_wp2_with (first | (go_at_call 192; refine (HY.out _).mono ?_; rintro e w' ⟨rfl, rfl⟩) | (go_at_call 193; refine (H1.out _).mono ?_; rintro e w' ⟨rfl, rfl⟩) | (go_at_call 195; refine (H2.out _).mono ?_; rintro e w' ⟨rfl, rfl⟩) | (go_at_call 194; refine (H3.out _).mono ?_; rintro e w' ⟨rfl, rfl⟩))
  (try simp only [Exit.inBlock, Exit.then])
  refine bodyPost_ret (results_tmp4 rfl _ _ _) rfl ?_
  exact ⟨rfl, rfl⟩
theorem civil_bad (n : Int) (w : World) (h : ¬ (0 ≤ n ∧ n ≤ 109572)) :
    Calls Tryz.prog 182 #[.int .i64 n] w fun e w' => e = .returned (.tuple #[.int .i64 0, .int .i64 0, .int .i64 0, .int .i64 51]) ∧ w' = w := by
  have HY := hideS (isDay_no n h)
  clear h
  go_enter Tryz.func182, Tryz.ntmps182
  go_wp2_with (go_at_call 192; refine (HY.out _).mono ?_; rintro e w' ⟨rfl, rfl⟩)
  (try simp only [Exit.inBlock, Exit.then])
  refine bodyPost_ret (results_tmp4 rfl _ _ _) rfl ?_
  exact ⟨rfl, rfl⟩
end Go.Proofs.YtpcgbcdldkmibaaGreat
namespace Go.Proofs.YtpcgbcdldkmibaaGreat
open Go.RowKit

theorem lp_true {y : Int} (h : leapB y = true) : lpI y = 1 := by unfold lpI; rw [h]; rfl
theorem lp_false {y : Int} (h : leapB y = false) : lpI y = 0 := by unfold lpI; rw [h]; rfl

set_option maxHeartbeats 800000 in
theorem refOf_ok (y m d : Int) (w : World) (h : okD y m d) :
    Calls Tryz.prog 121 #[.int .i64 y, .int .i64 m, .int .i64 d] w fun e w' => e = .returned (.tuple #[.int .i64 (dayI y m d), .int .i64 0]) ∧ w' = w := by
  obtain ⟨h1, h2, h3, h4, h5, h6⟩ := h
  have HL := hideS (refLengthP_ok y m w ⟨h1, h2, h3, h4⟩)
  have hl := len_hi y m
  have HLen := hideS (fun (k : Int) (wx : World) (a : 1 ≤ k) (b : k ≤ 12) => refLength_any y k wx a b)
  have HD : Hid (dayI y m d = d - 1 + nyI y + cumI y m) := by show _ = _; unfold dayI; omega
  have n2 : nyI y ≤ 110000 := by have := ny_hi h1; omega
  obtain ⟨R, hR⟩ : ∃ R, dayI y m d = R := ⟨_, rfl⟩
  rw [hR] at HD ⊢
  clear hR
  obtain ⟨L, hL⟩ : ∃ L, lenI y m = L := ⟨_, rfl⟩
  rw [hL] at HL h6 hl
  clear hL
  have HN2 := hideS n2
  clear n2
  go_enter Tryz.func121, Tryz.ntmps121
  go_wp2_with (go_at_call 162; refine HL.out.mono ?_; rintro e w' ⟨rfl, rfl⟩)
  clear HL
  go_loop [11, 10] (fun i n => ∃ (j C : Int), 1900 ≤ j ∧ j ≤ y ∧ 0 ≤ C ∧ C ≤ 200000 ∧ i = .int .i64 j ∧ n = .int .i64 C ∧ Hid (C = d - 1 + nyI j)) (fun i _ => (y - intOf i).toNat)
  case atStart => exact ⟨1900, d - 1, by omega, by omega, by omega, by omega, rfl, rfl, by show _ = _; rw [ny_first]; omega⟩
  case round =>
    obtain ⟨j, C, hj1, hj2, hC0, hC1, rfl, rfl, HC⟩ := hrel
    by_cases hlt : j < y
    · have HS : Hid (C + 365 + lpI j = d - 1 + nyI (j + 1)) := by
        show _ = _
        rw [HC.out, ny_succ hj1]; omega
      have HB : Hid (nyI (j + 1) ≤ 110000) := by
        have := ny_mono (y := j + 1) (z := y) (by omega) (by omega)
        have := HN2.out
        show _ ≤ _
        omega
      cases hl : leapB j
      · rw [lp_false hl] at HS
        go_wp2_with (go_at_call 122; refine (refLeap_any _ _).mono ?_; rintro e w' ⟨rfl, rfl⟩)
        go_round
        case rel => exact ⟨j + 1, C + 365, by omega, by omega, by omega, by have := HS.out; have := HB.out; omega, rfl, rfl, by have := HS.out; show _ = _; omega⟩
        case measure => simp [intOf]; omega
      · rw [lp_true hl] at HS
        go_wp2_with (go_at_call 122; refine (refLeap_any _ _).mono ?_; rintro e w' ⟨rfl, rfl⟩)
        go_round
        case rel => exact ⟨j + 1, C + 365 + 1, by omega, by omega, by omega, by have := HS.out; have := HB.out; omega, rfl, rfl, HS⟩
        case measure => simp [intOf]; omega
    · obtain rfl : j = y := by omega
      go_wp2_with fail
      go_loop [12, 10] (fun i n => ∃ (k : Nat) (C : Int), 1 ≤ k ∧ (k : Int) ≤ m ∧ 0 ≤ C ∧ C ≤ 200000 ∧ i = .int .i64 k ∧ n = .int .i64 C ∧ Hid (C = d - 1 + nyI j + cumI j k)) (fun i _ => (m - intOf i).toNat)
      case atStart => exact ⟨1, C, by omega, by omega, by omega, by omega, rfl, rfl, by show _ = _; rw [show (((1 : Nat) : Int)) = 1 by rfl, cum_first, HC.out]; omega⟩
      case round =>
        clear HC hC0 hC1
        obtain ⟨k, C, hk1, hk, hC0, hC1, rfl, rfl, HC⟩ := hrel
        by_cases hlt : (k : Int) < m
        · have H := hideS (fun wx => HLen.out k wx (by omega) (by omega))
          have HN : Hid (C + lenI j k = d - 1 + nyI j + cumI j ((k + 1 : Nat) : Int)) := by
            show _ = _
            rw [HC.out, show (((k + 1 : Nat) : Int)) = (k : Int) + 1 by omega, cum_succ (m := (k : Int)) (by omega) (by omega)]; omega
          have HB : Hid (cumI j (((k + 1 : Nat) : Int)) ≤ 366) := cum_hi (by omega) (by omega)
          have l1 := len_lo j k
          have l2 := len_hi j k
          generalize lenI j k = l at *
          go_wp2_with (go_at_call 164; refine (H.out _).mono ?_; rintro e w' ⟨rfl, rfl⟩)
          go_round
          case rel => exact ⟨k + 1, C + l, by omega, by omega, by omega, by have := HN.out; have := HB.out; have := HN2.out; omega, by go_num, rfl, HN⟩
          case measure => simp [intOf]; omega
        · have hm : m = (k : Int) := by omega
          have HR : Hid (C = R) := by show _ = _; rw [HC.out, HD.out, hm]
          clear HC HD hm
          go_wp2_with fail
          go_ret2
          obtain rfl := HR.out
          exact ⟨rfl, rfl⟩

theorem refOf_bad (y m d : Int) (w : World) (h : ¬ okD y m d) :
    Calls Tryz.prog 121 #[.int .i64 y, .int .i64 m, .int .i64 d] w fun e w' => e = .returned (.tuple #[.int .i64 0, .int .i64 50]) ∧ w' = w := by
  by_cases hy : ymB y m
  · have HL := hideS (refLengthP_ok y m w hy)
    obtain ⟨h1, h2, h3, h4⟩ := hy
    unfold okD at h
    have l1 := len_lo y m
    generalize lenI y m = L at *
    rcases (show d < 1 ∨ (1 ≤ d ∧ L < d) by omega) with hd | ⟨hd, hd'⟩
    all_goals
      clear h
      go_enter Tryz.func121, Tryz.ntmps121
      go_wp2_with (go_at_call 162; refine HL.out.mono ?_; rintro e w' ⟨rfl, rfl⟩)
      go_ret2
      exact ⟨rfl, rfl⟩
  · have HL := hideS (refLengthP_bad y m w hy)
    clear hy h
    go_enter Tryz.func121, Tryz.ntmps121
    go_wp2_with (go_at_call 162; refine HL.out.mono ?_; rintro e w' ⟨rfl, rfl⟩)
    go_ret2
    exact ⟨rfl, rfl⟩
end Go.Proofs.YtpcgbcdldkmibaaGreat
namespace Go.Proofs.YtpcgbcdldkmibaaGreat
open Go.RowKit

def dateV (y m d : Int) : Value := .agg #[.int .i64 y, .int .i64 m, .int .i64 d]

set_option maxHeartbeats 1600000 in
theorem refCiv_ok (n y m d : Int) (w : World) (h : IsD n y m d) :
    Calls Tryz.prog 120 #[.int .i64 n] w fun e w' => e = .returned (.tuple #[dateV y m d, .int .i64 0]) ∧ Below w.heap.size w w' := by
  obtain ⟨n0, n1⟩ := h.range
  obtain ⟨a, b⟩ := h.year
  obtain ⟨a', b'⟩ := h.month
  have hd : n - nyI y - cumI y m + 1 = d := by have := h.2; unfold dayI at this; omega
  obtain ⟨h1, h2, h3, h4, _, _⟩ := h.1
  clear h
  have HA := hideS a
  have HB := hideS b
  have HA' := hideS a'
  have HB' := hideS b'
  have HD := hideS hd
  clear a b a' b' hd
  have HLen := hideS (fun (k : Int) (wx : World) (a : 1 ≤ k) (b : k ≤ 12) => refLength_any y k wx a b)
  unfold dateV
  go_enter Tryz.func120, Tryz.ntmps120
  go_wp2_with fail
  go_loop [0, 4, 5] (fun c i _ => ∃ (j C : Int), 1900 ≤ j ∧ j ≤ y ∧ 0 ≤ C ∧ C ≤ 110000 ∧ i = .int .i64 j ∧ c = .int .i64 C ∧ Hid (C = n - nyI j)) (fun _ i _ => (y - intOf i).toNat)
  case atStart => exact ⟨1900, n, by omega, by omega, by omega, by omega, rfl, rfl, by show _ = _; rw [ny_first]; omega⟩
  case round =>
    obtain ⟨j, C, hj1, hj2, hC0, hC1, rfl, rfl, HC⟩ := hrel
    by_cases hlt : j < y
    · have HS : Hid (C - 365 - lpI j = n - nyI (j + 1)) := by
        show _ = _
        rw [HC.out, ny_succ hj1]; omega
      have HP : Hid (0 ≤ C - 365 - lpI j) := by
        show _ ≤ _
        rw [HS.out]
        have := ny_mono (y := j + 1) (z := y) (by omega) (by omega)
        have := HA.out
        omega
      cases hl : leapB j
      · rw [lp_false hl] at HS HP
        have hge : ¬ C < 365 := by have := HP.out; omega
        go_wp2_with (go_at_call 122; refine (refLeap_any _ _).mono ?_; rintro e w' ⟨rfl, rfl⟩)
        go_round
        case rel => exact ⟨j + 1, C - 365, by omega, by omega, by omega, by omega, rfl, rfl, by have := HS.out; show _ = _; omega⟩
        case measure => simp [intOf]; omega
      · rw [lp_true hl] at HS HP
        have hge : ¬ C < 366 := by have := HP.out; omega
        go_wp2_with (go_at_call 122; refine (refLeap_any _ _).mono ?_; rintro e w' ⟨rfl, rfl⟩)
        go_round
        case rel => exact ⟨j + 1, C - 366, by omega, by omega, by omega, by omega, rfl, rfl, by have := HS.out; show _ = _; omega⟩
        case measure => simp [intOf]; omega
    · obtain rfl : j = y := by omega
      have HP : Hid (C < 365 + lpI j) := by
        have := HB.out
        rw [ny_succ hj1] at this
        have := HC.out
        show _ < _
        omega
      cases hl : leapB j
      all_goals
        first | rw [lp_false hl] at HP | rw [lp_true hl] at HP
        have hlt : C < 365 ∨ C < 366 := Or.inr (by have := HP.out; omega)
        clear hlt
        have hlt := HP.out
        first | (have hlt : C < 365 := by omega) | (have hlt : C < 366 := by omega)
        go_wp2_with (go_at_call 122; refine (refLeap_any _ _).mono ?_; rintro e w' ⟨rfl, rfl⟩)
        clear hlt HP
        go_loop [0, 6] (fun c i => ∃ (k C : Int), 1 ≤ k ∧ k ≤ m ∧ 0 ≤ C ∧ C ≤ 110000 ∧ i = .int .i64 k ∧ c = .int .i64 C ∧ Hid (C = n - nyI j - cumI j k)) (fun _ i => (m - intOf i).toNat)
        case atStart => exact ⟨1, C, by omega, by omega, by omega, by omega, rfl, rfl, by show _ = _; rw [cum_first, HC.out]; omega⟩
        case round =>
          clear HC hC0 hC1
          obtain ⟨k, C, hk1, hk, hC0, hC1, rfl, rfl, HC⟩ := hrel
          have H := hideS (fun wx => HLen.out k wx (by omega) (by omega))
          have HS : Hid (cumI j (k + 1) = cumI j k + lenI j k) := cum_succ (by omega) (by omega)
          have l1 := len_lo j k
          by_cases hlt : k < m
          · have hge : lenI j k ≤ C := by
              have := cum_mono (y := j) (m := k + 1) (k := m) (by omega) (by omega) (by omega)
              have := HS.out
              have := HC.out
              have := HA'.out
              omega
            have HC' : Hid (C - lenI j k = n - nyI j - cumI j (k + 1)) := by
              show _ = _
              rw [HS.out, HC.out]; omega
            generalize lenI j k = l at *
            go_wp2_with (go_at_call 164; refine (H.out _).mono ?_; rintro e w' ⟨rfl, rfl⟩)
            go_round
            case rel => exact ⟨k + 1, C - l, by omega, by omega, by omega, by omega, rfl, rfl, HC'⟩
            case measure => simp [intOf]; omega
          · obtain rfl : k = m := by omega
            have hge : ¬ lenI j k ≤ C := by
              have := HB'.out
              rw [HS.out] at this
              have := HC.out
              omega
            have HE : Hid (C + 1 = d) := by
              show _ = _
              rw [← HD.out, HC.out]
            clear HC HD
            generalize lenI j k = l at *
            go_wp2_with (go_at_call 164; refine (H.out _).mono ?_; rintro e w' ⟨rfl, rfl⟩)
            obtain rfl := HE.out
            (try simp only [Exit.inBlock, Exit.then])
            refine bodyPost_ret (v := .tuple #[.agg #[.int .i64 j, .int .i64 k, .int .i64 (C + 1)], .int .i64 0]) (by simp [results, Tryz.results120, go_sem]) rfl ⟨rfl, ?_⟩
            exact ((Below.refl w.heap.size w).alloc (Nat.le_refl _) _)
end Go.Proofs.YtpcgbcdldkmibaaGreat
namespace Go.Proofs.YtpcgbcdldkmibaaGreat
open Go.RowKit

def mthI (y m k : Int) : Int := 12 * (y - 1900) + m - 1 + k
def toY (y m k : Int) : Int := 1900 + mthI y m k / 12
def toM (y m k : Int) : Int := mthI y m k % 12 + 1
def toD (d L l : Int) (e : Bool) : Int := if L < d then L else if e = true ∧ d = l then L else d
def monI (y m d k : Int) (e : Bool) : Int := dayI (toY y m k) (toM y m k) (toD d (lenI (toY y m k) (toM y m k)) (lenI y m) e)
theorem toD_ok {d L l : Int} {e : Bool} (h : 1 ≤ d) (hL : 28 ≤ L) : 1 ≤ toD d L l e ∧ toD d L l e ≤ L := by
  unfold toD
  split
  · omega
  · split <;> omega
theorem toYM {y m k : Int} (h0 : 0 ≤ mthI y m k) (h1 : mthI y m k < 3600) : ymB (toY y m k) (toM y m k) := by
  unfold ymB toY toM
  omega
theorem mon_ok {y m d k : Int} {e : Bool} (hd : 1 ≤ d) (h0 : 0 ≤ mthI y m k) (h1 : mthI y m k < 3600) :
    okD (toY y m k) (toM y m k) (toD d (lenI (toY y m k) (toM y m k)) (lenI y m) e) := by
  obtain ⟨a, b, c, f⟩ := toYM h0 h1
  have := toD_ok (l := lenI y m) (e := e) hd (len_lo (toY y m k) (toM y m k))
  exact ⟨a, b, c, f, this.1, this.2⟩

set_option maxHeartbeats 1600000 in
theorem months_ok (n y m d k : Int) (en : Bool) (w : World) (h : IsD n y m d) (h0 : 0 ≤ mthI y m k) (h1 : mthI y m k < 3600) :
    Calls Tryz.prog 188 #[.int .i64 n, .int .i64 k, .bool en] w fun e w' => e = .returned (.tuple #[.int .i64 (monI y m d k en), .int .i64 0]) ∧ w' = w := by
  have HC := hideS (civil_ok n y m d w h)
  obtain ⟨y1, y2, m1, m2, d1, d2⟩ := h.1
  have HO := hideS (ofP_ok _ _ _ w (mon_ok (y := y) (m := m) (d := d) (k := k) (e := en) d1 h0 h1))
  obtain ⟨a1, a2, a3, a4⟩ := toYM h0 h1
  have HL1 := hideS (fun wx => length_any (toY y m k) (toM y m k) wx a3 a4)
  have HL2 := hideS (fun wx => length_any y m wx m1 m2)
  unfold monI
  have hY : 1900 + (12 * (y - 1900) + m - 1 + k) / 12 = toY y m k := rfl
  have hM : (12 * (y - 1900) + m - 1 + k) % 12 + 1 = toM y m k := rfl
  unfold mthI at h0 h1
  have l1 := len_lo (toY y m k) (toM y m k)
  have l2 := len_lo y m
  clear h
  generalize toY y m k = Y at *
  generalize toM y m k = M at *
  generalize lenI Y M = L at *
  generalize lenI y m = l at *
  rcases (show L < d ∨ (d ≤ L ∧ ((en = true ∧ d = l) ∨ (en = true ∧ d ≠ l) ∨ en = false)) by cases en <;> simp <;> omega) with hd | ⟨hd, ⟨rfl, he⟩ | ⟨rfl, he⟩ | rfl⟩
  · have hD : toD d L l en = L := by unfold toD; rw [if_pos hd]
    rw [hD] at HO ⊢
    clear hD
    generalize dayI Y M L = R at *
    go_enter Tryz.func188, Tryz.ntmps188
    go_wp2_with (first | (go_at_call 182; refine HC.out.mono ?_; rintro e w' ⟨rfl, rfl⟩) | (go_at_call_of 201 (Value.int IntKind.i64 Y); refine (HL1.out _).mono ?_; rintro e w' ⟨rfl, rfl⟩) | (go_at_call_of 201 (Value.int IntKind.i64 y); refine (HL2.out _).mono ?_; rintro e w' ⟨rfl, rfl⟩) | (go_at_call 196; refine HO.out.mono ?_; rintro e w' ⟨rfl, rfl⟩))
    go_ret2
    exact ⟨rfl, rfl⟩
  · have hD : toD d L l true = L := by unfold toD; rw [if_neg (by omega), if_pos ⟨rfl, he⟩]
    rw [hD] at HO ⊢
    clear hD
    have he' : (d == l) = true := by rw [beq_iff_eq]; exact he
    clear he
    generalize dayI Y M L = R at *
    go_enter Tryz.func188, Tryz.ntmps188
    go_wp2_with (first | (go_at_call 182; refine HC.out.mono ?_; rintro e w' ⟨rfl, rfl⟩) | (go_at_call_of 201 (Value.int IntKind.i64 Y); refine (HL1.out _).mono ?_; rintro e w' ⟨rfl, rfl⟩) | (go_at_call_of 201 (Value.int IntKind.i64 y); refine (HL2.out _).mono ?_; rintro e w' ⟨rfl, rfl⟩) | (go_at_call 196; refine HO.out.mono ?_; rintro e w' ⟨rfl, rfl⟩))
    go_ret2
    exact ⟨rfl, rfl⟩
  · have hD : toD d L l true = d := by unfold toD; rw [if_neg (by omega), if_neg (fun a => he a.2)]
    rw [hD] at HO ⊢
    clear hD
    have he' : (d == l) = false := by rw [beq_eq_false_iff_ne]; exact he
    clear he
    generalize dayI Y M d = R at *
    go_enter Tryz.func188, Tryz.ntmps188
    go_wp2_with (first | (go_at_call 182; refine HC.out.mono ?_; rintro e w' ⟨rfl, rfl⟩) | (go_at_call_of 201 (Value.int IntKind.i64 Y); refine (HL1.out _).mono ?_; rintro e w' ⟨rfl, rfl⟩) | (go_at_call_of 201 (Value.int IntKind.i64 y); refine (HL2.out _).mono ?_; rintro e w' ⟨rfl, rfl⟩) | (go_at_call 196; refine HO.out.mono ?_; rintro e w' ⟨rfl, rfl⟩))
    go_ret2
    exact ⟨rfl, rfl⟩
  · have hD : toD d L l false = d := by unfold toD; rw [if_neg (by omega), if_neg (fun a => Bool.noConfusion a.1)]
    rw [hD] at HO ⊢
    clear hD
    generalize dayI Y M d = R at *
    go_enter Tryz.func188, Tryz.ntmps188
    go_wp2_with (first | (go_at_call 182; refine HC.out.mono ?_; rintro e w' ⟨rfl, rfl⟩) | (go_at_call_of 201 (Value.int IntKind.i64 Y); refine (HL1.out _).mono ?_; rintro e w' ⟨rfl, rfl⟩) | (go_at_call_of 201 (Value.int IntKind.i64 y); refine (HL2.out _).mono ?_; rintro e w' ⟨rfl, rfl⟩) | (go_at_call 196; refine HO.out.mono ?_; rintro e w' ⟨rfl, rfl⟩))
    go_ret2
    exact ⟨rfl, rfl⟩
theorem months_far (n y m d k : Int) (en : Bool) (w : World) (h : IsD n y m d) (hk : ¬ (0 ≤ mthI y m k ∧ mthI y m k < 3600)) (k0 : -9223372036854775808 ≤ k) (k1 : k ≤ 9223372036854775807) :
    Calls Tryz.prog 188 #[.int .i64 n, .int .i64 k, .bool en] w fun e w' => e = .returned (.tuple #[.int .i64 0, .int .i64 51]) ∧ w' = w := by
  have HC := hideS (civil_ok n y m d w h)
  obtain ⟨y1, y2, m1, m2, d1, d2⟩ := h.1
  unfold mthI at hk
  clear h
  rcases (show k < -(12 * (y - 1900) + m - 1) ∨ (¬ k < -(12 * (y - 1900) + m - 1) ∧ 3600 - (12 * (y - 1900) + m - 1) ≤ k) by omega) with hd | ⟨hd, hd'⟩
  all_goals
    clear hk
    go_enter Tryz.func188, Tryz.ntmps188
    go_wp2_with (go_at_call 182; refine HC.out.mono ?_; rintro e w' ⟨rfl, rfl⟩)
    go_ret2
    exact ⟨rfl, rfl⟩
end Go.Proofs.YtpcgbcdldkmibaaGreat
namespace Go.Proofs.YtpcgbcdldkmibaaGreat
open Go.RowKit

set_option maxHeartbeats 800000 in
theorem refMonth_ok (y m d k : Int) (w : World) (y1 : 1900 ≤ y) (y2 : y ≤ 2199) (m1 : 1 ≤ m) (m2 : m ≤ 12) (h0 : 0 ≤ mthI y m k) (h1 : mthI y m k < 3600) :
    Calls Tryz.prog 160 #[.agg #[.int .i64 y, .int .i64 m, .int .i64 d], .int .i64 k] w fun e w' => e = .returned (.tuple #[.int .i64 (toY y m k), .int .i64 (toM y m k), .bool true]) ∧ Below w.heap.size w w' := by
  have hY : (12 * y + m - 1 + k) / 12 = toY y m k := by unfold toY mthI; omega
  have hM : (12 * y + m - 1 + k) % 12 + 1 = toM y m k := by unfold toM mthI; omega
  unfold mthI at h0 h1
  generalize toY y m k = Y at *
  generalize toM y m k = M at *
  go_enter Tryz.func160, Tryz.ntmps160
  go_wp2_with fail
  go_ret3
  obtain rfl := hY
  exact ⟨rfl, (Below.refl w.heap.size w).alloc (Nat.le_refl _) _⟩
theorem refMonth_far (y m d k : Int) (w : World) (y1 : 1900 ≤ y) (y2 : y ≤ 2199) (m1 : 1 ≤ m) (m2 : m ≤ 12) (hk : ¬ (0 ≤ mthI y m k ∧ mthI y m k < 3600)) :
    Calls Tryz.prog 160 #[.agg #[.int .i64 y, .int .i64 m, .int .i64 d], .int .i64 k] w fun e w' => e = .returned (.tuple #[.int .i64 0, .int .i64 0, .bool false]) ∧ Below w.heap.size w w' := by
  unfold mthI at hk
  rcases (show k < -4000 ∨ (-4000 ≤ k ∧ 4000 < k) ∨ ((-4000 ≤ k ∧ k ≤ 4000) ∧ 12 * y + m - 1 + k < 22800) ∨ ((-4000 ≤ k ∧ k ≤ 4000) ∧ 22800 ≤ 12 * y + m - 1 + k ∧ 26399 < 12 * y + m - 1 + k) by omega) with hd | ⟨hd, hd'⟩ | ⟨⟨hd, hd'⟩, he⟩ | ⟨⟨hd, hd'⟩, he, he'⟩
  all_goals
    clear hk
    go_enter Tryz.func160, Tryz.ntmps160
    go_wp2_with fail
    go_ret3
    exact ⟨rfl, (Below.refl w.heap.size w).alloc (Nat.le_refl _) _⟩

theorem date_cells {w w1 : World} {y m d : Int} (hb : Below (w.alloc (.cells #[.int .i64 y, .int .i64 m, .int .i64 d] 180)).heap.size (w.alloc (.cells #[.int .i64 y, .int .i64 m, .int .i64 d] 180)) w1) :
    w1.cell? ⟨w.heap.size, 0, none⟩ = some (.int .i64 y) ∧ w1.cell? ⟨w.heap.size, 1, none⟩ = some (.int .i64 m) ∧ w1.cell? ⟨w.heap.size, 2, none⟩ = some (.int .i64 d) := by
  refine ⟨?_, ?_, ?_⟩
  · rw [hb.cell (p := ⟨w.heap.size, 0, none⟩) (by simp)]; simp
  · rw [hb.cell (p := ⟨w.heap.size, 1, none⟩) (by simp)]; simp
  · rw [hb.cell (p := ⟨w.heap.size, 2, none⟩) (by simp)]; simp
theorem month_below {w w1 w2 : World} {o : Obj} (hb1 : Below w.heap.size w w1) (hb2 : Below (w1.alloc o).heap.size (w1.alloc o) w2) : Below w.heap.size w w2 :=
  hb1.trans ((((Below.refl _ w1).alloc (Nat.le_refl _) _).trans (hb2.mono (by simp))).mono hb1.size)

theorem letter3 {w w2 : World} {y m d : Int} {b : Nat} (nq : Nat) (c0 : w2.cell? ⟨b, 0, none⟩ = some (.int .i64 y)) (c1 : w2.cell? ⟨b, 1, none⟩ = some (.int .i64 m)) (c2 : w2.cell? ⟨b, 2, none⟩ = some (.int .i64 d)) (hb : Hid (Below w.heap.size w w2)) :
    ∃ w3, w2.drewN nq = w3 ∧ w3.cell? ⟨b, 0, none⟩ = some (.int .i64 y) ∧ w3.cell? ⟨b, 1, none⟩ = some (.int .i64 m) ∧ w3.cell? ⟨b, 2, none⟩ = some (.int .i64 d) ∧ Hid (Below w.heap.size w w3) :=
  ⟨_, rfl, c0, c1, c2, ⟨hb.out.os, hb.out.tape, hb.out.output, hb.out.size, hb.out.block⟩⟩
theorem below_drewNd {B : Nat} {w w2 : World} {n : Nat} (hb : Below B w w2) : Below B w (w2.drewN n) := ⟨hb.os, hb.tape, hb.output, hb.size, hb.block⟩
theorem toD_end {d L l : Int} (he : d = l) : toD d L l true = L := by
  unfold toD
  by_cases hd : L < d
  · rw [if_pos hd]
  · rw [if_neg hd, if_pos ⟨rfl, he⟩]
theorem toD_far {d L l : Int} {e : Bool} (hd : L < d) : toD d L l e = L := by unfold toD; rw [if_pos hd]
theorem toD_in {d L l : Int} {e : Bool} (hd : d ≤ L) (he : ¬ (e = true ∧ d = l)) : toD d L l e = d := by unfold toD; rw [if_neg (by omega), if_neg he]

set_option maxRecDepth 10000 in
set_option maxHeartbeats 1600000 in
theorem refMonths_ok (n y m d k : Int) (en : Bool) (w : World) (h : IsD n y m d) (h0 : 0 ≤ mthI y m k) (h1 : mthI y m k < 3600) :
    Calls Tryz.prog 161 #[.int .i64 n, .int .i64 k, .bool en] w fun e w' => e = .returned (.tuple #[.int .i64 (monI y m d k en), .int .i64 0]) ∧ Below w.heap.size w w' := by
  have HC := hideS (fun w => refCiv_ok n y m d w h)
  unfold dateV at HC
  obtain ⟨y1, y2, m1, m2, d1, d2⟩ := h.1
  have HO := hideS (fun wx => refOf_ok _ _ _ wx (mon_ok (y := y) (m := m) (d := d) (k := k) (e := en) d1 h0 h1))
  obtain ⟨a1, a2, a3, a4⟩ := toYM h0 h1
  have HL1 := hideS (fun wx => refLength_any (toY y m k) (toM y m k) wx a3 a4)
  have HL2 := hideS (fun wx => refLength_any y m wx m1 m2)
  have HM := hideS (fun wx => refMonth_ok y m d k wx y1 y2 m1 m2 h0 h1)
  unfold monI
  have l1 := len_lo (toY y m k) (toM y m k)
  have l2 := len_lo y m
  clear h h0 h1
  generalize toY y m k = Y at *
  generalize toM y m k = M at *
  generalize lenI Y M = L at *
  generalize lenI y m = l at *
  rcases (show (L < d ∧ en = true ∧ d = l) ∨ (d ≤ L ∧ en = true ∧ d = l) ∨ (L < d ∧ en = true ∧ d ≠ l) ∨ (d ≤ L ∧ en = true ∧ d ≠ l) ∨ (L < d ∧ en = false) ∨ (d ≤ L ∧ en = false) by cases en <;> simp <;> omega) with ⟨hd, rfl, he⟩ | ⟨hd, rfl, he⟩ | ⟨hd, rfl, he⟩ | ⟨hd, rfl, he⟩ | ⟨hd, rfl⟩ | ⟨hd, rfl⟩
  · have hD := toD_end (L := L) he
    rw [hD] at HO ⊢
    clear hD
    have he' : (d == l) = true := by rw [beq_iff_eq]; exact he
    clear he
    generalize dayI Y M L = R at *
    go_enter Tryz.func161, Tryz.ntmps161
    go_wp2_with (first | (go_at_call 120; refine (HC.out _).mono ?_; rintro e w1 ⟨rfl, hb1⟩) | (go_at_call 160; refine (HM.out _).mono ?_; rintro e w2 ⟨rfl, hb2⟩))
    obtain ⟨c0, c1, c2⟩ := date_cells hb2
    have HB := hideS (month_below hb1 hb2)
    clear hb1 hb2
    go_quiet ((go_at_call 164; exact Calls.quiet_of_same (HL1.out _)))
    go_wp2_with fail
    obtain ⟨w3, hw3, c0, c1, c2, HB⟩ := letter3 nq c0 c1 c2 HB
    rw [hw3]
    clear hw3
    go_quiet ((go_at_call 164; exact Calls.quiet_of_same (HL2.out _)))
    go_wp2_with (first | (go_at_call 164; refine (HL1.out _).mono ?_; rintro e w' ⟨rfl, rfl⟩) | (go_at_call 121; refine (HO.out _).mono ?_; rintro e w' ⟨rfl, rfl⟩))
    go_ret2
    exact ⟨rfl, below_drewNd HB.out⟩
  · have hD := toD_end (L := L) he
    rw [hD] at HO ⊢
    clear hD
    have he' : (d == l) = true := by rw [beq_iff_eq]; exact he
    clear he
    generalize dayI Y M L = R at *
    go_enter Tryz.func161, Tryz.ntmps161
    go_wp2_with (first | (go_at_call 120; refine (HC.out _).mono ?_; rintro e w1 ⟨rfl, hb1⟩) | (go_at_call 160; refine (HM.out _).mono ?_; rintro e w2 ⟨rfl, hb2⟩))
    obtain ⟨c0, c1, c2⟩ := date_cells hb2
    have HB := hideS (month_below hb1 hb2)
    clear hb1 hb2
    go_quiet ((go_at_call 164; exact Calls.quiet_of_same (HL1.out _)))
    go_wp2_with fail
    obtain ⟨w3, hw3, c0, c1, c2, HB⟩ := letter3 nq c0 c1 c2 HB
    rw [hw3]
    clear hw3
    go_quiet ((go_at_call 164; exact Calls.quiet_of_same (HL2.out _)))
    go_wp2_with (first | (go_at_call 164; refine (HL1.out _).mono ?_; rintro e w' ⟨rfl, rfl⟩) | (go_at_call 121; refine (HO.out _).mono ?_; rintro e w' ⟨rfl, rfl⟩))
    go_ret2
    exact ⟨rfl, below_drewNd HB.out⟩
  · have hD := toD_far (l := l) (e := true) hd
    rw [hD] at HO ⊢
    clear hD
    have he' : (d == l) = false := by rw [beq_eq_false_iff_ne]; exact he
    clear he
    generalize dayI Y M L = R at *
    go_enter Tryz.func161, Tryz.ntmps161
    go_wp2_with (first | (go_at_call 120; refine (HC.out _).mono ?_; rintro e w1 ⟨rfl, hb1⟩) | (go_at_call 160; refine (HM.out _).mono ?_; rintro e w2 ⟨rfl, hb2⟩))
    obtain ⟨c0, c1, c2⟩ := date_cells hb2
    have HB := hideS (month_below hb1 hb2)
    clear hb1 hb2
    go_quiet ((go_at_call 164; exact Calls.quiet_of_same (HL1.out _)))
    go_wp2_with fail
    obtain ⟨w3, hw3, c0, c1, c2, HB⟩ := letter3 nq c0 c1 c2 HB
    rw [hw3]
    clear hw3
    go_quiet ((go_at_call 164; exact Calls.quiet_of_same (HL2.out _)))
    go_wp2_with (first | (go_at_call 164; refine (HL1.out _).mono ?_; rintro e w' ⟨rfl, rfl⟩) | (go_at_call 121; refine (HO.out _).mono ?_; rintro e w' ⟨rfl, rfl⟩))
    go_ret2
    exact ⟨rfl, below_drewNd HB.out⟩
  · have hD := toD_in (l := l) (e := true) hd (fun a => he a.2)
    rw [hD] at HO ⊢
    clear hD
    have he' : (d == l) = false := by rw [beq_eq_false_iff_ne]; exact he
    clear he
    generalize dayI Y M d = R at *
    go_enter Tryz.func161, Tryz.ntmps161
    go_wp2_with (first | (go_at_call 120; refine (HC.out _).mono ?_; rintro e w1 ⟨rfl, hb1⟩) | (go_at_call 160; refine (HM.out _).mono ?_; rintro e w2 ⟨rfl, hb2⟩))
    obtain ⟨c0, c1, c2⟩ := date_cells hb2
    have HB := hideS (month_below hb1 hb2)
    clear hb1 hb2
    go_quiet ((go_at_call 164; exact Calls.quiet_of_same (HL1.out _)))
    go_wp2_with fail
    obtain ⟨w3, hw3, c0, c1, c2, HB⟩ := letter3 nq c0 c1 c2 HB
    rw [hw3]
    clear hw3
    go_quiet ((go_at_call 164; exact Calls.quiet_of_same (HL2.out _)))
    go_wp2_with (first | (go_at_call 164; refine (HL1.out _).mono ?_; rintro e w' ⟨rfl, rfl⟩) | (go_at_call 121; refine (HO.out _).mono ?_; rintro e w' ⟨rfl, rfl⟩))
    go_ret2
    exact ⟨rfl, below_drewNd HB.out⟩
  · have hD := toD_far (l := l) (e := false) hd
    rw [hD] at HO ⊢
    clear hD
    generalize dayI Y M L = R at *
    go_enter Tryz.func161, Tryz.ntmps161
    go_wp2_with (first | (go_at_call 120; refine (HC.out _).mono ?_; rintro e w1 ⟨rfl, hb1⟩) | (go_at_call 160; refine (HM.out _).mono ?_; rintro e w2 ⟨rfl, hb2⟩))
    obtain ⟨c0, c1, c2⟩ := date_cells hb2
    have HB := hideS (month_below hb1 hb2)
    clear hb1 hb2
    go_quiet ((go_at_call 164; exact Calls.quiet_of_same (HL1.out _)))
    go_wp2_with fail
    obtain ⟨w3, hw3, c0, c1, c2, HB⟩ := letter3 nq c0 c1 c2 HB
    rw [hw3]
    clear hw3
    go_quiet ((go_at_call 164; exact Calls.quiet_of_same (HL2.out _)))
    go_wp2_with (first | (go_at_call 164; refine (HL1.out _).mono ?_; rintro e w' ⟨rfl, rfl⟩) | (go_at_call 121; refine (HO.out _).mono ?_; rintro e w' ⟨rfl, rfl⟩))
    go_ret2
    exact ⟨rfl, below_drewNd HB.out⟩
  · have hD := toD_in (l := l) (e := false) hd (fun a => Bool.noConfusion a.1)
    rw [hD] at HO ⊢
    clear hD
    generalize dayI Y M d = R at *
    go_enter Tryz.func161, Tryz.ntmps161
    go_wp2_with (first | (go_at_call 120; refine (HC.out _).mono ?_; rintro e w1 ⟨rfl, hb1⟩) | (go_at_call 160; refine (HM.out _).mono ?_; rintro e w2 ⟨rfl, hb2⟩))
    obtain ⟨c0, c1, c2⟩ := date_cells hb2
    have HB := hideS (month_below hb1 hb2)
    clear hb1 hb2
    go_quiet ((go_at_call 164; exact Calls.quiet_of_same (HL1.out _)))
    go_wp2_with fail
    obtain ⟨w3, hw3, c0, c1, c2, HB⟩ := letter3 nq c0 c1 c2 HB
    rw [hw3]
    clear hw3
    go_quiet ((go_at_call 164; exact Calls.quiet_of_same (HL2.out _)))
    go_wp2_with (first | (go_at_call 164; refine (HL1.out _).mono ?_; rintro e w' ⟨rfl, rfl⟩) | (go_at_call 121; refine (HO.out _).mono ?_; rintro e w' ⟨rfl, rfl⟩))
    go_ret2
    exact ⟨rfl, below_drewNd HB.out⟩
end Go.Proofs.YtpcgbcdldkmibaaGreat
namespace Go.Proofs.YtpcgbcdldkmibaaGreat
open Go.RowKit

end Go.Proofs.YtpcgbcdldkmibaaGreat
namespace Go.Proofs.YtpcgbcdldkmibaaGreat
open Go.RowKit

def wedI (n : Int) : Int := n + (9 - n) % 7
def thirdI (y m : Int) : Int := wedI (dayI y m 1) + 14
theorem okD_first {y m : Int} (h : ymB y m) (d : Int) (h1 : 1 ≤ d) (h2 : d ≤ 28) : okD y m d := by
  obtain ⟨a, b, c, e⟩ := h
  have := len_lo y m
  exact ⟨a, b, c, e, h1, by omega⟩
theorem third_ok (y m : Int) (w : World) (h : ymB y m) :
    Calls Tryz.prog 190 #[.int .i64 y, .int .i64 m] w fun e w' => e = .returned (.tuple #[.int .i64 (thirdI y m), .int .i64 0]) ∧ w' = w := by
  have HO := hideS (ofP_ok y m 1 w (okD_first h 1 (by omega) (by omega)))
  obtain ⟨n0, n1⟩ := (isD_of (okD_first h 1 (by omega) (by omega))).range
  unfold thirdI wedI
  generalize dayI y m 1 = n at *
  clear h
  go_enter Tryz.func190, Tryz.ntmps190
  go_wp2_with (go_at_call 196; refine HO.out.mono ?_; rintro e w' ⟨rfl, rfl⟩)
  go_ret2
  exact ⟨rfl, rfl⟩
theorem third_eq (y m : Int) : thirdI y m = wedI (dayI y m 15) := by
  have e : dayI y m 15 = dayI y m 1 + 14 := by unfold dayI; omega
  unfold thirdI wedI
  rw [e]
  omega

set_option maxHeartbeats 400000 in
theorem refThird_ok (y m : Int) (w : World) (h : ymB y m) :
    Calls Tryz.prog 163 #[.int .i64 y, .int .i64 m] w fun e w' => e = .returned (.tuple #[.int .i64 (thirdI y m), .int .i64 0]) ∧ w' = w := by
  have HO := hideS (refOf_ok y m 15 w (okD_first h 15 (by omega) (by omega)))
  obtain ⟨n0, n1⟩ := (isD_of (okD_first h 15 (by omega) (by omega))).range
  rw [third_eq]
  generalize dayI y m 15 = n at *
  clear h
  obtain ⟨t, ht⟩ : ∃ t, wedI n = t := ⟨_, rfl⟩
  rw [ht]
  unfold wedI at ht
  have HT := hideS ht
  clear ht
  go_enter Tryz.func163, Tryz.ntmps163
  go_wp2_with (go_at_call 121; refine HO.out.mono ?_; rintro e w' ⟨rfl, rfl⟩)
  clear HO
  go_loop [6] (fun i => ∃ (k : Int), n ≤ k ∧ k ≤ n + 6 ∧ i = .int .i64 k ∧ Hid (k + (9 - k) % 7 = t)) (fun i => (t - intOf i).toNat)
  case atStart => exact ⟨n, by omega, by omega, rfl, HT⟩
  case round =>
    obtain ⟨k, hk1, hk2, rfl, HK⟩ := hrel
    by_cases hw : k % 7 = 2
    · have HE : Hid (k = t) := by have := HK.out; show _ = _; omega
      clear HK HT
      go_wp2_with fail
      go_ret2
      obtain rfl := HE.out
      exact ⟨rfl, rfl⟩
    · have HK' : Hid (k + 1 + (9 - (k + 1)) % 7 = t) := by have := HK.out; show _ = _; omega
      have hlt : k < t := by have := HK.out; omega
      have hle : k + 1 ≤ n + 6 := by have := HK.out; have := HT.out; omega
      go_wp2_with fail
      go_round
      case rel => exact ⟨k + 1, by omega, hle, rfl, HK'⟩
      case measure => simp [intOf]; omega
def eaDay (y : Int) : Int := dayI y (eaT y / 31) (eaT y % 31 + 1)

structure EaW (y a b c d e f g h i k l m t : Int) : Prop where
  fa : y % 19 = a
  fb : y / 100 = b
  fc : y % 100 = c
  fd : b / 4 = d
  fe : b % 4 = e
  ff : (b + 8) / 25 = f
  fg : (b - f + 1) / 3 = g
  fh : (19 * a + b - d - g + 15) % 30 = h
  fi : c / 4 = i
  fk : c % 4 = k
  fl : (32 + 2 * e + 2 * i - h - k) % 7 = l
  fm : (a + 11 * h + 22 * l) / 451 = m
  ft : h + l - 7 * m + 114 = t
theorem eaW_ex (y : Int) : ∃ a b c d e f g h i k l m, EaW y a b c d e f g h i k l m (eaT y) :=
  ⟨_, _, _, _, _, _, _, _, _, _, _, _, ⟨rfl, rfl, rfl, rfl, rfl, rfl, rfl, rfl, rfl, rfl, rfl, rfl, rfl⟩⟩

set_option maxHeartbeats 800000 in
theorem easterP_any (y : Int) (w : World) (h0 : 1900 ≤ y) (h1 : y ≤ 2199) :
    Calls Tryz.prog 230 #[.int .i64 y] w fun e w' => e = .returned (.tuple #[.int .i64 (eaT y / 31), .int .i64 (eaT y % 31 + 1)]) ∧ w' = w := by
  obtain ⟨a, b, c, d, e, f, g, h, i, k, l, m, H⟩ := eaW_ex y
  have t0 := (ea_ok h0 h1).pos
  have t1 := (ea_ok h0 h1).small
  generalize eaT y = t at *
  obtain ⟨ea, eb, ec, ed, ee, ef, eg, eh, ei, ek, el, em, et⟩ := H
  have a0 : 0 ≤ a ∧ a ≤ 18 := by omega
  have b0 : 19 ≤ b ∧ b ≤ 21 := by omega
  have c0 : 0 ≤ c ∧ c ≤ 99 := by omega
  have d0 : 0 ≤ d ∧ d ≤ 5 := by omega
  have e0 : 0 ≤ e ∧ e ≤ 3 := by omega
  have f0 : 0 ≤ f ∧ f ≤ 2 := by omega
  have g0 : 0 ≤ g ∧ g ≤ 8 := by omega
  have hx : 0 ≤ h ∧ h ≤ 29 := by omega
  have i0 : 0 ≤ i ∧ i ≤ 24 := by omega
  have k0 : 0 ≤ k ∧ k ≤ 3 := by omega
  have l0 : 0 ≤ l ∧ l ≤ 6 := by omega
  have m0 : 0 ≤ m ∧ m ≤ 2 := by omega
  obtain ⟨a0, a1⟩ := a0
  obtain ⟨b0, b1⟩ := b0
  obtain ⟨c0, c1⟩ := c0
  obtain ⟨d0, d1⟩ := d0
  obtain ⟨e0, e1⟩ := e0
  obtain ⟨f0, f1⟩ := f0
  obtain ⟨g0, g1⟩ := g0
  obtain ⟨hx, hx1⟩ := hx
  obtain ⟨i0, i1⟩ := i0
  obtain ⟨k0, k1⟩ := k0
  obtain ⟨l0, l1⟩ := l0
  obtain ⟨m0, m1⟩ := m0
  go_enter Tryz.func230, Tryz.ntmps230
  go_wp2_with fail
  go_ret2
  exact ⟨rfl, rfl⟩

theorem easter_ok (y : Int) (w : World) (h0 : 1900 ≤ y) (h1 : y ≤ 2199) :
    Calls Tryz.prog 229 #[.int .i64 y] w fun e w' => e = .returned (.tuple #[.int .i64 (eaDay y), .int .i64 0]) ∧ w' = w := by
  have HY : Hid (∀ w, Calls Tryz.prog 202 #[.int .i64 y] w fun e w' => e = .returned (.bool true) ∧ w' = w) := fun w => by
    have hy := isYear_any y w
    rw [decide_eq_true (⟨h0, h1⟩ : 1900 ≤ y ∧ y ≤ 2199)] at hy; exact hy
  have HE := hideS (easterP_any y w h0 h1)
  have HO := hideS (ofP_ok y (eaT y / 31) (eaT y % 31 + 1) w (ea_ok h0 h1).ok)
  unfold eaDay
  generalize dayI y (eaT y / 31) (eaT y % 31 + 1) = R at *
  generalize eaT y / 31 = M at *
  generalize eaT y % 31 + 1 = D at *
  go_enter Tryz.func229, Tryz.ntmps229
  go_wp2_with (first | (go_at_call 202; refine (HY.out _).mono ?_; rintro e w' ⟨rfl, rfl⟩) | (go_at_call 230; refine HE.out.mono ?_; rintro e w' ⟨rfl, rfl⟩) | (go_at_call 196; refine HO.out.mono ?_; rintro e w' ⟨rfl, rfl⟩))
  go_ret2
  exact ⟨rfl, rfl⟩
theorem easter_bad (y : Int) (w : World) (h : ¬ (1900 ≤ y ∧ y ≤ 2199)) :
    Calls Tryz.prog 229 #[.int .i64 y] w fun e w' => e = .returned (.tuple #[.int .i64 0, .int .i64 50]) ∧ w' = w := by
  have HY : Hid (∀ w, Calls Tryz.prog 202 #[.int .i64 y] w fun e w' => e = .returned (.bool false) ∧ w' = w) := fun w => by
    have hy := isYear_any y w
    rw [decide_eq_false h] at hy; exact hy
  clear h
  go_enter Tryz.func229, Tryz.ntmps229
  go_wp2_with (go_at_call 202; refine (HY.out _).mono ?_; rintro e w' ⟨rfl, rfl⟩)
  go_ret2
  exact ⟨rfl, rfl⟩

set_option maxHeartbeats 1600000 in
theorem refEaster_ok (y : Int) (w : World) (h0 : 1900 ≤ y) (h1 : y ≤ 2199) :
    Calls Tryz.prog 199 #[.int .i64 y] w fun e w' => e = .returned (.tuple #[.int .i64 (eaDay y), .int .i64 0]) ∧ w' = w := by
  have HO := hideS (refOf_ok y (eaT y / 31) (eaT y % 31 + 1) w (ea_ok h0 h1).ok)
  unfold eaDay
  generalize dayI y (eaT y / 31) (eaT y % 31 + 1) = R at *
  obtain ⟨a, b, c, d, e, f, g, h, i, k, l, m, H⟩ := eaW_ex y
  have t0 := (ea_ok h0 h1).pos
  have t1 := (ea_ok h0 h1).small
  generalize eaT y = t at *
  obtain ⟨ea, eb, ec, ed, ee, ef, eg, eh, ei, ek, el, em, et⟩ := H
  have a0 : 0 ≤ a ∧ a ≤ 18 := by omega
  have b0 : 19 ≤ b ∧ b ≤ 21 := by omega
  have c0 : 0 ≤ c ∧ c ≤ 99 := by omega
  have d0 : 0 ≤ d ∧ d ≤ 5 := by omega
  have e0 : 0 ≤ e ∧ e ≤ 3 := by omega
  have f0 : 0 ≤ f ∧ f ≤ 2 := by omega
  have g0 : 0 ≤ g ∧ g ≤ 8 := by omega
  have hx : 0 ≤ h ∧ h ≤ 29 := by omega
  have i0 : 0 ≤ i ∧ i ≤ 24 := by omega
  have k0 : 0 ≤ k ∧ k ≤ 3 := by omega
  have l0 : 0 ≤ l ∧ l ≤ 6 := by omega
  have m0 : 0 ≤ m ∧ m ≤ 2 := by omega
  obtain ⟨a0, a1⟩ := a0
  obtain ⟨b0, b1⟩ := b0
  obtain ⟨c0, c1⟩ := c0
  obtain ⟨d0, d1⟩ := d0
  obtain ⟨e0, e1⟩ := e0
  obtain ⟨f0, f1⟩ := f0
  obtain ⟨g0, g1⟩ := g0
  obtain ⟨hx, hx1⟩ := hx
  obtain ⟨i0, i1⟩ := i0
  obtain ⟨k0, k1⟩ := k0
  obtain ⟨l0, l1⟩ := l0
  obtain ⟨m0, m1⟩ := m0
  go_enter Tryz.func199, Tryz.ntmps199
  go_wp2_with (go_at_call 121; refine HO.out.mono ?_; rintro e w' ⟨rfl, rfl⟩)
  go_ret2
  exact ⟨rfl, rfl⟩
end Go.Proofs.YtpcgbcdldkmibaaGreat
namespace Go.Proofs.YtpcgbcdldkmibaaGreat
open Go.RowKit

theorem ups_unique {W n : Int} {u d u' d' : Nat} (h : Ups W n u d) (h' : Ups W n u' d') : u = u' ∧ d = d' := by
  constructor
  · rcases Nat.lt_trichotomy u u' with e | e | e
    · have := h'.uo u e; rw [h.uf] at this; exact Bool.noConfusion this
    · exact e
    · have := h.uo u' e; rw [h'.uf] at this; exact Bool.noConfusion this
  · rcases Nat.lt_trichotomy d d' with e | e | e
    · have := h'.dn d e; rw [h.df] at this; exact Bool.noConfusion this
    · exact e
    · have := h.dn d' e; rw [h'.df] at this; exact Bool.noConfusion this
open Classical in
noncomputable def mvI (W n mv : Int) : Int := if h : ∃ p : Nat × Nat, Ups W n p.1 p.2 then movI W n mv h.choose.1 h.choose.2 else n
theorem mv_eq {W n mv : Int} {u d : Nat} (h : Ups W n u d) : mvI W n mv = movI W n mv u d := by
  have hx : ∃ p : Nat × Nat, Ups W n p.1 p.2 := ⟨(u, d), h⟩
  unfold mvI
  rw [dif_pos hx]
  have e := ups_unique hx.choose_spec h
  rw [e.1, e.2]
def mostI (m : Int) : Int := if m = 2 then 29 else if m = 4 ∨ m = 6 ∨ m = 9 ∨ m = 11 then 30 else 31
def fitB (r : Rul) : Bool :=
  if r.kind = 4 then decide (r.mon = 0 ∧ r.nth = 0 ∧ r.wd = 0 ∧ r.off = 0 ∧ r.fr = 0 ∧ r.to = 0 ∧ r.mv = 0 ∧ 0 ≤ r.day ∧ r.day ≤ 109572)
  else decide (1900 ≤ r.fr ∧ r.fr ≤ 2199 ∧ r.fr ≤ r.to ∧ r.to ≤ 2199 ∧ 0 ≤ r.mv ∧ r.mv ≤ 2) &&
    (if r.kind = 1 then decide (r.nth = 0 ∧ r.wd = 0 ∧ r.off = 0 ∧ 1 ≤ r.mon ∧ r.mon ≤ 12 ∧ 1 ≤ r.day ∧ r.day ≤ mostI r.mon)
    else if r.kind = 2 then decide (r.day = 0 ∧ r.off = 0 ∧ 1 ≤ r.mon ∧ r.mon ≤ 12 ∧ 0 ≤ r.wd ∧ r.wd ≤ 6 ∧ 1 ≤ r.nth ∧ r.nth ≤ 5)
    else if r.kind = 3 then decide (r.mon = 0 ∧ r.day = 0 ∧ r.nth = 0 ∧ r.wd = 0 ∧ -100 ≤ r.off ∧ r.off ≤ 100) else false)
theorem fit_cases {r : Rul} (h : fitB r = true) :
    (r.kind = 4 ∧ 0 ≤ r.day ∧ r.day ≤ 109572 ∧ r.mv = 0) ∨
    ((1900 ≤ r.fr ∧ r.fr ≤ r.to ∧ r.to ≤ 2199 ∧ 0 ≤ r.mv ∧ r.mv ≤ 2) ∧
      ((r.kind = 1 ∧ 1 ≤ r.mon ∧ r.mon ≤ 12 ∧ 1 ≤ r.day ∧ r.day ≤ mostI r.mon) ∨ (r.kind = 2 ∧ 1 ≤ r.mon ∧ r.mon ≤ 12 ∧ 0 ≤ r.wd ∧ r.wd ≤ 6 ∧ 1 ≤ r.nth ∧ r.nth ≤ 5) ∨ (r.kind = 3 ∧ -100 ≤ r.off ∧ r.off ≤ 100))) := by
  unfold fitB at h
  by_cases k4 : r.kind = 4
  · rw [if_pos k4, decide_eq_true_eq] at h
    exact Or.inl ⟨k4, h.2.2.2.2.2.2.2.1, h.2.2.2.2.2.2.2.2, h.2.2.2.2.2.2.1⟩
  · rw [if_neg k4, Bool.and_eq_true, decide_eq_true_eq] at h
    obtain ⟨⟨a, b, c, d, e, f⟩, h⟩ := h
    refine Or.inr ⟨⟨a, c, d, e, f⟩, ?_⟩
    by_cases k1 : r.kind = 1
    · rw [if_pos k1, decide_eq_true_eq] at h
      exact Or.inl ⟨k1, h.2.2.2⟩
    · rw [if_neg k1] at h
      by_cases k2 : r.kind = 2
      · rw [if_pos k2, decide_eq_true_eq] at h
        exact Or.inr (Or.inl ⟨k2, h.2.2⟩)
      · rw [if_neg k2] at h
        by_cases k3 : r.kind = 3
        · rw [if_pos k3, decide_eq_true_eq] at h
          exact Or.inr (Or.inr ⟨k3, h.2.2.2.2⟩)
        · rw [if_neg k3] at h; exact Bool.noConfusion h
open Classical in
noncomputable def baseO (r : Rul) (y : Int) : Option Int :=
  if y < r.fr ∨ r.to < y then none
  else if r.kind = 1 then (if okD y r.mon r.day then some (dayI y r.mon r.day) else none)
  else if r.kind = 2 then some (nthI y r.mon r.wd r.nth)
  else if r.kind = 3 then some (eaDay y + r.off) else some 0
noncomputable def dayO (W : Int) (r : Rul) (y : Int) : Option Int := (baseO r y).map (fun n => mvI W n r.mv)
noncomputable def hitB (W : Int) (r : Rul) (n Y : Int) : Bool :=
  if r.kind = 4 then r.day == n else dayO W r (Y - 1) == some n || dayO W r Y == some n || dayO W r (Y + 1) == some n
noncomputable def holB (W : Int) (rs : List Rul) (n Y : Int) : Bool := rs.any fun r => hitB W r n Y
theorem nth_rng {y m wd k : Int} (h : ymB y m) (_d0 : 0 ≤ wd) (_d1 : wd ≤ 6) (k1 : 1 ≤ k) (k5 : k ≤ 5) : 0 ≤ nthI y m wd k ∧ nthI y m wd k ≤ 110000 := by
  obtain ⟨f0, f1⟩ := (isD_of (okD_first h 1 (by omega) (by omega))).range
  have l0 := len_lo y m
  show 0 ≤ (if k = 5 ∧ dayI y m 1 + lenI y m ≤ dayI y m 1 + (wd - dayI y m 1) % 7 + 7 * (k - 1) then dayI y m 1 + (wd - dayI y m 1) % 7 + 7 * (k - 1) - 7 else dayI y m 1 + (wd - dayI y m 1) % 7 + 7 * (k - 1)) ∧ (if k = 5 ∧ dayI y m 1 + lenI y m ≤ dayI y m 1 + (wd - dayI y m 1) % 7 + 7 * (k - 1) then dayI y m 1 + (wd - dayI y m 1) % 7 + 7 * (k - 1) - 7 else dayI y m 1 + (wd - dayI y m 1) % 7 + 7 * (k - 1)) ≤ 110000
  split <;> omega
end Go.Proofs.YtpcgbcdldkmibaaGreat
namespace Go.Proofs.YtpcgbcdldkmibaaGreat
open Go.RowKit

def rul0 : Rul := ⟨0, 0, 0, 0, 0, 0, 0, 0, 0⟩
structure RCells (w : World) (b o : Nat) (r : Rul) : Prop where
  c0 : w.cell? ⟨b, o, none⟩ = some (.int .i64 r.kind)
  c1 : w.cell? ⟨b, o + 1, none⟩ = some (.int .i64 r.mon)
  c2 : w.cell? ⟨b, o + 2, none⟩ = some (.int .i64 r.day)
  c3 : w.cell? ⟨b, o + 3, none⟩ = some (.int .i64 r.nth)
  c4 : w.cell? ⟨b, o + 4, none⟩ = some (.int .i64 r.wd)
  c5 : w.cell? ⟨b, o + 5, none⟩ = some (.int .i64 r.off)
  c6 : w.cell? ⟨b, o + 6, none⟩ = some (.int .i64 r.fr)
  c7 : w.cell? ⟨b, o + 7, none⟩ = some (.int .i64 r.to)
  c8 : w.cell? ⟨b, o + 8, none⟩ = some (.int .i64 r.mv)
theorem RCells.below {w w' : World} {B b o : Nat} {r : Rul} (h : RCells w b o r) (hb : Below B w w') (hB : b < B) : RCells w' b o r :=
  ⟨(hb.cell (p := ⟨b, o, none⟩) hB).trans h.c0, (hb.cell (p := ⟨b, o + 1, none⟩) hB).trans h.c1, (hb.cell (p := ⟨b, o + 2, none⟩) hB).trans h.c2, (hb.cell (p := ⟨b, o + 3, none⟩) hB).trans h.c3, (hb.cell (p := ⟨b, o + 4, none⟩) hB).trans h.c4, (hb.cell (p := ⟨b, o + 5, none⟩) hB).trans h.c5, (hb.cell (p := ⟨b, o + 6, none⟩) hB).trans h.c6, (hb.cell (p := ⟨b, o + 7, none⟩) hB).trans h.c7, (hb.cell (p := ⟨b, o + 8, none⟩) hB).trans h.c8⟩
structure RSrc (w : World) (p : Option Addr) (b off : Nat) (rs : List Rul) : Prop where
  at_ : 0 < rs.length → p = some ⟨b, off, none⟩
  lt : 0 < rs.length → b < w.heap.size
  cell : ∀ i, i < rs.length → RCells w b (off + i * 9) (rs.getD i rul0)
theorem RSrc.below {w w' : World} {p : Option Addr} {b off : Nat} {rs : List Rul} (h : RSrc w p b off rs) (hb : Below w.heap.size w w') : RSrc w' p b off rs :=
  ⟨h.at_, fun hx => Nat.lt_of_lt_of_le (h.lt hx) hb.size, fun j hj => (h.cell j hj).below hb (h.lt (by omega))⟩
end Go.Proofs.YtpcgbcdldkmibaaGreat
