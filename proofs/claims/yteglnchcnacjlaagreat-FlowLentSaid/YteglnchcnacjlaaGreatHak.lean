/- The contracts of Length and Of, of the program and of the document's answer. The contracts of Civil and Weekday. The contract of the document's Of: years and months added up. The contracts of the document's Civil and Weekday. The contracts of Months, of the program and of the document's answer. The contract of the document's Months. Months on: the program and the document. -/
import Derived.Test.YteglnchcnacjlaaGreatDLen
import Derived.Deep.RegionWith
namespace Go.Proofs.YteglnchcnacjlaaGreat
open Go.RowKit

def ymB (y m : Int) : Prop := 1900 ≤ y ∧ y ≤ 2199 ∧ 1 ≤ m ∧ m ≤ 12

theorem isYear_any (y : Int) (w : World) :
    Calls Tryz.prog 112 #[.int .i64 y] w fun e w' => e = .returned (.bool (decide (1900 ≤ y ∧ y ≤ 2199))) ∧ w' = w := by
  by_cases h1 : 1900 ≤ y <;> by_cases h2 : y ≤ 2199
  all_goals
    first | rw [decide_eq_true (⟨h1, h2⟩ : 1900 ≤ y ∧ y ≤ 2199)] | rw [decide_eq_false (fun h : 1900 ≤ y ∧ y ≤ 2199 => by omega)]
    go_enter Tryz.func112, Tryz.ntmps112
    go_wp2
    go_ret
    exact ⟨rfl, rfl⟩

theorem lengthP_ok (y m : Int) (w : World) (h : ymB y m) :
    Calls Tryz.prog 71 #[.int .i64 y, .int .i64 m] w fun e w' => e = .returned (.tuple #[.int .i64 (lenI y m), .int .i64 0]) ∧ w' = w := by
  obtain ⟨h1, h2, h3, h4⟩ := h
  have hy := isYear_any y
  rw [decide_eq_true (⟨h1, h2⟩ : 1900 ≤ y ∧ y ≤ 2199)] at hy
  have HL := hideS (length_any y m w h3 h4)
  have HY := hideS hy
  clear hy
  generalize lenI y m = L at *
  go_enter Tryz.func71, Tryz.ntmps71
  go_wp2_with (first | (go_at_call 112; refine (HY.out _).mono ?_; rintro e w' ⟨rfl, rfl⟩) | (go_at_call 38; refine HL.out.mono ?_; rintro e w' ⟨rfl, rfl⟩))
  go_ret2
  exact ⟨rfl, rfl⟩
theorem refLengthP_ok (y m : Int) (w : World) (h : ymB y m) :
    Calls Tryz.prog 102 #[.int .i64 y, .int .i64 m] w fun e w' => e = .returned (.tuple #[.int .i64 (lenI y m), .int .i64 0]) ∧ w' = w := by
  obtain ⟨h1, h2, h3, h4⟩ := h
  have HL := hideS (refLength_any y m w h3 h4)
  generalize lenI y m = L at *
  go_enter Tryz.func102, Tryz.ntmps102
  go_wp2_with (go_at_call 58; refine HL.out.mono ?_; rintro e w' ⟨rfl, rfl⟩)
  go_ret2
  exact ⟨rfl, rfl⟩
theorem leaps_any (y : Int) (w : World) (h : 0 ≤ y) (h' : y ≤ 3000) :
    Calls Tryz.prog 111 #[.int .i64 y] w fun e w' => e = .returned (.int .i64 (lpsI y)) ∧ w' = w := by
  unfold lpsI
  go_enter Tryz.func111, Tryz.ntmps111
  go_wp2
  go_ret
  exact ⟨rfl, rfl⟩

theorem newYear_any (y : Int) (w : World) (h : 1900 ≤ y) (h' : y ≤ 2200) :
    Calls Tryz.prog 69 #[.int .i64 y] w fun e w' => e = .returned (.int .i64 (nyI y)) ∧ w' = w := by
  have H1 := hideS (leaps_any (y - 1) w (by omega) (by omega))
  have H2 := hideS (leaps_any 1899 w (by omega) (by omega))
  have e2 : lpsI 1899 = 460 := by decide
  rw [e2] at H2
  unfold nyI
  have hl : 0 ≤ lpsI (y - 1) ∧ lpsI (y - 1) ≤ 3000 := by unfold lpsI; omega
  obtain ⟨l1, l2⟩ := hl
  generalize lpsI (y - 1) = L at *
  clear e2
  go_enter Tryz.func69, Tryz.ntmps69
  go_wp2_with (first | (go_at_call_of 111 (Value.int IntKind.i64 1899); refine H2.out.mono ?_; rintro e w' ⟨rfl, rfl⟩) | (go_at_call 111; refine H1.out.mono ?_; rintro e w' ⟨rfl, rfl⟩))
  go_ret
  exact ⟨rfl, rfl⟩

set_option maxHeartbeats 400000 in
theorem ofP_ok (y m d : Int) (w : World) (h : okD y m d) :
    Calls Tryz.prog 39 #[.int .i64 y, .int .i64 m, .int .i64 d] w fun e w' => e = .returned (.tuple #[.int .i64 (dayI y m d), .int .i64 0]) ∧ w' = w := by
  obtain ⟨h1, h2, h3, h4, h5, h6⟩ := h
  have HL := hideS (lengthP_ok y m w ⟨h1, h2, h3, h4⟩)
  have HN := hideS (newYear_any y w h1 (by omega))
  have hl := len_hi y m
  have HLen := hideS (fun (k : Int) (wx : World) (a : 1 ≤ k) (b : k ≤ 12) => length_any y k wx a b)
  have HD : Hid (dayI y m d = nyI y + d - 1 + cumI y m) := by show _ = _; unfold dayI; omega
  have n1 : 0 ≤ nyI y := by have := ny_lo h1; omega
  have n2 : nyI y ≤ 110000 := by have := ny_hi h1; omega
  obtain ⟨R, hR⟩ : ∃ R, dayI y m d = R := ⟨_, rfl⟩
  rw [hR] at HD ⊢
  clear hR
  obtain ⟨L, hL⟩ : ∃ L, lenI y m = L := ⟨_, rfl⟩
  rw [hL] at HL h6 hl
  clear hL
  obtain ⟨N, hN⟩ : ∃ N, nyI y = N := ⟨_, rfl⟩
  rw [hN] at HN n1 n2 HD
  clear hN
  go_enter Tryz.func39, Tryz.ntmps39
  go_wp2_with (first | (go_at_call 71; refine HL.out.mono ?_; rintro e w' ⟨rfl, rfl⟩) | (go_at_call 69; refine HN.out.mono ?_; rintro e w' ⟨rfl, rfl⟩))
  clear HL HN
  go_loop [35, 10] (fun i n => ∃ (k : Nat) (C : Int), (k : Int) + 1 ≤ m ∧ 0 ≤ C ∧ C ≤ 200000 ∧ i = .int .i64 k ∧ n = .int .i64 C ∧ Hid (C = N + d - 1 + cumI y (k + 1))) (fun i _ => (m - intOf i).toNat)
  case atStart => exact ⟨0, N + d - 1, by omega, by omega, by omega, rfl, rfl, by show _ = _; rw [show (((0 : Nat) : Int) + 1) = 1 by rfl, cum_first]; omega⟩
  case round =>
    obtain ⟨k, C, hk, hC0, hC1, rfl, rfl, HC⟩ := hrel
    by_cases hlt : (k : Int) + 1 < m
    · have H := hideS (fun wx => HLen.out (k + 1) wx (by omega) (by omega))
      have HN : Hid (C + lenI y (k + 1) = N + d - 1 + cumI y (((k + 1 : Nat) : Int) + 1)) := by
        show _ = _
        rw [HC.out, show (((k + 1 : Nat) : Int) + 1) = (k : Int) + 1 + 1 by omega, cum_succ (m := (k : Int) + 1) (by omega) (by omega)]; omega
      have HB : Hid (cumI y (((k + 1 : Nat) : Int) + 1) ≤ 366) := cum_hi (by omega) (by omega)
      have l1 := len_lo y (k + 1)
      have l2 := len_hi y (k + 1)
      generalize lenI y (k + 1) = l at *
      have hlt' : (k : Int) < m - 1 := by omega
      go_wp2_with (go_at_call 38; refine (H.out _).mono ?_; rintro e w' ⟨rfl, rfl⟩)
      go_round
      case rel => exact ⟨k + 1, C + l, by omega, by omega, by have := HN.out; have := HB.out; omega, by go_num, rfl, HN⟩
      case measure => simp [intOf]; omega
    · have hm : m = (k : Int) + 1 := by omega
      have HR : Hid (C = R) := by show _ = _; rw [HC.out, HD.out, hm]
      have hge : ¬ (k : Int) < m - 1 := by omega
      clear HC HD hm
      go_wp2_with fail
      go_ret2
      obtain rfl := HR.out
      exact ⟨rfl, rfl⟩

end Go.Proofs.YteglnchcnacjlaaGreat
namespace Go.Proofs.YteglnchcnacjlaaGreat
open Go.RowKit

theorem isDay_any (n : Int) (w : World) :
    Calls Tryz.prog 66 #[.int .i64 n] w fun e w' => e = .returned (.bool (decide (0 ≤ n ∧ n ≤ 109572))) ∧ w' = w := by
  by_cases h1 : 0 ≤ n <;> by_cases h2 : n ≤ 109572
  all_goals
    first | rw [decide_eq_true (⟨h1, h2⟩ : 0 ≤ n ∧ n ≤ 109572)] | rw [decide_eq_false (fun h : 0 ≤ n ∧ n ≤ 109572 => by omega)]
    go_enter Tryz.func66, Tryz.ntmps66
    go_wp2
    go_ret
    exact ⟨rfl, rfl⟩
theorem isDay_yes (n : Int) (h : 0 ≤ n ∧ n ≤ 109572) (w : World) :
    Calls Tryz.prog 66 #[.int .i64 n] w fun e w' => e = .returned (.bool true) ∧ w' = w := by
  have e := isDay_any n w
  rw [decide_eq_true h] at e; exact e
theorem isDay_no (n : Int) (h : ¬ (0 ≤ n ∧ n ≤ 109572)) (w : World) :
    Calls Tryz.prog 66 #[.int .i64 n] w fun e w' => e = .returned (.bool false) ∧ w' = w := by
  have e := isDay_any n w
  rw [decide_eq_false h] at e; exact e

set_option maxHeartbeats 400000 in
theorem yearOf_any (n y : Int) (w : World) (h1 : 1900 ≤ y) (h2 : y ≤ 2199) (hy : nyI y ≤ n) (hy' : n < nyI (y + 1)) :
    Calls Tryz.prog 67 #[.int .i64 n] w fun e w' => e = .returned (.int .i64 y) ∧ w' = w := by
  have n0 : 0 ≤ n := by have := ny_lo h1; omega
  have n1 : n ≤ 120000 := by have := ny_hi (y := y + 1) (by omega); omega
  have hs : 1900 + n / 366 ≤ y := by have := ny_hi (y := y + 1) (by omega); omega
  have HN := hideS (fun (z : Int) (wx : World) (a : 1900 ≤ z) (b : z ≤ 2200) => newYear_any z wx a b)
  have HY := hideS hy
  have HY' := hideS hy'
  clear hy hy'
  go_enter Tryz.func67, Tryz.ntmps67
  go_wp2_with fail
  go_loop [3] (fun i => ∃ (j : Int), 1900 ≤ j ∧ j ≤ y ∧ i = .int .i64 j) (fun i => (y - intOf i).toNat)
  case atStart => exact ⟨1900 + n / 366, by omega, hs, rfl⟩
  case round =>
    obtain ⟨j, hj1, hj2, rfl⟩ := hrel
    have H := hideS (fun wx => HN.out (j + 1) wx (by omega) (by omega))
    by_cases hlt : j < y
    · have hle : nyI (j + 1) ≤ n := by
        have := ny_mono (y := j + 1) (z := y) (by omega) (by omega)
        have := HY.out
        omega
      generalize nyI (j + 1) = N at *
      go_wp2_with (go_at_call 69; refine (H.out _).mono ?_; rintro e w' ⟨rfl, rfl⟩)
      go_round
      case rel => exact ⟨j + 1, by omega, by omega, rfl⟩
      case measure => simp [intOf]; omega
    · obtain rfl : j = y := by omega
      have hle : ¬ nyI (j + 1) ≤ n := by have := HY'.out; omega
      clear HY'
      generalize nyI (j + 1) = N at *
      go_wp2_with (go_at_call 69; refine (H.out _).mono ?_; rintro e w' ⟨rfl, rfl⟩)
      go_ret
      exact ⟨rfl, rfl⟩

set_option maxHeartbeats 800000 in
theorem monthAndDay_any (y m r : Int) (w : World) (h1 : 1 ≤ m) (h2 : m ≤ 12) (hm : cumI y m ≤ r) (hm' : r < cumI y (m + 1)) :
    Calls Tryz.prog 68 #[.int .i64 y, .int .i64 r] w fun e w' => e = .returned (.tuple #[.int .i64 m, .int .i64 (r - cumI y m + 1)]) ∧ w' = w := by
  have r0 : 0 ≤ r := by have := cum_lo (y := y) h1 (by omega); omega
  have r1 : r ≤ 366 := by have := cum_hi (y := y) (m := m + 1) (by omega) (by omega); omega
  have HLen := hideS (fun (k : Int) (wx : World) (a : 1 ≤ k) (b : k ≤ 12) => length_any y k wx a b)
  have HM := hideS hm
  have HM' := hideS hm'
  clear hm hm'
  obtain ⟨D, hD⟩ : ∃ D, r - cumI y m + 1 = D := ⟨_, rfl⟩
  rw [hD]
  have HD := hideS hD
  clear hD
  go_enter Tryz.func68, Tryz.ntmps68
  go_wp2_with fail
  go_loop [7, 1, 4] (fun i b _ => ∃ (k : Int) (C : Int), 0 ≤ k ∧ k + 1 ≤ m ∧ 0 ≤ C ∧ C ≤ 366 ∧ i = .int .i64 k ∧ b = .int .i64 C ∧ Hid (C = r - cumI y (k + 1))) (fun i _ _ => (m - intOf i).toNat)
  case atStart => exact ⟨0, r, by omega, by omega, by omega, by omega, rfl, rfl, by show _ = _; rw [show ((0 : Int) + 1) = 1 by rfl, cum_first]; omega⟩
  case round =>
    obtain ⟨k, C, hk0, hk, hC0, hC1, rfl, rfl, HC⟩ := hrel
    have H := hideS (fun wx => HLen.out (k + 1) wx (by omega) (by omega))
    have l1 := len_lo y (k + 1)
    have HS : Hid (cumI y (k + 1 + 1) = cumI y (k + 1) + lenI y (k + 1)) := cum_succ (m := k + 1) (by omega) (by omega)
    by_cases hlt : k + 1 < m
    · have hle : ¬ C < lenI y (k + 1) := by
        have := cum_mono (y := y) (m := k + 1 + 1) (k := m) (by omega) (by omega) (by omega)
        have := HM.out
        have := HS.out
        have := HC.out
        omega
      have HC' : Hid (C - lenI y (k + 1) = r - cumI y (k + 1 + 1)) := by
        show _ = _
        rw [HS.out, HC.out]; omega
      generalize lenI y (k + 1) = l at *
      go_wp2_with (go_at_call 38; refine (H.out _).mono ?_; rintro e w' ⟨rfl, rfl⟩)
      go_round
      case rel => exact ⟨k + 1, C - l, by omega, by omega, by omega, by omega, rfl, rfl, HC'⟩
      case measure => simp [intOf]; omega
    · have hle : C < lenI y (k + 1) := by
        have := HM'.out
        rw [show m + 1 = k + 1 + 1 by omega, HS.out] at this
        have := HC.out
        omega
      have hm : m = k + 1 := by omega
      have HE : Hid (C + 1 = D) := by
        show _ = _
        rw [← HD.out, HC.out, hm]
      have HMk := hideS hm
      clear hm HD HC HM HM'
      generalize lenI y (k + 1) = l at *
      go_wp2_with (go_at_call 38; refine (H.out _).mono ?_; rintro e w' ⟨rfl, rfl⟩)
      go_ret2
      obtain rfl := HE.out
      obtain rfl := HMk.out
      exact ⟨rfl, rfl⟩

theorem results_tmp4 {fn : Func} {t u v x : Tmp} (h : fn.results = #[.tmp t, .tmp u, .tmp v, .tmp x]) (tmps : Array Value) (P : Program) (w : World) :
    (results fn tmps).run P w = .ok (.tuple #[tmps.getD t undef, tmps.getD u undef, tmps.getD v undef, tmps.getD x undef]) w := by
  simp [results, h]

set_option maxHeartbeats 400000 in
theorem civil_ok (n y m d : Int) (w : World) (h : IsD n y m d) :
    Calls Tryz.prog 37 #[.int .i64 n] w fun e w' => e = .returned (.tuple #[.int .i64 y, .int .i64 m, .int .i64 d, .int .i64 0]) ∧ w' = w := by
  obtain ⟨n0, n1⟩ := h.range
  obtain ⟨a, b⟩ := h.year
  obtain ⟨a', b'⟩ := h.month
  have HY := hideS (isDay_yes n ⟨n0, n1⟩)
  have hd : n - nyI y - cumI y m + 1 = d := by have := h.2; unfold dayI at this; omega
  obtain ⟨h1, h2, h3, h4, _, _⟩ := h.1
  clear h
  have H1 := hideS (fun wx => yearOf_any n y wx h1 h2 a b)
  have H2 := hideS (fun wx => newYear_any y wx h1 (by omega))
  have h5 := fun wx => monthAndDay_any y m (n - nyI y) wx h3 h4 a' b'
  rw [hd] at h5
  have H3 := hideS h5
  have c1 := cum_lo (y := y) h3 (by omega)
  have n2 := ny_lo h1
  clear h5 hd b b' a'
  generalize nyI y = N at *
  go_enter Tryz.func37, Tryz.ntmps37
  go_wp2_with (first | (go_at_call 66; refine (HY.out _).mono ?_; rintro e w' ⟨rfl, rfl⟩) | (go_at_call 67; refine (H1.out _).mono ?_; rintro e w' ⟨rfl, rfl⟩) | (go_at_call 69; refine (H2.out _).mono ?_; rintro e w' ⟨rfl, rfl⟩) | (go_at_call 68; refine (H3.out _).mono ?_; rintro e w' ⟨rfl, rfl⟩))
  (try simp only [Exit.inBlock, Exit.then])
  refine bodyPost_ret (results_tmp4 rfl _ _ _) rfl ?_
  exact ⟨rfl, rfl⟩
theorem civil_bad (n : Int) (w : World) (h : ¬ (0 ≤ n ∧ n ≤ 109572)) :
    Calls Tryz.prog 37 #[.int .i64 n] w fun e w' => e = .returned (.tuple #[.int .i64 0, .int .i64 0, .int .i64 0, .int .i64 51]) ∧ w' = w := by
  have HY := hideS (isDay_no n h)
  clear h
  go_enter Tryz.func37, Tryz.ntmps37
  go_wp2_with (go_at_call 66; refine (HY.out _).mono ?_; rintro e w' ⟨rfl, rfl⟩)
  (try simp only [Exit.inBlock, Exit.then])
  refine bodyPost_ret (results_tmp4 rfl _ _ _) rfl ?_
  exact ⟨rfl, rfl⟩
end Go.Proofs.YteglnchcnacjlaaGreat
namespace Go.Proofs.YteglnchcnacjlaaGreat
open Go.RowKit

theorem lp_true {y : Int} (h : leapB y = true) : lpI y = 1 := by unfold lpI; rw [h]; rfl
theorem lp_false {y : Int} (h : leapB y = false) : lpI y = 0 := by unfold lpI; rw [h]; rfl

set_option maxHeartbeats 800000 in
theorem refOf_ok (y m d : Int) (w : World) (h : okD y m d) :
    Calls Tryz.prog 59 #[.int .i64 y, .int .i64 m, .int .i64 d] w fun e w' => e = .returned (.tuple #[.int .i64 (dayI y m d), .int .i64 0]) ∧ w' = w := by
  obtain ⟨h1, h2, h3, h4, h5, h6⟩ := h
  have HL := hideS (refLengthP_ok y m w ⟨h1, h2, h3, h4⟩)
  have hl := len_hi y m
  have HLen := hideS (fun (k : Int) (wx : World) (a : 1 ≤ k) (b : k ≤ 12) => refLength_any y k wx a b)
  have HD : Hid (dayI y m d = d - 1 + nyI y + cumI y m) := by show _ = _; unfold dayI; omega
  have n2 : nyI y ≤ 110000 := by have := ny_hi h1; omega
  obtain ⟨R, hR⟩ : ∃ R, dayI y m d = R := ⟨_, rfl⟩
  rw [hR] at HD ⊢
  clear hR
  obtain ⟨L, hL⟩ : ∃ L, lenI y m = L := ⟨_, rfl⟩
  rw [hL] at HL h6 hl
  clear hL
  have HN2 := hideS n2
  clear n2
  go_enter Tryz.func59, Tryz.ntmps59
  go_wp2_with (go_at_call 102; refine HL.out.mono ?_; rintro e w' ⟨rfl, rfl⟩)
  clear HL
  go_loop [11, 10] (fun i n => ∃ (j C : Int), 1900 ≤ j ∧ j ≤ y ∧ 0 ≤ C ∧ C ≤ 200000 ∧ i = .int .i64 j ∧ n = .int .i64 C ∧ Hid (C = d - 1 + nyI j)) (fun i _ => (y - intOf i).toNat)
  case atStart => exact ⟨1900, d - 1, by omega, by omega, by omega, by omega, rfl, rfl, by show _ = _; rw [ny_first]; omega⟩
  case round =>
    obtain ⟨j, C, hj1, hj2, hC0, hC1, rfl, rfl, HC⟩ := hrel
    by_cases hlt : j < y
    · have HS : Hid (C + 365 + lpI j = d - 1 + nyI (j + 1)) := by
        show _ = _
        rw [HC.out, ny_succ hj1]; omega
      have HB : Hid (nyI (j + 1) ≤ 110000) := by
        have := ny_mono (y := j + 1) (z := y) (by omega) (by omega)
        have := HN2.out
        show _ ≤ _
        omega
      cases hl : leapB j
      · rw [lp_false hl] at HS
        go_wp2_with (go_at_call 101; refine (refLeap_any _ _).mono ?_; rintro e w' ⟨rfl, rfl⟩)
        go_round
        case rel => exact ⟨j + 1, C + 365, by omega, by omega, by omega, by have := HS.out; have := HB.out; omega, rfl, rfl, by have := HS.out; show _ = _; omega⟩
        case measure => simp [intOf]; omega
      · rw [lp_true hl] at HS
        go_wp2_with (go_at_call 101; refine (refLeap_any _ _).mono ?_; rintro e w' ⟨rfl, rfl⟩)
        go_round
        case rel => exact ⟨j + 1, C + 365 + 1, by omega, by omega, by omega, by have := HS.out; have := HB.out; omega, rfl, rfl, HS⟩
        case measure => simp [intOf]; omega
    · obtain rfl : j = y := by omega
      go_wp2_with fail
      go_loop [12, 10] (fun i n => ∃ (k : Nat) (C : Int), 1 ≤ k ∧ (k : Int) ≤ m ∧ 0 ≤ C ∧ C ≤ 200000 ∧ i = .int .i64 k ∧ n = .int .i64 C ∧ Hid (C = d - 1 + nyI j + cumI j k)) (fun i _ => (m - intOf i).toNat)
      case atStart => exact ⟨1, C, by omega, by omega, by omega, by omega, rfl, rfl, by show _ = _; rw [show (((1 : Nat) : Int)) = 1 by rfl, cum_first, HC.out]; omega⟩
      case round =>
        clear HC hC0 hC1
        obtain ⟨k, C, hk1, hk, hC0, hC1, rfl, rfl, HC⟩ := hrel
        by_cases hlt : (k : Int) < m
        · have H := hideS (fun wx => HLen.out k wx (by omega) (by omega))
          have HN : Hid (C + lenI j k = d - 1 + nyI j + cumI j ((k + 1 : Nat) : Int)) := by
            show _ = _
            rw [HC.out, show (((k + 1 : Nat) : Int)) = (k : Int) + 1 by omega, cum_succ (m := (k : Int)) (by omega) (by omega)]; omega
          have HB : Hid (cumI j (((k + 1 : Nat) : Int)) ≤ 366) := cum_hi (by omega) (by omega)
          have l1 := len_lo j k
          have l2 := len_hi j k
          generalize lenI j k = l at *
          go_wp2_with (go_at_call 58; refine (H.out _).mono ?_; rintro e w' ⟨rfl, rfl⟩)
          go_round
          case rel => exact ⟨k + 1, C + l, by omega, by omega, by omega, by have := HN.out; have := HB.out; have := HN2.out; omega, by go_num, rfl, HN⟩
          case measure => simp [intOf]; omega
        · have hm : m = (k : Int) := by omega
          have HR : Hid (C = R) := by show _ = _; rw [HC.out, HD.out, hm]
          clear HC HD hm
          go_wp2_with fail
          go_ret2
          obtain rfl := HR.out
          exact ⟨rfl, rfl⟩

end Go.Proofs.YteglnchcnacjlaaGreat
namespace Go.Proofs.YteglnchcnacjlaaGreat
open Go.RowKit

def dateV (y m d : Int) : Value := .agg #[.int .i64 y, .int .i64 m, .int .i64 d]

set_option maxHeartbeats 1600000 in
theorem refCiv_ok (n y m d : Int) (w : World) (h : IsD n y m d) :
    Calls Tryz.prog 56 #[.int .i64 n] w fun e w' => e = .returned (.tuple #[dateV y m d, .int .i64 0]) ∧ Below w.heap.size w w' := by
  obtain ⟨n0, n1⟩ := h.range
  obtain ⟨a, b⟩ := h.year
  obtain ⟨a', b'⟩ := h.month
  have hd : n - nyI y - cumI y m + 1 = d := by have := h.2; unfold dayI at this; omega
  obtain ⟨h1, h2, h3, h4, _, _⟩ := h.1
  clear h
  have HA := hideS a
  have HB := hideS b
  have HA' := hideS a'
  have HB' := hideS b'
  have HD := hideS hd
  clear a b a' b' hd
  have HLen := hideS (fun (k : Int) (wx : World) (a : 1 ≤ k) (b : k ≤ 12) => refLength_any y k wx a b)
  unfold dateV
  go_enter Tryz.func56, Tryz.ntmps56
  go_wp2_with fail
  go_loop [0, 4, 5] (fun c i _ => ∃ (j C : Int), 1900 ≤ j ∧ j ≤ y ∧ 0 ≤ C ∧ C ≤ 110000 ∧ i = .int .i64 j ∧ c = .int .i64 C ∧ Hid (C = n - nyI j)) (fun _ i _ => (y - intOf i).toNat)
  case atStart => exact ⟨1900, n, by omega, by omega, by omega, by omega, rfl, rfl, by show _ = _; rw [ny_first]; omega⟩
  case round =>
    obtain ⟨j, C, hj1, hj2, hC0, hC1, rfl, rfl, HC⟩ := hrel
    by_cases hlt : j < y
    · have HS : Hid (C - 365 - lpI j = n - nyI (j + 1)) := by
        show _ = _
        rw [HC.out, ny_succ hj1]; omega
      have HP : Hid (0 ≤ C - 365 - lpI j) := by
        show _ ≤ _
        rw [HS.out]
        have := ny_mono (y := j + 1) (z := y) (by omega) (by omega)
        have := HA.out
        omega
      cases hl : leapB j
      · rw [lp_false hl] at HS HP
        have hge : ¬ C < 365 := by have := HP.out; omega
        go_wp2_with (go_at_call 101; refine (refLeap_any _ _).mono ?_; rintro e w' ⟨rfl, rfl⟩)
        go_round
        case rel => exact ⟨j + 1, C - 365, by omega, by omega, by omega, by omega, rfl, rfl, by have := HS.out; show _ = _; omega⟩
        case measure => simp [intOf]; omega
      · rw [lp_true hl] at HS HP
        have hge : ¬ C < 366 := by have := HP.out; omega
        go_wp2_with (go_at_call 101; refine (refLeap_any _ _).mono ?_; rintro e w' ⟨rfl, rfl⟩)
        go_round
        case rel => exact ⟨j + 1, C - 366, by omega, by omega, by omega, by omega, rfl, rfl, by have := HS.out; show _ = _; omega⟩
        case measure => simp [intOf]; omega
    · obtain rfl : j = y := by omega
      have HP : Hid (C < 365 + lpI j) := by
        have := HB.out
        rw [ny_succ hj1] at this
        have := HC.out
        show _ < _
        omega
      cases hl : leapB j
      all_goals
        first | rw [lp_false hl] at HP | rw [lp_true hl] at HP
        have hlt : C < 365 ∨ C < 366 := Or.inr (by have := HP.out; omega)
        clear hlt
        have hlt := HP.out
        first | (have hlt : C < 365 := by omega) | (have hlt : C < 366 := by omega)
        go_wp2_with (go_at_call 101; refine (refLeap_any _ _).mono ?_; rintro e w' ⟨rfl, rfl⟩)
        clear hlt HP
        go_loop [0, 6] (fun c i => ∃ (k C : Int), 1 ≤ k ∧ k ≤ m ∧ 0 ≤ C ∧ C ≤ 110000 ∧ i = .int .i64 k ∧ c = .int .i64 C ∧ Hid (C = n - nyI j - cumI j k)) (fun _ i => (m - intOf i).toNat)
        case atStart => exact ⟨1, C, by omega, by omega, by omega, by omega, rfl, rfl, by show _ = _; rw [cum_first, HC.out]; omega⟩
        case round =>
          clear HC hC0 hC1
          obtain ⟨k, C, hk1, hk, hC0, hC1, rfl, rfl, HC⟩ := hrel
          have H := hideS (fun wx => HLen.out k wx (by omega) (by omega))
          have HS : Hid (cumI j (k + 1) = cumI j k + lenI j k) := cum_succ (by omega) (by omega)
          have l1 := len_lo j k
          by_cases hlt : k < m
          · have hge : lenI j k ≤ C := by
              have := cum_mono (y := j) (m := k + 1) (k := m) (by omega) (by omega) (by omega)
              have := HS.out
              have := HC.out
              have := HA'.out
              omega
            have HC' : Hid (C - lenI j k = n - nyI j - cumI j (k + 1)) := by
              show _ = _
              rw [HS.out, HC.out]; omega
            generalize lenI j k = l at *
            go_wp2_with (go_at_call 58; refine (H.out _).mono ?_; rintro e w' ⟨rfl, rfl⟩)
            go_round
            case rel => exact ⟨k + 1, C - l, by omega, by omega, by omega, by omega, rfl, rfl, HC'⟩
            case measure => simp [intOf]; omega
          · obtain rfl : k = m := by omega
            have hge : ¬ lenI j k ≤ C := by
              have := HB'.out
              rw [HS.out] at this
              have := HC.out
              omega
            have HE : Hid (C + 1 = d) := by
              show _ = _
              rw [← HD.out, HC.out]
            clear HC HD
            generalize lenI j k = l at *
            go_wp2_with (go_at_call 58; refine (H.out _).mono ?_; rintro e w' ⟨rfl, rfl⟩)
            obtain rfl := HE.out
            (try simp only [Exit.inBlock, Exit.then])
            refine bodyPost_ret (v := .tuple #[.agg #[.int .i64 j, .int .i64 k, .int .i64 (C + 1)], .int .i64 0]) (by simp [results, Tryz.results56, go_sem]) rfl ⟨rfl, ?_⟩
            exact ((Below.refl w.heap.size w).alloc (Nat.le_refl _) _)
theorem refCiv_bad (n : Int) (w : World) (h : ¬ (0 ≤ n ∧ n ≤ 109572)) :
    Calls Tryz.prog 56 #[.int .i64 n] w fun e w' => e = .returned (.tuple #[dateV 0 0 0, .int .i64 51]) ∧ Below w.heap.size w w' := by
  unfold dateV
  rcases (show n < 0 ∨ (0 ≤ n ∧ 109572 < n) by omega) with h1 | ⟨h1, h2⟩
  all_goals
    clear h
    go_enter Tryz.func56, Tryz.ntmps56
    go_wp2_with fail
    (try simp only [Exit.inBlock, Exit.then])
    refine bodyPost_ret (v := .tuple #[.agg #[.int .i64 0, .int .i64 0, .int .i64 0], .int .i64 51]) (by simp [results, Tryz.results56, go_sem]) rfl ⟨rfl, ?_⟩
    exact ((Below.refl w.heap.size w).alloc (Nat.le_refl _) _)

end Go.Proofs.YteglnchcnacjlaaGreat
namespace Go.Proofs.YteglnchcnacjlaaGreat
open Go.RowKit

def mthI (y m k : Int) : Int := 12 * (y - 1900) + m - 1 + k
def toY (y m k : Int) : Int := 1900 + mthI y m k / 12
def toM (y m k : Int) : Int := mthI y m k % 12 + 1
def toD (d L l : Int) (e : Bool) : Int := if L < d then L else if e = true ∧ d = l then L else d
def monI (y m d k : Int) (e : Bool) : Int := dayI (toY y m k) (toM y m k) (toD d (lenI (toY y m k) (toM y m k)) (lenI y m) e)
theorem toD_ok {d L l : Int} {e : Bool} (h : 1 ≤ d) (hL : 28 ≤ L) : 1 ≤ toD d L l e ∧ toD d L l e ≤ L := by
  unfold toD
  split
  · omega
  · split <;> omega
theorem toYM {y m k : Int} (h0 : 0 ≤ mthI y m k) (h1 : mthI y m k < 3600) : ymB (toY y m k) (toM y m k) := by
  unfold ymB toY toM
  omega
theorem mon_ok {y m d k : Int} {e : Bool} (hd : 1 ≤ d) (h0 : 0 ≤ mthI y m k) (h1 : mthI y m k < 3600) :
    okD (toY y m k) (toM y m k) (toD d (lenI (toY y m k) (toM y m k)) (lenI y m) e) := by
  obtain ⟨a, b, c, f⟩ := toYM h0 h1
  have := toD_ok (l := lenI y m) (e := e) hd (len_lo (toY y m k) (toM y m k))
  exact ⟨a, b, c, f, this.1, this.2⟩

set_option maxHeartbeats 1600000 in
theorem months_ok (n y m d k : Int) (en : Bool) (w : World) (h : IsD n y m d) (h0 : 0 ≤ mthI y m k) (h1 : mthI y m k < 3600) :
    Calls Tryz.prog 20 #[.int .i64 n, .int .i64 k, .bool en] w fun e w' => e = .returned (.tuple #[.int .i64 (monI y m d k en), .int .i64 0]) ∧ w' = w := by
  have HC := hideS (civil_ok n y m d w h)
  obtain ⟨y1, y2, m1, m2, d1, d2⟩ := h.1
  have HO := hideS (ofP_ok _ _ _ w (mon_ok (y := y) (m := m) (d := d) (k := k) (e := en) d1 h0 h1))
  obtain ⟨a1, a2, a3, a4⟩ := toYM h0 h1
  have HL1 := hideS (fun wx => length_any (toY y m k) (toM y m k) wx a3 a4)
  have HL2 := hideS (fun wx => length_any y m wx m1 m2)
  unfold monI
  have hY : 1900 + (12 * (y - 1900) + m - 1 + k) / 12 = toY y m k := rfl
  have hM : (12 * (y - 1900) + m - 1 + k) % 12 + 1 = toM y m k := rfl
  unfold mthI at h0 h1
  have l1 := len_lo (toY y m k) (toM y m k)
  have l2 := len_lo y m
  clear h
  generalize toY y m k = Y at *
  generalize toM y m k = M at *
  generalize lenI Y M = L at *
  generalize lenI y m = l at *
  rcases (show L < d ∨ (d ≤ L ∧ ((en = true ∧ d = l) ∨ (en = true ∧ d ≠ l) ∨ en = false)) by cases en <;> simp <;> omega) with hd | ⟨hd, ⟨rfl, he⟩ | ⟨rfl, he⟩ | rfl⟩
  · have hD : toD d L l en = L := by unfold toD; rw [if_pos hd]
    rw [hD] at HO ⊢
    clear hD
    generalize dayI Y M L = R at *
    go_enter Tryz.func20, Tryz.ntmps20
    go_wp2_with (first | (go_at_call 37; refine HC.out.mono ?_; rintro e w' ⟨rfl, rfl⟩) | (go_at_call_of 38 (Value.int IntKind.i64 Y); refine (HL1.out _).mono ?_; rintro e w' ⟨rfl, rfl⟩) | (go_at_call_of 38 (Value.int IntKind.i64 y); refine (HL2.out _).mono ?_; rintro e w' ⟨rfl, rfl⟩) | (go_at_call 39; refine HO.out.mono ?_; rintro e w' ⟨rfl, rfl⟩))
    go_ret2
    exact ⟨rfl, rfl⟩
  · have hD : toD d L l true = L := by unfold toD; rw [if_neg (by omega), if_pos ⟨rfl, he⟩]
    rw [hD] at HO ⊢
    clear hD
    have he' : (d == l) = true := by rw [beq_iff_eq]; exact he
    clear he
    generalize dayI Y M L = R at *
    go_enter Tryz.func20, Tryz.ntmps20
    go_wp2_with (first | (go_at_call 37; refine HC.out.mono ?_; rintro e w' ⟨rfl, rfl⟩) | (go_at_call_of 38 (Value.int IntKind.i64 Y); refine (HL1.out _).mono ?_; rintro e w' ⟨rfl, rfl⟩) | (go_at_call_of 38 (Value.int IntKind.i64 y); refine (HL2.out _).mono ?_; rintro e w' ⟨rfl, rfl⟩) | (go_at_call 39; refine HO.out.mono ?_; rintro e w' ⟨rfl, rfl⟩))
    go_ret2
    exact ⟨rfl, rfl⟩
  · have hD : toD d L l true = d := by unfold toD; rw [if_neg (by omega), if_neg (fun a => he a.2)]
    rw [hD] at HO ⊢
    clear hD
    have he' : (d == l) = false := by rw [beq_eq_false_iff_ne]; exact he
    clear he
    generalize dayI Y M d = R at *
    go_enter Tryz.func20, Tryz.ntmps20
    go_wp2_with (first | (go_at_call 37; refine HC.out.mono ?_; rintro e w' ⟨rfl, rfl⟩) | (go_at_call_of 38 (Value.int IntKind.i64 Y); refine (HL1.out _).mono ?_; rintro e w' ⟨rfl, rfl⟩) | (go_at_call_of 38 (Value.int IntKind.i64 y); refine (HL2.out _).mono ?_; rintro e w' ⟨rfl, rfl⟩) | (go_at_call 39; refine HO.out.mono ?_; rintro e w' ⟨rfl, rfl⟩))
    go_ret2
    exact ⟨rfl, rfl⟩
  · have hD : toD d L l false = d := by unfold toD; rw [if_neg (by omega), if_neg (fun a => Bool.noConfusion a.1)]
    rw [hD] at HO ⊢
    clear hD
    generalize dayI Y M d = R at *
    go_enter Tryz.func20, Tryz.ntmps20
    go_wp2_with (first | (go_at_call 37; refine HC.out.mono ?_; rintro e w' ⟨rfl, rfl⟩) | (go_at_call_of 38 (Value.int IntKind.i64 Y); refine (HL1.out _).mono ?_; rintro e w' ⟨rfl, rfl⟩) | (go_at_call_of 38 (Value.int IntKind.i64 y); refine (HL2.out _).mono ?_; rintro e w' ⟨rfl, rfl⟩) | (go_at_call 39; refine HO.out.mono ?_; rintro e w' ⟨rfl, rfl⟩))
    go_ret2
    exact ⟨rfl, rfl⟩
theorem months_far (n y m d k : Int) (en : Bool) (w : World) (h : IsD n y m d) (hk : ¬ (0 ≤ mthI y m k ∧ mthI y m k < 3600)) (k0 : -9223372036854775808 ≤ k) (k1 : k ≤ 9223372036854775807) :
    Calls Tryz.prog 20 #[.int .i64 n, .int .i64 k, .bool en] w fun e w' => e = .returned (.tuple #[.int .i64 0, .int .i64 51]) ∧ w' = w := by
  have HC := hideS (civil_ok n y m d w h)
  obtain ⟨y1, y2, m1, m2, d1, d2⟩ := h.1
  unfold mthI at hk
  clear h
  rcases (show k < -(12 * (y - 1900) + m - 1) ∨ (¬ k < -(12 * (y - 1900) + m - 1) ∧ 3600 - (12 * (y - 1900) + m - 1) ≤ k) by omega) with hd | ⟨hd, hd'⟩
  all_goals
    clear hk
    go_enter Tryz.func20, Tryz.ntmps20
    go_wp2_with (go_at_call 37; refine HC.out.mono ?_; rintro e w' ⟨rfl, rfl⟩)
    go_ret2
    exact ⟨rfl, rfl⟩
theorem months_bad (n k : Int) (en : Bool) (w : World) (h : ¬ (0 ≤ n ∧ n ≤ 109572)) :
    Calls Tryz.prog 20 #[.int .i64 n, .int .i64 k, .bool en] w fun e w' => e = .returned (.tuple #[.int .i64 0, .int .i64 51]) ∧ w' = w := by
  have HC := hideS (civil_bad n w h)
  clear h
  go_enter Tryz.func20, Tryz.ntmps20
  go_wp2_with (go_at_call 37; refine HC.out.mono ?_; rintro e w' ⟨rfl, rfl⟩)
  go_ret2
  exact ⟨rfl, rfl⟩
end Go.Proofs.YteglnchcnacjlaaGreat
namespace Go.Proofs.YteglnchcnacjlaaGreat
open Go.RowKit

set_option maxHeartbeats 800000 in
theorem refMonth_ok (y m d k : Int) (w : World) (y1 : 1900 ≤ y) (y2 : y ≤ 2199) (m1 : 1 ≤ m) (m2 : m ≤ 12) (h0 : 0 ≤ mthI y m k) (h1 : mthI y m k < 3600) :
    Calls Tryz.prog 57 #[.agg #[.int .i64 y, .int .i64 m, .int .i64 d], .int .i64 k] w fun e w' => e = .returned (.tuple #[.int .i64 (toY y m k), .int .i64 (toM y m k), .bool true]) ∧ Below w.heap.size w w' := by
  have hY : (12 * y + m - 1 + k) / 12 = toY y m k := by unfold toY mthI; omega
  have hM : (12 * y + m - 1 + k) % 12 + 1 = toM y m k := by unfold toM mthI; omega
  unfold mthI at h0 h1
  generalize toY y m k = Y at *
  generalize toM y m k = M at *
  go_enter Tryz.func57, Tryz.ntmps57
  go_wp2_with fail
  go_ret3
  obtain rfl := hY
  exact ⟨rfl, (Below.refl w.heap.size w).alloc (Nat.le_refl _) _⟩
theorem refMonth_far (y m d k : Int) (w : World) (y1 : 1900 ≤ y) (y2 : y ≤ 2199) (m1 : 1 ≤ m) (m2 : m ≤ 12) (hk : ¬ (0 ≤ mthI y m k ∧ mthI y m k < 3600)) :
    Calls Tryz.prog 57 #[.agg #[.int .i64 y, .int .i64 m, .int .i64 d], .int .i64 k] w fun e w' => e = .returned (.tuple #[.int .i64 0, .int .i64 0, .bool false]) ∧ Below w.heap.size w w' := by
  unfold mthI at hk
  rcases (show k < -4000 ∨ (-4000 ≤ k ∧ 4000 < k) ∨ ((-4000 ≤ k ∧ k ≤ 4000) ∧ 12 * y + m - 1 + k < 22800) ∨ ((-4000 ≤ k ∧ k ≤ 4000) ∧ 22800 ≤ 12 * y + m - 1 + k ∧ 26399 < 12 * y + m - 1 + k) by omega) with hd | ⟨hd, hd'⟩ | ⟨⟨hd, hd'⟩, he⟩ | ⟨⟨hd, hd'⟩, he, he'⟩
  all_goals
    clear hk
    go_enter Tryz.func57, Tryz.ntmps57
    go_wp2_with fail
    go_ret3
    exact ⟨rfl, (Below.refl w.heap.size w).alloc (Nat.le_refl _) _⟩

theorem date_cells {w w1 : World} {y m d : Int} (hb : Below (w.alloc (.cells #[.int .i64 y, .int .i64 m, .int .i64 d] 103)).heap.size (w.alloc (.cells #[.int .i64 y, .int .i64 m, .int .i64 d] 103)) w1) :
    w1.cell? ⟨w.heap.size, 0, none⟩ = some (.int .i64 y) ∧ w1.cell? ⟨w.heap.size, 1, none⟩ = some (.int .i64 m) ∧ w1.cell? ⟨w.heap.size, 2, none⟩ = some (.int .i64 d) := by
  refine ⟨?_, ?_, ?_⟩
  · rw [hb.cell (p := ⟨w.heap.size, 0, none⟩) (by simp)]; simp
  · rw [hb.cell (p := ⟨w.heap.size, 1, none⟩) (by simp)]; simp
  · rw [hb.cell (p := ⟨w.heap.size, 2, none⟩) (by simp)]; simp
theorem month_below {w w1 w2 : World} {o : Obj} (hb1 : Below w.heap.size w w1) (hb2 : Below (w1.alloc o).heap.size (w1.alloc o) w2) : Below w.heap.size w w2 :=
  hb1.trans ((((Below.refl _ w1).alloc (Nat.le_refl _) _).trans (hb2.mono (by simp))).mono hb1.size)

theorem letter3 {w w2 : World} {y m d : Int} {b : Nat} (nq : Nat) (c0 : w2.cell? ⟨b, 0, none⟩ = some (.int .i64 y)) (c1 : w2.cell? ⟨b, 1, none⟩ = some (.int .i64 m)) (c2 : w2.cell? ⟨b, 2, none⟩ = some (.int .i64 d)) (hb : Hid (Below w.heap.size w w2)) :
    ∃ w3, w2.drewN nq = w3 ∧ w3.cell? ⟨b, 0, none⟩ = some (.int .i64 y) ∧ w3.cell? ⟨b, 1, none⟩ = some (.int .i64 m) ∧ w3.cell? ⟨b, 2, none⟩ = some (.int .i64 d) ∧ Hid (Below w.heap.size w w3) :=
  ⟨_, rfl, c0, c1, c2, ⟨hb.out.os, hb.out.tape, hb.out.output, hb.out.size, hb.out.block⟩⟩
theorem below_drewNd {B : Nat} {w w2 : World} {n : Nat} (hb : Below B w w2) : Below B w (w2.drewN n) := ⟨hb.os, hb.tape, hb.output, hb.size, hb.block⟩
theorem toD_end {d L l : Int} (he : d = l) : toD d L l true = L := by
  unfold toD
  by_cases hd : L < d
  · rw [if_pos hd]
  · rw [if_neg hd, if_pos ⟨rfl, he⟩]
theorem toD_far {d L l : Int} {e : Bool} (hd : L < d) : toD d L l e = L := by unfold toD; rw [if_pos hd]
theorem toD_in {d L l : Int} {e : Bool} (hd : d ≤ L) (he : ¬ (e = true ∧ d = l)) : toD d L l e = d := by unfold toD; rw [if_neg (by omega), if_neg he]

set_option maxRecDepth 10000 in
set_option maxHeartbeats 1600000 in
theorem refMonths_ok (n y m d k : Int) (en : Bool) (w : World) (h : IsD n y m d) (h0 : 0 ≤ mthI y m k) (h1 : mthI y m k < 3600) :
    Calls Tryz.prog 29 #[.int .i64 n, .int .i64 k, .bool en] w fun e w' => e = .returned (.tuple #[.int .i64 (monI y m d k en), .int .i64 0]) ∧ Below w.heap.size w w' := by
  have HC := hideS (fun w => refCiv_ok n y m d w h)
  unfold dateV at HC
  obtain ⟨y1, y2, m1, m2, d1, d2⟩ := h.1
  have HO := hideS (fun wx => refOf_ok _ _ _ wx (mon_ok (y := y) (m := m) (d := d) (k := k) (e := en) d1 h0 h1))
  obtain ⟨a1, a2, a3, a4⟩ := toYM h0 h1
  have HL1 := hideS (fun wx => refLength_any (toY y m k) (toM y m k) wx a3 a4)
  have HL2 := hideS (fun wx => refLength_any y m wx m1 m2)
  have HM := hideS (fun wx => refMonth_ok y m d k wx y1 y2 m1 m2 h0 h1)
  unfold monI
  have l1 := len_lo (toY y m k) (toM y m k)
  have l2 := len_lo y m
  clear h h0 h1
  generalize toY y m k = Y at *
  generalize toM y m k = M at *
  generalize lenI Y M = L at *
  generalize lenI y m = l at *
  rcases (show (L < d ∧ en = true ∧ d = l) ∨ (d ≤ L ∧ en = true ∧ d = l) ∨ (L < d ∧ en = true ∧ d ≠ l) ∨ (d ≤ L ∧ en = true ∧ d ≠ l) ∨ (L < d ∧ en = false) ∨ (d ≤ L ∧ en = false) by cases en <;> simp <;> omega) with ⟨hd, rfl, he⟩ | ⟨hd, rfl, he⟩ | ⟨hd, rfl, he⟩ | ⟨hd, rfl, he⟩ | ⟨hd, rfl⟩ | ⟨hd, rfl⟩
  · have hD := toD_end (L := L) he
    rw [hD] at HO ⊢
    clear hD
    have he' : (d == l) = true := by rw [beq_iff_eq]; exact he
    clear he
    generalize dayI Y M L = R at *
    go_enter Tryz.func29, Tryz.ntmps29
    go_wp2_with (first | (go_at_call 56; refine (HC.out _).mono ?_; rintro e w1 ⟨rfl, hb1⟩) | (go_at_call 57; refine (HM.out _).mono ?_; rintro e w2 ⟨rfl, hb2⟩))
    obtain ⟨c0, c1, c2⟩ := date_cells hb2
    have HB := hideS (month_below hb1 hb2)
    clear hb1 hb2
    go_quiet ((go_at_call 58; exact Calls.quiet_of_same (HL1.out _)))
    go_wp2_with fail
    obtain ⟨w3, hw3, c0, c1, c2, HB⟩ := letter3 nq c0 c1 c2 HB
    rw [hw3]
    clear hw3
    go_quiet ((go_at_call 58; exact Calls.quiet_of_same (HL2.out _)))
    go_wp2_with (first | (go_at_call 58; refine (HL1.out _).mono ?_; rintro e w' ⟨rfl, rfl⟩) | (go_at_call 59; refine (HO.out _).mono ?_; rintro e w' ⟨rfl, rfl⟩))
    go_ret2
    exact ⟨rfl, below_drewNd HB.out⟩
  · have hD := toD_end (L := L) he
    rw [hD] at HO ⊢
    clear hD
    have he' : (d == l) = true := by rw [beq_iff_eq]; exact he
    clear he
    generalize dayI Y M L = R at *
    go_enter Tryz.func29, Tryz.ntmps29
    go_wp2_with (first | (go_at_call 56; refine (HC.out _).mono ?_; rintro e w1 ⟨rfl, hb1⟩) | (go_at_call 57; refine (HM.out _).mono ?_; rintro e w2 ⟨rfl, hb2⟩))
    obtain ⟨c0, c1, c2⟩ := date_cells hb2
    have HB := hideS (month_below hb1 hb2)
    clear hb1 hb2
    go_quiet ((go_at_call 58; exact Calls.quiet_of_same (HL1.out _)))
    go_wp2_with fail
    obtain ⟨w3, hw3, c0, c1, c2, HB⟩ := letter3 nq c0 c1 c2 HB
    rw [hw3]
    clear hw3
    go_quiet ((go_at_call 58; exact Calls.quiet_of_same (HL2.out _)))
    go_wp2_with (first | (go_at_call 58; refine (HL1.out _).mono ?_; rintro e w' ⟨rfl, rfl⟩) | (go_at_call 59; refine (HO.out _).mono ?_; rintro e w' ⟨rfl, rfl⟩))
    go_ret2
    exact ⟨rfl, below_drewNd HB.out⟩
  · have hD := toD_far (l := l) (e := true) hd
    rw [hD] at HO ⊢
    clear hD
    have he' : (d == l) = false := by rw [beq_eq_false_iff_ne]; exact he
    clear he
    generalize dayI Y M L = R at *
    go_enter Tryz.func29, Tryz.ntmps29
    go_wp2_with (first | (go_at_call 56; refine (HC.out _).mono ?_; rintro e w1 ⟨rfl, hb1⟩) | (go_at_call 57; refine (HM.out _).mono ?_; rintro e w2 ⟨rfl, hb2⟩))
    obtain ⟨c0, c1, c2⟩ := date_cells hb2
    have HB := hideS (month_below hb1 hb2)
    clear hb1 hb2
    go_quiet ((go_at_call 58; exact Calls.quiet_of_same (HL1.out _)))
    go_wp2_with fail
    obtain ⟨w3, hw3, c0, c1, c2, HB⟩ := letter3 nq c0 c1 c2 HB
    rw [hw3]
    clear hw3
    go_quiet ((go_at_call 58; exact Calls.quiet_of_same (HL2.out _)))
    go_wp2_with (first | (go_at_call 58; refine (HL1.out _).mono ?_; rintro e w' ⟨rfl, rfl⟩) | (go_at_call 59; refine (HO.out _).mono ?_; rintro e w' ⟨rfl, rfl⟩))
    go_ret2
    exact ⟨rfl, below_drewNd HB.out⟩
  · have hD := toD_in (l := l) (e := true) hd (fun a => he a.2)
    rw [hD] at HO ⊢
    clear hD
    have he' : (d == l) = false := by rw [beq_eq_false_iff_ne]; exact he
    clear he
    generalize dayI Y M d = R at *
    go_enter Tryz.func29, Tryz.ntmps29
    go_wp2_with (first | (go_at_call 56; refine (HC.out _).mono ?_; rintro e w1 ⟨rfl, hb1⟩) | (go_at_call 57; refine (HM.out _).mono ?_; rintro e w2 ⟨rfl, hb2⟩))
    obtain ⟨c0, c1, c2⟩ := date_cells hb2
    have HB := hideS (month_below hb1 hb2)
    clear hb1 hb2
    go_quiet ((go_at_call 58; exact Calls.quiet_of_same (HL1.out _)))
    go_wp2_with fail
    obtain ⟨w3, hw3, c0, c1, c2, HB⟩ := letter3 nq c0 c1 c2 HB
    rw [hw3]
    clear hw3
    go_quiet ((go_at_call 58; exact Calls.quiet_of_same (HL2.out _)))
    go_wp2_with (first | (go_at_call 58; refine (HL1.out _).mono ?_; rintro e w' ⟨rfl, rfl⟩) | (go_at_call 59; refine (HO.out _).mono ?_; rintro e w' ⟨rfl, rfl⟩))
    go_ret2
    exact ⟨rfl, below_drewNd HB.out⟩
  · have hD := toD_far (l := l) (e := false) hd
    rw [hD] at HO ⊢
    clear hD
    generalize dayI Y M L = R at *
    go_enter Tryz.func29, Tryz.ntmps29
    go_wp2_with (first | (go_at_call 56; refine (HC.out _).mono ?_; rintro e w1 ⟨rfl, hb1⟩) | (go_at_call 57; refine (HM.out _).mono ?_; rintro e w2 ⟨rfl, hb2⟩))
    obtain ⟨c0, c1, c2⟩ := date_cells hb2
    have HB := hideS (month_below hb1 hb2)
    clear hb1 hb2
    go_quiet ((go_at_call 58; exact Calls.quiet_of_same (HL1.out _)))
    go_wp2_with fail
    obtain ⟨w3, hw3, c0, c1, c2, HB⟩ := letter3 nq c0 c1 c2 HB
    rw [hw3]
    clear hw3
    go_quiet ((go_at_call 58; exact Calls.quiet_of_same (HL2.out _)))
    go_wp2_with (first | (go_at_call 58; refine (HL1.out _).mono ?_; rintro e w' ⟨rfl, rfl⟩) | (go_at_call 59; refine (HO.out _).mono ?_; rintro e w' ⟨rfl, rfl⟩))
    go_ret2
    exact ⟨rfl, below_drewNd HB.out⟩
  · have hD := toD_in (l := l) (e := false) hd (fun a => Bool.noConfusion a.1)
    rw [hD] at HO ⊢
    clear hD
    generalize dayI Y M d = R at *
    go_enter Tryz.func29, Tryz.ntmps29
    go_wp2_with (first | (go_at_call 56; refine (HC.out _).mono ?_; rintro e w1 ⟨rfl, hb1⟩) | (go_at_call 57; refine (HM.out _).mono ?_; rintro e w2 ⟨rfl, hb2⟩))
    obtain ⟨c0, c1, c2⟩ := date_cells hb2
    have HB := hideS (month_below hb1 hb2)
    clear hb1 hb2
    go_quiet ((go_at_call 58; exact Calls.quiet_of_same (HL1.out _)))
    go_wp2_with fail
    obtain ⟨w3, hw3, c0, c1, c2, HB⟩ := letter3 nq c0 c1 c2 HB
    rw [hw3]
    clear hw3
    go_quiet ((go_at_call 58; exact Calls.quiet_of_same (HL2.out _)))
    go_wp2_with (first | (go_at_call 58; refine (HL1.out _).mono ?_; rintro e w' ⟨rfl, rfl⟩) | (go_at_call 59; refine (HO.out _).mono ?_; rintro e w' ⟨rfl, rfl⟩))
    go_ret2
    exact ⟨rfl, below_drewNd HB.out⟩
end Go.Proofs.YteglnchcnacjlaaGreat
namespace Go.Proofs.YteglnchcnacjlaaGreat
open Go.RowKit

set_option maxHeartbeats 800000 in
theorem refMonths_far (n y m d k : Int) (en : Bool) (w : World) (h : IsD n y m d) (hk : ¬ (0 ≤ mthI y m k ∧ mthI y m k < 3600)) :
    Calls Tryz.prog 29 #[.int .i64 n, .int .i64 k, .bool en] w fun e w' => e = .returned (.tuple #[.int .i64 0, .int .i64 51]) ∧ Below w.heap.size w w' := by
  have HC := hideS (fun w => refCiv_ok n y m d w h)
  unfold dateV at HC
  obtain ⟨y1, y2, m1, m2, d1, d2⟩ := h.1
  have HM := hideS (fun wx => refMonth_far y m d k wx y1 y2 m1 m2 hk)
  clear h hk
  go_enter Tryz.func29, Tryz.ntmps29
  go_wp2_with (first | (go_at_call 56; refine (HC.out _).mono ?_; rintro e w1 ⟨rfl, hb1⟩) | (go_at_call 57; refine (HM.out _).mono ?_; rintro e w2 ⟨rfl, hb2⟩))
  go_ret2
  exact ⟨rfl, month_below hb1 hb2⟩
set_option maxHeartbeats 800000 in
theorem refMonths_bad (n k : Int) (en : Bool) (w : World) (h : ¬ (0 ≤ n ∧ n ≤ 109572)) :
    Calls Tryz.prog 29 #[.int .i64 n, .int .i64 k, .bool en] w fun e w' => e = .returned (.tuple #[.int .i64 0, .int .i64 51]) ∧ Below w.heap.size w w' := by
  have HC := hideS (fun w => refCiv_bad n w h)
  unfold dateV at HC
  clear h
  go_enter Tryz.func29, Tryz.ntmps29
  go_wp2_with (go_at_call 56; refine (HC.out _).mono ?_; rintro e w1 ⟨rfl, hb1⟩)
  go_ret2
  exact ⟨rfl, hb1.trans (((Below.refl _ w1).alloc (Nat.le_refl _) _).mono hb1.size)⟩

theorem months_fun (k : Int) (k0 : -9223372036854775808 ≤ k) (k1 : k ≤ 9223372036854775807) : ∃ g : Int → Option Int, (∀ n w, Calls Tryz.prog 20 #[.int .i64 n, .int .i64 k, .bool false] w fun e w' => e = .returned (.tuple #[.int .i64 ((g n).getD 0), .int .i64 (if (g n).isSome then 0 else 51)]) ∧ w' = w) ∧ (k = 0 → ∀ n, 0 ≤ n → n ≤ 109572 → g n = some n) ∧
    (∀ n y m d, IsD n y m d → g n = if 0 ≤ mthI y m k ∧ mthI y m k < 3600 then some (monI y m d k false) else none) ∧ ∀ n, ¬ (0 ≤ n ∧ n ≤ 109572) → g n = none := by
  have h : ∀ n : Int, ∃ o : Option Int, (∀ w, Calls Tryz.prog 20 #[.int .i64 n, .int .i64 k, .bool false] w fun e w' => e = .returned (.tuple #[.int .i64 (o.getD 0), .int .i64 (if o.isSome then 0 else 51)]) ∧ w' = w) ∧ (∀ y m d, IsD n y m d → o = if 0 ≤ mthI y m k ∧ mthI y m k < 3600 then some (monI y m d k false) else none) ∧ (¬ (0 ≤ n ∧ n ≤ 109572) → o = none) := fun n => by
    by_cases h : 0 ≤ n ∧ n ≤ 109572
    · obtain ⟨y, m, d, hd⟩ := isD_ex h.1 h.2
      by_cases hk : 0 ≤ mthI y m k ∧ mthI y m k < 3600
      · refine ⟨some (monI y m d k false), fun w => months_ok n y m d k false w hd hk.1 hk.2, fun y' m' d' hd' => ?_, fun hn => absurd h hn⟩
        obtain ⟨rfl, rfl, rfl⟩ := hd.unique hd'
        rw [if_pos hk]
      · refine ⟨none, fun w => months_far n y m d k false w hd hk k0 k1, fun y' m' d' hd' => ?_, fun hn => absurd h hn⟩
        obtain ⟨rfl, rfl, rfl⟩ := hd.unique hd'
        rw [if_neg hk]
    · exact ⟨none, fun w => months_bad n k false w h, fun y m d hd => absurd hd.range h, fun _ => rfl⟩
  refine ⟨fun n => (h n).choose, fun n w => (h n).choose_spec.1 w, fun hk n n0 n1 => ?_, fun n y m d hd => (h n).choose_spec.2.1 y m d hd, fun n hn => (h n).choose_spec.2.2 hn⟩
  obtain ⟨y, m, d, hd⟩ := isD_ex n0 n1
  have e := (h n).choose_spec.2.1 y m d hd
  obtain ⟨y1, y2, m1, m2, d1, d2⟩ := hd.1
  subst hk
  have em : mthI y m 0 = 12 * (y - 1900) + m - 1 := by unfold mthI; omega
  rw [if_pos (by rw [em]; omega)] at e
  have ey : toY y m 0 = y := by unfold toY; rw [em]; omega
  have ez : toM y m 0 = m := by unfold toM; rw [em]; omega
  have ed : toD d (lenI y m) (lenI y m) false = d := by unfold toD; rw [if_neg (by omega), if_neg (fun h => by simp at h)]
  show (h n).choose = some n
  rw [e]
  unfold monI
  rw [ey, ez, ed, ← hd.2]
theorem months_ref (k : Int) (g : Int → Option Int) (hg : ∀ n y m d, IsD n y m d → g n = if 0 ≤ mthI y m k ∧ mthI y m k < 3600 then some (monI y m d k false) else none) (hb : ∀ n, ¬ (0 ≤ n ∧ n ≤ 109572) → g n = none) (n : Int) (w : World) :
    Calls Tryz.prog 29 #[.int .i64 n, .int .i64 k, .bool false] w fun e w' => e = .returned (.tuple #[.int .i64 ((g n).getD 0), .int .i64 (if (g n).isSome then 0 else 51)]) ∧ Below w.heap.size w w' := by
  by_cases h : 0 ≤ n ∧ n ≤ 109572
  · obtain ⟨y, m, d, hd⟩ := isD_ex h.1 h.2
    by_cases hk : 0 ≤ mthI y m k ∧ mthI y m k < 3600
    · rw [hg n y m d hd, if_pos hk]; exact refMonths_ok n y m d k false w hd hk.1 hk.2
    · rw [hg n y m d hd, if_neg hk]; exact refMonths_far n y m d k false w hd hk
  · rw [hb n h]; exact refMonths_bad n k false w h
end Go.Proofs.YteglnchcnacjlaaGreat
