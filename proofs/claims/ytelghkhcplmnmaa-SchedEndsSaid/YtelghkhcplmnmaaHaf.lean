/- The contracts of Civil and Weekday. The contracts of the document's Civil and Weekday. -/
import Derived.Test.YtelghkhcplmnmaaHac
namespace Go.Proofs.Ytelghkhcplmnmaa
open Go.RowKit

theorem isDay_any (n : Int) (w : World) :
    Calls Try.prog 69 #[.int .i64 n] w fun e w' => e = .returned (.bool (decide (0 ≤ n ∧ n ≤ 109572))) ∧ w' = w := by
  by_cases h1 : 0 ≤ n <;> by_cases h2 : n ≤ 109572
  all_goals
    first | rw [decide_eq_true (⟨h1, h2⟩ : 0 ≤ n ∧ n ≤ 109572)] | rw [decide_eq_false (fun h : 0 ≤ n ∧ n ≤ 109572 => by omega)]
    go_enter Try.func69, Try.ntmps69
    go_wp2
    go_ret
    exact ⟨rfl, rfl⟩
theorem isDay_yes (n : Int) (h : 0 ≤ n ∧ n ≤ 109572) (w : World) :
    Calls Try.prog 69 #[.int .i64 n] w fun e w' => e = .returned (.bool true) ∧ w' = w := by
  have e := isDay_any n w
  rw [decide_eq_true h] at e; exact e
theorem isDay_no (n : Int) (h : ¬ (0 ≤ n ∧ n ≤ 109572)) (w : World) :
    Calls Try.prog 69 #[.int .i64 n] w fun e w' => e = .returned (.bool false) ∧ w' = w := by
  have e := isDay_any n w
  rw [decide_eq_false h] at e; exact e

set_option maxHeartbeats 400000 in
theorem yearOf_any (n y : Int) (w : World) (h1 : 1900 ≤ y) (h2 : y ≤ 2199) (hy : nyI y ≤ n) (hy' : n < nyI (y + 1)) :
    Calls Try.prog 70 #[.int .i64 n] w fun e w' => e = .returned (.int .i64 y) ∧ w' = w := by
  have n0 : 0 ≤ n := by have := ny_lo h1; omega
  have n1 : n ≤ 120000 := by have := ny_hi (y := y + 1) (by omega); omega
  have hs : 1900 + n / 366 ≤ y := by have := ny_hi (y := y + 1) (by omega); omega
  have HN := hideS (fun (z : Int) (wx : World) (a : 1900 ≤ z) (b : z ≤ 2200) => newYear_any z wx a b)
  have HY := hideS hy
  have HY' := hideS hy'
  clear hy hy'
  go_enter Try.func70, Try.ntmps70
  go_wp2_with fail
  go_loop [3] (fun i => ∃ (j : Int), 1900 ≤ j ∧ j ≤ y ∧ i = .int .i64 j) (fun i => (y - intOf i).toNat)
  case atStart => exact ⟨1900 + n / 366, by omega, hs, rfl⟩
  case round =>
    obtain ⟨j, hj1, hj2, rfl⟩ := hrel
    have H := hideS (fun wx => HN.out (j + 1) wx (by omega) (by omega))
    by_cases hlt : j < y
    · have hle : nyI (j + 1) ≤ n := by
        have := ny_mono (y := j + 1) (z := y) (by omega) (by omega)
        have := HY.out
        omega
      generalize nyI (j + 1) = N at *
      go_wp2_with (go_at_call 72; refine (H.out _).mono ?_; rintro e w' ⟨rfl, rfl⟩)
      go_round
      case rel => exact ⟨j + 1, by omega, by omega, rfl⟩
      case measure => simp [intOf]; omega
    · obtain rfl : j = y := by omega
      have hle : ¬ nyI (j + 1) ≤ n := by have := HY'.out; omega
      clear HY'
      generalize nyI (j + 1) = N at *
      go_wp2_with (go_at_call 72; refine (H.out _).mono ?_; rintro e w' ⟨rfl, rfl⟩)
      go_ret
      exact ⟨rfl, rfl⟩

set_option maxHeartbeats 800000 in
theorem monthAndDay_any (y m r : Int) (w : World) (h1 : 1 ≤ m) (h2 : m ≤ 12) (hm : cumI y m ≤ r) (hm' : r < cumI y (m + 1)) :
    Calls Try.prog 71 #[.int .i64 y, .int .i64 r] w fun e w' => e = .returned (.tuple #[.int .i64 m, .int .i64 (r - cumI y m + 1)]) ∧ w' = w := by
  have r0 : 0 ≤ r := by have := cum_lo (y := y) h1 (by omega); omega
  have r1 : r ≤ 366 := by have := cum_hi (y := y) (m := m + 1) (by omega) (by omega); omega
  have HLen := hideS (fun (k : Int) (wx : World) (a : 1 ≤ k) (b : k ≤ 12) => length_any y k wx a b)
  have HM := hideS hm
  have HM' := hideS hm'
  clear hm hm'
  obtain ⟨D, hD⟩ : ∃ D, r - cumI y m + 1 = D := ⟨_, rfl⟩
  rw [hD]
  have HD := hideS hD
  clear hD
  go_enter Try.func71, Try.ntmps71
  go_wp2_with fail
  go_loop [7, 1, 4] (fun i b _ => ∃ (k : Int) (C : Int), 0 ≤ k ∧ k + 1 ≤ m ∧ 0 ≤ C ∧ C ≤ 366 ∧ i = .int .i64 k ∧ b = .int .i64 C ∧ Hid (C = r - cumI y (k + 1))) (fun i _ _ => (m - intOf i).toNat)
  case atStart => exact ⟨0, r, by omega, by omega, by omega, by omega, rfl, rfl, by show _ = _; rw [show ((0 : Int) + 1) = 1 by rfl, cum_first]; omega⟩
  case round =>
    obtain ⟨k, C, hk0, hk, hC0, hC1, rfl, rfl, HC⟩ := hrel
    have H := hideS (fun wx => HLen.out (k + 1) wx (by omega) (by omega))
    have l1 := len_lo y (k + 1)
    have HS : Hid (cumI y (k + 1 + 1) = cumI y (k + 1) + lenI y (k + 1)) := cum_succ (m := k + 1) (by omega) (by omega)
    by_cases hlt : k + 1 < m
    · have hle : ¬ C < lenI y (k + 1) := by
        have := cum_mono (y := y) (m := k + 1 + 1) (k := m) (by omega) (by omega) (by omega)
        have := HM.out
        have := HS.out
        have := HC.out
        omega
      have HC' : Hid (C - lenI y (k + 1) = r - cumI y (k + 1 + 1)) := by
        show _ = _
        rw [HS.out, HC.out]; omega
      generalize lenI y (k + 1) = l at *
      go_wp2_with (go_at_call 67; refine (H.out _).mono ?_; rintro e w' ⟨rfl, rfl⟩)
      go_round
      case rel => exact ⟨k + 1, C - l, by omega, by omega, by omega, by omega, rfl, rfl, HC'⟩
      case measure => simp [intOf]; omega
    · have hle : C < lenI y (k + 1) := by
        have := HM'.out
        rw [show m + 1 = k + 1 + 1 by omega, HS.out] at this
        have := HC.out
        omega
      have hm : m = k + 1 := by omega
      have HE : Hid (C + 1 = D) := by
        show _ = _
        rw [← HD.out, HC.out, hm]
      have HMk := hideS hm
      clear hm HD HC HM HM'
      generalize lenI y (k + 1) = l at *
      go_wp2_with (go_at_call 67; refine (H.out _).mono ?_; rintro e w' ⟨rfl, rfl⟩)
      go_ret2
      obtain rfl := HE.out
      obtain rfl := HMk.out
      exact ⟨rfl, rfl⟩

theorem results_tmp4 {fn : Func} {t u v x : Tmp} (h : fn.results = #[.tmp t, .tmp u, .tmp v, .tmp x]) (tmps : Array Value) (P : Program) (w : World) :
    (results fn tmps).run P w = .ok (.tuple #[tmps.getD t undef, tmps.getD u undef, tmps.getD v undef, tmps.getD x undef]) w := by
  simp [results, h]

set_option maxHeartbeats 400000 in
theorem civil_ok (n y m d : Int) (w : World) (h : IsD n y m d) :
    Calls Try.prog 58 #[.int .i64 n] w fun e w' => e = .returned (.tuple #[.int .i64 y, .int .i64 m, .int .i64 d, .int .i64 0]) ∧ w' = w := by
  obtain ⟨n0, n1⟩ := h.range
  obtain ⟨a, b⟩ := h.year
  obtain ⟨a', b'⟩ := h.month
  have HY := hideS (isDay_yes n ⟨n0, n1⟩)
  have hd : n - nyI y - cumI y m + 1 = d := by have := h.2; unfold dayI at this; omega
  obtain ⟨h1, h2, h3, h4, _, _⟩ := h.1
  clear h
  have H1 := hideS (fun wx => yearOf_any n y wx h1 h2 a b)
  have H2 := hideS (fun wx => newYear_any y wx h1 (by omega))
  have h5 := fun wx => monthAndDay_any y m (n - nyI y) wx h3 h4 a' b'
  rw [hd] at h5
  have H3 := hideS h5
  have c1 := cum_lo (y := y) h3 (by omega)
  have n2 := ny_lo h1
  clear h5 hd b b' a'
  generalize nyI y = N at *
  go_enter Try.func58, Try.ntmps58
  go_wp2_with (first | (go_at_call 69; refine (HY.out _).mono ?_; rintro e w' ⟨rfl, rfl⟩) | (go_at_call 70; refine (H1.out _).mono ?_; rintro e w' ⟨rfl, rfl⟩) | (go_at_call 72; refine (H2.out _).mono ?_; rintro e w' ⟨rfl, rfl⟩) | (go_at_call 71; refine (H3.out _).mono ?_; rintro e w' ⟨rfl, rfl⟩))
  (try simp only [Exit.inBlock, Exit.then])
  refine bodyPost_ret (results_tmp4 rfl _ _ _) rfl ?_
  exact ⟨rfl, rfl⟩
theorem civil_bad (n : Int) (w : World) (h : ¬ (0 ≤ n ∧ n ≤ 109572)) :
    Calls Try.prog 58 #[.int .i64 n] w fun e w' => e = .returned (.tuple #[.int .i64 0, .int .i64 0, .int .i64 0, .int .i64 51]) ∧ w' = w := by
  have HY := hideS (isDay_no n h)
  clear h
  go_enter Try.func58, Try.ntmps58
  go_wp2_with (go_at_call 69; refine (HY.out _).mono ?_; rintro e w' ⟨rfl, rfl⟩)
  (try simp only [Exit.inBlock, Exit.then])
  refine bodyPost_ret (results_tmp4 rfl _ _ _) rfl ?_
  exact ⟨rfl, rfl⟩
end Go.Proofs.Ytelghkhcplmnmaa
namespace Go.Proofs.Ytelghkhcplmnmaa
open Go.RowKit

def dateV (y m d : Int) : Value := .agg #[.int .i64 y, .int .i64 m, .int .i64 d]

set_option maxHeartbeats 1600000 in
theorem refCiv_ok (n y m d : Int) (w : World) (h : IsD n y m d) :
    Calls Try.prog 41 #[.int .i64 n] w fun e w' => e = .returned (.tuple #[dateV y m d, .int .i64 0]) ∧ Below w.heap.size w w' := by
  obtain ⟨n0, n1⟩ := h.range
  obtain ⟨a, b⟩ := h.year
  obtain ⟨a', b'⟩ := h.month
  have hd : n - nyI y - cumI y m + 1 = d := by have := h.2; unfold dayI at this; omega
  obtain ⟨h1, h2, h3, h4, _, _⟩ := h.1
  clear h
  have HA := hideS a
  have HB := hideS b
  have HA' := hideS a'
  have HB' := hideS b'
  have HD := hideS hd
  clear a b a' b' hd
  have HLen := hideS (fun (k : Int) (wx : World) (a : 1 ≤ k) (b : k ≤ 12) => refLength_any y k wx a b)
  unfold dateV
  go_enter Try.func41, Try.ntmps41
  go_wp2_with fail
  go_loop [0, 4, 5] (fun c i _ => ∃ (j C : Int), 1900 ≤ j ∧ j ≤ y ∧ 0 ≤ C ∧ C ≤ 110000 ∧ i = .int .i64 j ∧ c = .int .i64 C ∧ Hid (C = n - nyI j)) (fun _ i _ => (y - intOf i).toNat)
  case atStart => exact ⟨1900, n, by omega, by omega, by omega, by omega, rfl, rfl, by show _ = _; rw [ny_first]; omega⟩
  case round =>
    obtain ⟨j, C, hj1, hj2, hC0, hC1, rfl, rfl, HC⟩ := hrel
    by_cases hlt : j < y
    · have HS : Hid (C - 365 - lpI j = n - nyI (j + 1)) := by
        show _ = _
        rw [HC.out, ny_succ hj1]; omega
      have HP : Hid (0 ≤ C - 365 - lpI j) := by
        show _ ≤ _
        rw [HS.out]
        have := ny_mono (y := j + 1) (z := y) (by omega) (by omega)
        have := HA.out
        omega
      cases hl : leapB j
      · rw [lp_false hl] at HS HP
        have hge : ¬ C < 365 := by have := HP.out; omega
        go_wp2_with (go_at_call 62; refine (refLeap_any _ _).mono ?_; rintro e w' ⟨rfl, rfl⟩)
        go_round
        case rel => exact ⟨j + 1, C - 365, by omega, by omega, by omega, by omega, rfl, rfl, by have := HS.out; show _ = _; omega⟩
        case measure => simp [intOf]; omega
      · rw [lp_true hl] at HS HP
        have hge : ¬ C < 366 := by have := HP.out; omega
        go_wp2_with (go_at_call 62; refine (refLeap_any _ _).mono ?_; rintro e w' ⟨rfl, rfl⟩)
        go_round
        case rel => exact ⟨j + 1, C - 366, by omega, by omega, by omega, by omega, rfl, rfl, by have := HS.out; show _ = _; omega⟩
        case measure => simp [intOf]; omega
    · obtain rfl : j = y := by omega
      have HP : Hid (C < 365 + lpI j) := by
        have := HB.out
        rw [ny_succ hj1] at this
        have := HC.out
        show _ < _
        omega
      cases hl : leapB j
      all_goals
        first | rw [lp_false hl] at HP | rw [lp_true hl] at HP
        have hlt : C < 365 ∨ C < 366 := Or.inr (by have := HP.out; omega)
        clear hlt
        have hlt := HP.out
        first | (have hlt : C < 365 := by omega) | (have hlt : C < 366 := by omega)
        go_wp2_with (go_at_call 62; refine (refLeap_any _ _).mono ?_; rintro e w' ⟨rfl, rfl⟩)
        clear hlt HP
        go_loop [0, 6] (fun c i => ∃ (k C : Int), 1 ≤ k ∧ k ≤ m ∧ 0 ≤ C ∧ C ≤ 110000 ∧ i = .int .i64 k ∧ c = .int .i64 C ∧ Hid (C = n - nyI j - cumI j k)) (fun _ i => (m - intOf i).toNat)
        case atStart => exact ⟨1, C, by omega, by omega, by omega, by omega, rfl, rfl, by show _ = _; rw [cum_first, HC.out]; omega⟩
        case round =>
          clear HC hC0 hC1
          obtain ⟨k, C, hk1, hk, hC0, hC1, rfl, rfl, HC⟩ := hrel
          have H := hideS (fun wx => HLen.out k wx (by omega) (by omega))
          have HS : Hid (cumI j (k + 1) = cumI j k + lenI j k) := cum_succ (by omega) (by omega)
          have l1 := len_lo j k
          by_cases hlt : k < m
          · have hge : lenI j k ≤ C := by
              have := cum_mono (y := j) (m := k + 1) (k := m) (by omega) (by omega) (by omega)
              have := HS.out
              have := HC.out
              have := HA'.out
              omega
            have HC' : Hid (C - lenI j k = n - nyI j - cumI j (k + 1)) := by
              show _ = _
              rw [HS.out, HC.out]; omega
            generalize lenI j k = l at *
            go_wp2_with (go_at_call 63; refine (H.out _).mono ?_; rintro e w' ⟨rfl, rfl⟩)
            go_round
            case rel => exact ⟨k + 1, C - l, by omega, by omega, by omega, by omega, rfl, rfl, HC'⟩
            case measure => simp [intOf]; omega
          · obtain rfl : k = m := by omega
            have hge : ¬ lenI j k ≤ C := by
              have := HB'.out
              rw [HS.out] at this
              have := HC.out
              omega
            have HE : Hid (C + 1 = d) := by
              show _ = _
              rw [← HD.out, HC.out]
            clear HC HD
            generalize lenI j k = l at *
            go_wp2_with (go_at_call 63; refine (H.out _).mono ?_; rintro e w' ⟨rfl, rfl⟩)
            obtain rfl := HE.out
            (try simp only [Exit.inBlock, Exit.then])
            refine bodyPost_ret (v := .tuple #[.agg #[.int .i64 j, .int .i64 k, .int .i64 (C + 1)], .int .i64 0]) (by simp [results, Try.results41, go_sem]) rfl ⟨rfl, ?_⟩
            exact ((Below.refl w.heap.size w).alloc (Nat.le_refl _) _)
theorem refCiv_bad (n : Int) (w : World) (h : ¬ (0 ≤ n ∧ n ≤ 109572)) :
    Calls Try.prog 41 #[.int .i64 n] w fun e w' => e = .returned (.tuple #[dateV 0 0 0, .int .i64 51]) ∧ Below w.heap.size w w' := by
  unfold dateV
  rcases (show n < 0 ∨ (0 ≤ n ∧ 109572 < n) by omega) with h1 | ⟨h1, h2⟩
  all_goals
    clear h
    go_enter Try.func41, Try.ntmps41
    go_wp2_with fail
    (try simp only [Exit.inBlock, Exit.then])
    refine bodyPost_ret (v := .tuple #[.agg #[.int .i64 0, .int .i64 0, .int .i64 0], .int .i64 51]) (by simp [results, Try.results41, go_sem]) rfl ⟨rfl, ?_⟩
    exact ((Below.refl w.heap.size w).alloc (Nat.le_refl _) _)
end Go.Proofs.Ytelghkhcplmnmaa
