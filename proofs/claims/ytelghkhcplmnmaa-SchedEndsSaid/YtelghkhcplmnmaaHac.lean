/- The contracts of Length and Of, of the program and of the document's answer. The contract of the document's Of: years and months added up. -/
import Derived.Test.YtelghkhcplmnmaaHab
import Derived.Deep.RegionWith
namespace Go.Proofs.Ytelghkhcplmnmaa
open Go.RowKit

def ymB (y m : Int) : Prop := 1900 ≤ y ∧ y ≤ 2199 ∧ 1 ≤ m ∧ m ≤ 12

theorem isYear_any (y : Int) (w : World) :
    Calls Try.prog 73 #[.int .i64 y] w fun e w' => e = .returned (.bool (decide (1900 ≤ y ∧ y ≤ 2199))) ∧ w' = w := by
  by_cases h1 : 1900 ≤ y <;> by_cases h2 : y ≤ 2199
  all_goals
    first | rw [decide_eq_true (⟨h1, h2⟩ : 1900 ≤ y ∧ y ≤ 2199)] | rw [decide_eq_false (fun h : 1900 ≤ y ∧ y ≤ 2199 => by omega)]
    go_enter Try.func73, Try.ntmps73
    go_wp2
    go_ret
    exact ⟨rfl, rfl⟩

theorem lengthP_ok (y m : Int) (w : World) (h : ymB y m) :
    Calls Try.prog 59 #[.int .i64 y, .int .i64 m] w fun e w' => e = .returned (.tuple #[.int .i64 (lenI y m), .int .i64 0]) ∧ w' = w := by
  obtain ⟨h1, h2, h3, h4⟩ := h
  have hy := isYear_any y
  rw [decide_eq_true (⟨h1, h2⟩ : 1900 ≤ y ∧ y ≤ 2199)] at hy
  have HL := hideS (length_any y m w h3 h4)
  have HY := hideS hy
  clear hy
  generalize lenI y m = L at *
  go_enter Try.func59, Try.ntmps59
  go_wp2_with (first | (go_at_call 73; refine (HY.out _).mono ?_; rintro e w' ⟨rfl, rfl⟩) | (go_at_call 67; refine HL.out.mono ?_; rintro e w' ⟨rfl, rfl⟩))
  go_ret2
  exact ⟨rfl, rfl⟩
theorem lengthP_bad (y m : Int) (w : World) (h : ¬ ymB y m) :
    Calls Try.prog 59 #[.int .i64 y, .int .i64 m] w fun e w' => e = .returned (.tuple #[.int .i64 0, .int .i64 50]) ∧ w' = w := by
  unfold ymB at h
  by_cases hy0 : 1900 ≤ y ∧ y ≤ 2199
  · have hy := isYear_any y
    rw [decide_eq_true hy0] at hy
    have HY := hideS hy
    clear hy
    rcases (show m < 1 ∨ (1 ≤ m ∧ 12 < m) by omega) with hm | ⟨hm, hm'⟩
    all_goals
      clear h hy0
      go_enter Try.func59, Try.ntmps59
      go_wp2_with (go_at_call 73; refine (HY.out _).mono ?_; rintro e w' ⟨rfl, rfl⟩)
      go_ret2
      exact ⟨rfl, rfl⟩
  · have hy := isYear_any y
    rw [decide_eq_false hy0] at hy
    have HY := hideS hy
    clear hy h hy0
    go_enter Try.func59, Try.ntmps59
    go_wp2_with (go_at_call 73; refine (HY.out _).mono ?_; rintro e w' ⟨rfl, rfl⟩)
    go_ret2
    exact ⟨rfl, rfl⟩

theorem refLengthP_ok (y m : Int) (w : World) (h : ymB y m) :
    Calls Try.prog 44 #[.int .i64 y, .int .i64 m] w fun e w' => e = .returned (.tuple #[.int .i64 (lenI y m), .int .i64 0]) ∧ w' = w := by
  obtain ⟨h1, h2, h3, h4⟩ := h
  have HL := hideS (refLength_any y m w h3 h4)
  generalize lenI y m = L at *
  go_enter Try.func44, Try.ntmps44
  go_wp2_with (go_at_call 63; refine HL.out.mono ?_; rintro e w' ⟨rfl, rfl⟩)
  go_ret2
  exact ⟨rfl, rfl⟩
theorem refLengthP_bad (y m : Int) (w : World) (h : ¬ ymB y m) :
    Calls Try.prog 44 #[.int .i64 y, .int .i64 m] w fun e w' => e = .returned (.tuple #[.int .i64 0, .int .i64 50]) ∧ w' = w := by
  unfold ymB at h
  rcases (show y < 1900 ∨ (1900 ≤ y ∧ 2199 < y) ∨ ((1900 ≤ y ∧ y ≤ 2199) ∧ m < 1) ∨ ((1900 ≤ y ∧ y ≤ 2199) ∧ 1 ≤ m ∧ 12 < m) by omega) with h1 | ⟨h1, h2⟩ | ⟨⟨h1, h2⟩, h3⟩ | ⟨⟨h1, h2⟩, h3, h4⟩
  all_goals
    clear h
    go_enter Try.func44, Try.ntmps44
    go_wp2
    go_ret2
    exact ⟨rfl, rfl⟩

theorem leaps_any (y : Int) (w : World) (h : 0 ≤ y) (h' : y ≤ 3000) :
    Calls Try.prog 78 #[.int .i64 y] w fun e w' => e = .returned (.int .i64 (lpsI y)) ∧ w' = w := by
  unfold lpsI
  go_enter Try.func78, Try.ntmps78
  go_wp2
  go_ret
  exact ⟨rfl, rfl⟩

theorem newYear_any (y : Int) (w : World) (h : 1900 ≤ y) (h' : y ≤ 2200) :
    Calls Try.prog 72 #[.int .i64 y] w fun e w' => e = .returned (.int .i64 (nyI y)) ∧ w' = w := by
  have H1 := hideS (leaps_any (y - 1) w (by omega) (by omega))
  have H2 := hideS (leaps_any 1899 w (by omega) (by omega))
  have e2 : lpsI 1899 = 460 := by decide
  rw [e2] at H2
  unfold nyI
  have hl : 0 ≤ lpsI (y - 1) ∧ lpsI (y - 1) ≤ 3000 := by unfold lpsI; omega
  obtain ⟨l1, l2⟩ := hl
  generalize lpsI (y - 1) = L at *
  clear e2
  go_enter Try.func72, Try.ntmps72
  go_wp2_with (first | (go_at_call_of 78 (Value.int IntKind.i64 1899); refine H2.out.mono ?_; rintro e w' ⟨rfl, rfl⟩) | (go_at_call 78; refine H1.out.mono ?_; rintro e w' ⟨rfl, rfl⟩))
  go_ret
  exact ⟨rfl, rfl⟩

set_option maxHeartbeats 400000 in
theorem ofP_ok (y m d : Int) (w : World) (h : okD y m d) :
    Calls Try.prog 68 #[.int .i64 y, .int .i64 m, .int .i64 d] w fun e w' => e = .returned (.tuple #[.int .i64 (dayI y m d), .int .i64 0]) ∧ w' = w := by
  obtain ⟨h1, h2, h3, h4, h5, h6⟩ := h
  have HL := hideS (lengthP_ok y m w ⟨h1, h2, h3, h4⟩)
  have HN := hideS (newYear_any y w h1 (by omega))
  have hl := len_hi y m
  have HLen := hideS (fun (k : Int) (wx : World) (a : 1 ≤ k) (b : k ≤ 12) => length_any y k wx a b)
  have HD : Hid (dayI y m d = nyI y + d - 1 + cumI y m) := by show _ = _; unfold dayI; omega
  have n1 : 0 ≤ nyI y := by have := ny_lo h1; omega
  have n2 : nyI y ≤ 110000 := by have := ny_hi h1; omega
  obtain ⟨R, hR⟩ : ∃ R, dayI y m d = R := ⟨_, rfl⟩
  rw [hR] at HD ⊢
  clear hR
  obtain ⟨L, hL⟩ : ∃ L, lenI y m = L := ⟨_, rfl⟩
  rw [hL] at HL h6 hl
  clear hL
  obtain ⟨N, hN⟩ : ∃ N, nyI y = N := ⟨_, rfl⟩
  rw [hN] at HN n1 n2 HD
  clear hN
  go_enter Try.func68, Try.ntmps68
  go_wp2_with (first | (go_at_call 59; refine HL.out.mono ?_; rintro e w' ⟨rfl, rfl⟩) | (go_at_call 72; refine HN.out.mono ?_; rintro e w' ⟨rfl, rfl⟩))
  clear HL HN
  go_loop [35, 10] (fun i n => ∃ (k : Nat) (C : Int), (k : Int) + 1 ≤ m ∧ 0 ≤ C ∧ C ≤ 200000 ∧ i = .int .i64 k ∧ n = .int .i64 C ∧ Hid (C = N + d - 1 + cumI y (k + 1))) (fun i _ => (m - intOf i).toNat)
  case atStart => exact ⟨0, N + d - 1, by omega, by omega, by omega, rfl, rfl, by show _ = _; rw [show (((0 : Nat) : Int) + 1) = 1 by rfl, cum_first]; omega⟩
  case round =>
    obtain ⟨k, C, hk, hC0, hC1, rfl, rfl, HC⟩ := hrel
    by_cases hlt : (k : Int) + 1 < m
    · have H := hideS (fun wx => HLen.out (k + 1) wx (by omega) (by omega))
      have HN : Hid (C + lenI y (k + 1) = N + d - 1 + cumI y (((k + 1 : Nat) : Int) + 1)) := by
        show _ = _
        rw [HC.out, show (((k + 1 : Nat) : Int) + 1) = (k : Int) + 1 + 1 by omega, cum_succ (m := (k : Int) + 1) (by omega) (by omega)]; omega
      have HB : Hid (cumI y (((k + 1 : Nat) : Int) + 1) ≤ 366) := cum_hi (by omega) (by omega)
      have l1 := len_lo y (k + 1)
      have l2 := len_hi y (k + 1)
      generalize lenI y (k + 1) = l at *
      have hlt' : (k : Int) < m - 1 := by omega
      go_wp2_with (go_at_call 67; refine (H.out _).mono ?_; rintro e w' ⟨rfl, rfl⟩)
      go_round
      case rel => exact ⟨k + 1, C + l, by omega, by omega, by have := HN.out; have := HB.out; omega, by go_num, rfl, HN⟩
      case measure => simp [intOf]; omega
    · have hm : m = (k : Int) + 1 := by omega
      have HR : Hid (C = R) := by show _ = _; rw [HC.out, HD.out, hm]
      have hge : ¬ (k : Int) < m - 1 := by omega
      clear HC HD hm
      go_wp2_with fail
      go_ret2
      obtain rfl := HR.out
      exact ⟨rfl, rfl⟩

theorem ofP_bad (y m d : Int) (w : World) (h : ¬ okD y m d) :
    Calls Try.prog 68 #[.int .i64 y, .int .i64 m, .int .i64 d] w fun e w' => e = .returned (.tuple #[.int .i64 0, .int .i64 50]) ∧ w' = w := by
  by_cases hy : ymB y m
  · have HL := hideS (lengthP_ok y m w hy)
    obtain ⟨h1, h2, h3, h4⟩ := hy
    unfold okD at h
    have l1 := len_lo y m
    generalize lenI y m = L at *
    rcases (show d < 1 ∨ (1 ≤ d ∧ L < d) by omega) with hd | ⟨hd, hd'⟩
    all_goals
      clear h
      go_enter Try.func68, Try.ntmps68
      go_wp2_with (go_at_call 59; refine HL.out.mono ?_; rintro e w' ⟨rfl, rfl⟩)
      go_ret2
      exact ⟨rfl, rfl⟩
  · have HL := hideS (lengthP_bad y m w hy)
    clear hy h
    go_enter Try.func68, Try.ntmps68
    go_wp2_with (go_at_call 59; refine HL.out.mono ?_; rintro e w' ⟨rfl, rfl⟩)
    go_ret2
    exact ⟨rfl, rfl⟩
end Go.Proofs.Ytelghkhcplmnmaa
namespace Go.Proofs.Ytelghkhcplmnmaa
open Go.RowKit

theorem lp_true {y : Int} (h : leapB y = true) : lpI y = 1 := by unfold lpI; rw [h]; rfl
theorem lp_false {y : Int} (h : leapB y = false) : lpI y = 0 := by unfold lpI; rw [h]; rfl

set_option maxHeartbeats 800000 in
theorem refOf_ok (y m d : Int) (w : World) (h : okD y m d) :
    Calls Try.prog 45 #[.int .i64 y, .int .i64 m, .int .i64 d] w fun e w' => e = .returned (.tuple #[.int .i64 (dayI y m d), .int .i64 0]) ∧ w' = w := by
  obtain ⟨h1, h2, h3, h4, h5, h6⟩ := h
  have HL := hideS (refLengthP_ok y m w ⟨h1, h2, h3, h4⟩)
  have hl := len_hi y m
  have HLen := hideS (fun (k : Int) (wx : World) (a : 1 ≤ k) (b : k ≤ 12) => refLength_any y k wx a b)
  have HD : Hid (dayI y m d = d - 1 + nyI y + cumI y m) := by show _ = _; unfold dayI; omega
  have n2 : nyI y ≤ 110000 := by have := ny_hi h1; omega
  obtain ⟨R, hR⟩ : ∃ R, dayI y m d = R := ⟨_, rfl⟩
  rw [hR] at HD ⊢
  clear hR
  obtain ⟨L, hL⟩ : ∃ L, lenI y m = L := ⟨_, rfl⟩
  rw [hL] at HL h6 hl
  clear hL
  have HN2 := hideS n2
  clear n2
  go_enter Try.func45, Try.ntmps45
  go_wp2_with (go_at_call 44; refine HL.out.mono ?_; rintro e w' ⟨rfl, rfl⟩)
  clear HL
  go_loop [11, 10] (fun i n => ∃ (j C : Int), 1900 ≤ j ∧ j ≤ y ∧ 0 ≤ C ∧ C ≤ 200000 ∧ i = .int .i64 j ∧ n = .int .i64 C ∧ Hid (C = d - 1 + nyI j)) (fun i _ => (y - intOf i).toNat)
  case atStart => exact ⟨1900, d - 1, by omega, by omega, by omega, by omega, rfl, rfl, by show _ = _; rw [ny_first]; omega⟩
  case round =>
    obtain ⟨j, C, hj1, hj2, hC0, hC1, rfl, rfl, HC⟩ := hrel
    by_cases hlt : j < y
    · have HS : Hid (C + 365 + lpI j = d - 1 + nyI (j + 1)) := by
        show _ = _
        rw [HC.out, ny_succ hj1]; omega
      have HB : Hid (nyI (j + 1) ≤ 110000) := by
        have := ny_mono (y := j + 1) (z := y) (by omega) (by omega)
        have := HN2.out
        show _ ≤ _
        omega
      cases hl : leapB j
      · rw [lp_false hl] at HS
        go_wp2_with (go_at_call 62; refine (refLeap_any _ _).mono ?_; rintro e w' ⟨rfl, rfl⟩)
        go_round
        case rel => exact ⟨j + 1, C + 365, by omega, by omega, by omega, by have := HS.out; have := HB.out; omega, rfl, rfl, by have := HS.out; show _ = _; omega⟩
        case measure => simp [intOf]; omega
      · rw [lp_true hl] at HS
        go_wp2_with (go_at_call 62; refine (refLeap_any _ _).mono ?_; rintro e w' ⟨rfl, rfl⟩)
        go_round
        case rel => exact ⟨j + 1, C + 365 + 1, by omega, by omega, by omega, by have := HS.out; have := HB.out; omega, rfl, rfl, HS⟩
        case measure => simp [intOf]; omega
    · obtain rfl : j = y := by omega
      go_wp2_with fail
      go_loop [12, 10] (fun i n => ∃ (k : Nat) (C : Int), 1 ≤ k ∧ (k : Int) ≤ m ∧ 0 ≤ C ∧ C ≤ 200000 ∧ i = .int .i64 k ∧ n = .int .i64 C ∧ Hid (C = d - 1 + nyI j + cumI j k)) (fun i _ => (m - intOf i).toNat)
      case atStart => exact ⟨1, C, by omega, by omega, by omega, by omega, rfl, rfl, by show _ = _; rw [show (((1 : Nat) : Int)) = 1 by rfl, cum_first, HC.out]; omega⟩
      case round =>
        clear HC hC0 hC1
        obtain ⟨k, C, hk1, hk, hC0, hC1, rfl, rfl, HC⟩ := hrel
        by_cases hlt : (k : Int) < m
        · have H := hideS (fun wx => HLen.out k wx (by omega) (by omega))
          have HN : Hid (C + lenI j k = d - 1 + nyI j + cumI j ((k + 1 : Nat) : Int)) := by
            show _ = _
            rw [HC.out, show (((k + 1 : Nat) : Int)) = (k : Int) + 1 by omega, cum_succ (m := (k : Int)) (by omega) (by omega)]; omega
          have HB : Hid (cumI j (((k + 1 : Nat) : Int)) ≤ 366) := cum_hi (by omega) (by omega)
          have l1 := len_lo j k
          have l2 := len_hi j k
          generalize lenI j k = l at *
          go_wp2_with (go_at_call 63; refine (H.out _).mono ?_; rintro e w' ⟨rfl, rfl⟩)
          go_round
          case rel => exact ⟨k + 1, C + l, by omega, by omega, by omega, by have := HN.out; have := HB.out; have := HN2.out; omega, by go_num, rfl, HN⟩
          case measure => simp [intOf]; omega
        · have hm : m = (k : Int) := by omega
          have HR : Hid (C = R) := by show _ = _; rw [HC.out, HD.out, hm]
          clear HC HD hm
          go_wp2_with fail
          go_ret2
          obtain rfl := HR.out
          exact ⟨rfl, rfl⟩

theorem refOf_bad (y m d : Int) (w : World) (h : ¬ okD y m d) :
    Calls Try.prog 45 #[.int .i64 y, .int .i64 m, .int .i64 d] w fun e w' => e = .returned (.tuple #[.int .i64 0, .int .i64 50]) ∧ w' = w := by
  by_cases hy : ymB y m
  · have HL := hideS (refLengthP_ok y m w hy)
    obtain ⟨h1, h2, h3, h4⟩ := hy
    unfold okD at h
    have l1 := len_lo y m
    generalize lenI y m = L at *
    rcases (show d < 1 ∨ (1 ≤ d ∧ L < d) by omega) with hd | ⟨hd, hd'⟩
    all_goals
      clear h
      go_enter Try.func45, Try.ntmps45
      go_wp2_with (go_at_call 44; refine HL.out.mono ?_; rintro e w' ⟨rfl, rfl⟩)
      go_ret2
      exact ⟨rfl, rfl⟩
  · have HL := hideS (refLengthP_bad y m w hy)
    clear hy h
    go_enter Try.func45, Try.ntmps45
    go_wp2_with (go_at_call 44; refine HL.out.mono ?_; rintro e w' ⟨rfl, rfl⟩)
    go_ret2
    exact ⟨rfl, rfl⟩
end Go.Proofs.Ytelghkhcplmnmaa
