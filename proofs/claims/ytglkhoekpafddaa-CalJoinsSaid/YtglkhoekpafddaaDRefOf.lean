/- The contract of the document's Of: years and months added up. -/
import Derived.Test.YtglkhoekpafddaaDOf
namespace Go.Proofs.Ytglkhoekpafddaa
open Go.RowKit

theorem lp_true {y : Int} (h : leapB y = true) : lpI y = 1 := by unfold lpI; rw [h]; rfl
theorem lp_false {y : Int} (h : leapB y = false) : lpI y = 0 := by unfold lpI; rw [h]; rfl

set_option maxHeartbeats 800000 in
theorem refOf_ok (y m d : Int) (w : World) (h : okD y m d) :
    Calls Try.prog 62 #[.int .i64 y, .int .i64 m, .int .i64 d] w fun e w' => e = .returned (.tuple #[.int .i64 (dayI y m d), .int .i64 0]) ∧ w' = w := by
  obtain ⟨h1, h2, h3, h4, h5, h6⟩ := h
  have HL := hideS (refLengthP_ok y m w ⟨h1, h2, h3, h4⟩)
  have hl := len_hi y m
  have HLen := hideS (fun (k : Int) (wx : World) (a : 1 ≤ k) (b : k ≤ 12) => refLength_any y k wx a b)
  have HD : Hid (dayI y m d = d - 1 + nyI y + cumI y m) := by show _ = _; unfold dayI; omega
  have n2 : nyI y ≤ 110000 := by have := ny_hi h1; omega
  obtain ⟨R, hR⟩ : ∃ R, dayI y m d = R := ⟨_, rfl⟩
  rw [hR] at HD ⊢
  clear hR
  obtain ⟨L, hL⟩ : ∃ L, lenI y m = L := ⟨_, rfl⟩
  rw [hL] at HL h6 hl
  clear hL
  have HN2 := hideS n2
  clear n2
  go_enter Try.func62, Try.ntmps62
  go_wp2_with (go_at_call 72; refine HL.out.mono ?_; rintro e w' ⟨rfl, rfl⟩)
  clear HL
  go_loop [11, 10] (fun i n => ∃ (j C : Int), 1900 ≤ j ∧ j ≤ y ∧ 0 ≤ C ∧ C ≤ 200000 ∧ i = .int .i64 j ∧ n = .int .i64 C ∧ Hid (C = d - 1 + nyI j)) (fun i _ => (y - intOf i).toNat)
  case atStart => exact ⟨1900, d - 1, by omega, by omega, by omega, by omega, rfl, rfl, by show _ = _; rw [ny_first]; omega⟩
  case round =>
    obtain ⟨j, C, hj1, hj2, hC0, hC1, rfl, rfl, HC⟩ := hrel
    by_cases hlt : j < y
    · have HS : Hid (C + 365 + lpI j = d - 1 + nyI (j + 1)) := by
        show _ = _
        rw [HC.out, ny_succ hj1]; omega
      have HB : Hid (nyI (j + 1) ≤ 110000) := by
        have := ny_mono (y := j + 1) (z := y) (by omega) (by omega)
        have := HN2.out
        show _ ≤ _
        omega
      cases hl : leapB j
      · rw [lp_false hl] at HS
        go_wp2_with (go_at_call 60; refine (refLeap_any _ _).mono ?_; rintro e w' ⟨rfl, rfl⟩)
        go_round
        case rel => exact ⟨j + 1, C + 365, by omega, by omega, by omega, by have := HS.out; have := HB.out; omega, rfl, rfl, by have := HS.out; show _ = _; omega⟩
        case measure => simp [intOf]; omega
      · rw [lp_true hl] at HS
        go_wp2_with (go_at_call 60; refine (refLeap_any _ _).mono ?_; rintro e w' ⟨rfl, rfl⟩)
        go_round
        case rel => exact ⟨j + 1, C + 365 + 1, by omega, by omega, by omega, by have := HS.out; have := HB.out; omega, rfl, rfl, HS⟩
        case measure => simp [intOf]; omega
    · obtain rfl : j = y := by omega
      go_wp2_with fail
      go_loop [12, 10] (fun i n => ∃ (k : Nat) (C : Int), 1 ≤ k ∧ (k : Int) ≤ m ∧ 0 ≤ C ∧ C ≤ 200000 ∧ i = .int .i64 k ∧ n = .int .i64 C ∧ Hid (C = d - 1 + nyI j + cumI j k)) (fun i _ => (m - intOf i).toNat)
      case atStart => exact ⟨1, C, by omega, by omega, by omega, by omega, rfl, rfl, by show _ = _; rw [show (((1 : Nat) : Int)) = 1 by rfl, cum_first, HC.out]; omega⟩
      case round =>
        clear HC hC0 hC1
        obtain ⟨k, C, hk1, hk, hC0, hC1, rfl, rfl, HC⟩ := hrel
        by_cases hlt : (k : Int) < m
        · have H := hideS (fun wx => HLen.out k wx (by omega) (by omega))
          have HN : Hid (C + lenI j k = d - 1 + nyI j + cumI j ((k + 1 : Nat) : Int)) := by
            show _ = _
            rw [HC.out, show (((k + 1 : Nat) : Int)) = (k : Int) + 1 by omega, cum_succ (m := (k : Int)) (by omega) (by omega)]; omega
          have HB : Hid (cumI j (((k + 1 : Nat) : Int)) ≤ 366) := cum_hi (by omega) (by omega)
          have l1 := len_lo j k
          have l2 := len_hi j k
          generalize lenI j k = l at *
          go_wp2_with (go_at_call 61; refine (H.out _).mono ?_; rintro e w' ⟨rfl, rfl⟩)
          go_round
          case rel => exact ⟨k + 1, C + l, by omega, by omega, by omega, by have := HN.out; have := HB.out; have := HN2.out; omega, by go_num, rfl, HN⟩
          case measure => simp [intOf]; omega
        · have hm : m = (k : Int) := by omega
          have HR : Hid (C = R) := by show _ = _; rw [HC.out, HD.out, hm]
          clear HC HD hm
          go_wp2_with fail
          go_ret2
          obtain rfl := HR.out
          exact ⟨rfl, rfl⟩

theorem refOf_bad (y m d : Int) (w : World) (h : ¬ okD y m d) :
    Calls Try.prog 62 #[.int .i64 y, .int .i64 m, .int .i64 d] w fun e w' => e = .returned (.tuple #[.int .i64 0, .int .i64 50]) ∧ w' = w := by
  by_cases hy : ymB y m
  · have HL := hideS (refLengthP_ok y m w hy)
    obtain ⟨h1, h2, h3, h4⟩ := hy
    unfold okD at h
    have l1 := len_lo y m
    generalize lenI y m = L at *
    rcases (show d < 1 ∨ (1 ≤ d ∧ L < d) by omega) with hd | ⟨hd, hd'⟩
    all_goals
      clear h
      go_enter Try.func62, Try.ntmps62
      go_wp2_with (go_at_call 72; refine HL.out.mono ?_; rintro e w' ⟨rfl, rfl⟩)
      go_ret2
      exact ⟨rfl, rfl⟩
  · have HL := hideS (refLengthP_bad y m w hy)
    clear hy h
    go_enter Try.func62, Try.ntmps62
    go_wp2_with (go_at_call 72; refine HL.out.mono ?_; rintro e w' ⟨rfl, rfl⟩)
    go_ret2
    exact ⟨rfl, rfl⟩
end Go.Proofs.Ytglkhoekpafddaa
