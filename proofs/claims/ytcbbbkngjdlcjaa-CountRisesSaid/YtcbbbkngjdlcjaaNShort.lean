/- The contracts of short and awake of this layer's statements. -/
import Derived.Test.YtcbbbkngjdlcjaaHbu
namespace Go.Proofs.Ytcbbbkngjdlcjaa
open Go.RowKit

set_option maxHeartbeats 1600000 in
theorem short_any (kind W a b : Int) (p : Option Addr) (N c : Nat) (hN : N ≤ 9223372036854775807) :
    ∃ S, ∀ w, Calls Try.prog 8 #[.int .i64 kind, .agg #[.int .i64 W, .slice p N c], .int .i64 a, .int .i64 b] w fun e w' => e = .returned (.bool S) ∧ Below w.heap.size w w' := by
  have HB := hideS (fun w => cbox_first w W (.slice p N c))
  by_cases hk : kind = 6
  · subst hk
    rcases (show (12 : Int) < N ∨ ((N : Int) ≤ 12 ∧ N = 0) ∨ ((N : Int) ≤ 12 ∧ N ≠ 0 ∧ a < 0) ∨ ((N : Int) ≤ 12 ∧ N ≠ 0 ∧ 0 ≤ a ∧ b < 0) ∨ ((N : Int) ≤ 12 ∧ N ≠ 0 ∧ 0 ≤ a ∧ 0 ≤ b ∧ 109572 < a) ∨ ((N : Int) ≤ 12 ∧ N ≠ 0 ∧ 0 ≤ a ∧ 0 ≤ b ∧ a ≤ 109572 ∧ 109572 < b) ∨ ((N : Int) ≤ 12 ∧ N ≠ 0 ∧ 0 ≤ a ∧ 0 ≤ b ∧ a ≤ 109572 ∧ b ≤ 109572) by omega) with h | ⟨h, h0⟩ | ⟨h, h0, h1⟩ | ⟨h, h0, h1, h2⟩ | ⟨h, h0, h1, h2, h3⟩ | ⟨h, h0, h1, h2, h3, h4⟩ | ⟨h, h0, h1, h2, h3, h4⟩
    · have h' : ¬ (N : Int) ≤ 12 := by omega
      refine ⟨false, fun w => ?_⟩
      go_enter Try.func8, Try.ntmps8
      go_wp2_with fail
      go_ret
      exact ⟨rfl, HB.out w⟩
    · subst h0
      refine ⟨true, fun w => ?_⟩
      go_enter Try.func8, Try.ntmps8
      go_wp2_with fail
      go_ret
      exact ⟨rfl, HB.out w⟩
    · have h0' : ((N : Int) == 0) = false := beq_false_of_ne (by omega)
      refine ⟨true, fun w => ?_⟩
      go_enter Try.func8, Try.ntmps8
      go_wp2_with fail
      go_ret
      exact ⟨rfl, HB.out w⟩
    · have h0' : ((N : Int) == 0) = false := beq_false_of_ne (by omega)
      refine ⟨true, fun w => ?_⟩
      go_enter Try.func8, Try.ntmps8
      go_wp2_with fail
      go_ret
      exact ⟨rfl, HB.out w⟩
    · have h0' : ((N : Int) == 0) = false := beq_false_of_ne (by omega)
      refine ⟨true, fun w => ?_⟩
      go_enter Try.func8, Try.ntmps8
      go_wp2_with fail
      go_ret
      exact ⟨rfl, HB.out w⟩
    · have h0' : ((N : Int) == 0) = false := beq_false_of_ne (by omega)
      refine ⟨true, fun w => ?_⟩
      go_enter Try.func8, Try.ntmps8
      go_wp2_with fail
      go_ret
      exact ⟨rfl, HB.out w⟩
    · have h0' : ((N : Int) == 0) = false := beq_false_of_ne (by omega)
      rcases (show (a - b ≤ 800 ∧ b - a ≤ 800) ∨ (a - b ≤ 800 ∧ ¬ b - a ≤ 800) ∨ ¬ a - b ≤ 800 by omega) with ⟨k1, k2⟩ | ⟨k1, k2⟩ | k1
      · refine ⟨true, fun w => ?_⟩
        go_enter Try.func8, Try.ntmps8
        go_wp2_with fail
        go_ret
        exact ⟨rfl, HB.out w⟩
      · refine ⟨false, fun w => ?_⟩
        go_enter Try.func8, Try.ntmps8
        go_wp2_with fail
        go_ret
        exact ⟨congrArg (fun s => Ending.returned (Value.bool s)) (show (decide (a < 0) || decide (b < 0) || decide (109572 < a) || decide (109572 < b)) = false by simp; omega), HB.out w⟩
      · refine ⟨false, fun w => ?_⟩
        go_enter Try.func8, Try.ntmps8
        go_wp2_with fail
        go_ret
        exact ⟨congrArg (fun s => Ending.returned (Value.bool s)) (show (decide (a < 0) || decide (b < 0) || decide (109572 < a) || decide (109572 < b)) = false by simp; omega), HB.out w⟩
  · have hk' : (kind != 6) = true := bne_iff_ne.2 hk
    clear hk
    refine ⟨true, fun w => ?_⟩
    go_enter Try.func8, Try.ntmps8
    go_wp2_with fail
    go_ret
    exact ⟨rfl, HB.out w⟩
theorem isD_45289 : IsD 45289 2023 12 31 := ⟨by unfold okD; decide, by decide⟩
theorem isD_45291 : IsD 45291 2024 1 2 := ⟨by unfold okD; decide, by decide⟩
theorem awk_frac : fracS (fun _ => true) 3 45289 45291 = 731 := by
  obtain ⟨e1, e2, e3⟩ := date_of isD_45289
  obtain ⟨f1, f2, f3⟩ := date_of isD_45291
  unfold fracS fracP
  rw [if_neg (by decide), if_neg (by decide), if_pos rfl, e1, f1]
  decide
theorem awk_year : fracS (fun _ => true) 2 45656 46021 = 365 := by
  unfold fracS fracP
  rw [if_neg (by decide), if_pos (Or.inr rfl)]
  decide
theorem yW_one : yW 365 365 = 4607182418800017408 := by kernel_rfl

set_option maxHeartbeats 800000 in
theorem awake7 (w : World) : Calls Try.prog 9 #[] w fun e w' => e = .returned (.bool true) ∧ Below w.heap.size w w' := by
  have H1 : Hid (∀ wx, Calls Try.prog 10 #[.int .i64 3, .agg #[.int .i64 0, .slice none 0 0], .int .i64 45289, .int .i64 45291] wx fun e w' => e = .returned (.tuple #[.int .i64 731, .int .i64 133590, .int .i64 0]) ∧ Below wx.heap.size wx w') := fun wx => by
    have := fracH_ok (fun _ => true) 3 0 45289 45291 (.slice none 0 0) wx (by decide) (by decide) (by decide) (by decide) wx (Below.refl _ _)
    rw [awk_frac] at this
    exact this
  have H2 : Hid (∀ wx, Calls Try.prog 12 #[.int .i64 2, .agg #[.int .i64 0, .slice none 0 0], .int .i64 45656, .int .i64 46021] wx fun e w' => e = .returned (.tuple #[.float .f64 4607182418800017408, .int .i64 0]) ∧ Below wx.heap.size wx w') := fun wx => by
    have h := fracH_ok (fun _ => true) 2 0 45656 46021 (.slice none 0 0) wx (by decide) (by decide) (by decide) (by decide)
    rw [awk_year, show fracQ 2 = 365 from rfl] at h
    have := yearP_ok 2 0 45656 46021 365 365 (.slice none 0 0) wx (by decide) (by decide) (by decide) (by decide) h
    rw [yW_one] at this
    exact this
  have hq : (FloatKind.f64.format.order 4607182418800017408 4607182418800017408 == some .eq) = true := by kernel_rfl
  go_enter Try.func9, Try.ntmps9
  go_wp2_with (first | (go_at_call 10; refine (H1.out _).mono ?_; rintro e w1 ⟨rfl, hb1⟩) | (go_at_call 12; refine (H2.out _).mono ?_; rintro e w2 ⟨rfl, hb2⟩))
  go_ret
  exact ⟨rfl, hb1.trans (hb2.mono hb1.size)⟩
end Go.Proofs.Ytcbbbkngjdlcjaa
