/- The contract of the document's point. The contract of the document's point: months and years. -/
import Derived.Test.YtelghkhcplmnmaaHak
namespace Go.Proofs.Ytelghkhcplmnmaa
open Go.RowKit

theorem step_1 {s : Spc} {k : Int} (h : s.unit = 1) : stepN s k = k * s.n := by unfold stepN; rw [if_neg (by omega)]
theorem step_2 {s : Spc} {k : Int} (h : s.unit = 2) : stepN s k = 7 * k * s.n := by unfold stepN; rw [if_pos (Or.inl h), if_pos h, Int.mul_assoc]
theorem step_3 {s : Spc} {k : Int} (h : s.unit = 3) : stepN s k = k * s.n := by unfold stepN; rw [if_neg (by omega)]
theorem step_4 {s : Spc} {k : Int} (h : s.unit = 4) : stepN s k = 12 * (k * s.n) := by unfold stepN; rw [if_pos (Or.inr h), if_neg (by omega)]
theorem mul_bd {k n : Int} (k0 : -200000 ≤ k) (k1 : k ≤ 200000) (n0 : 1 ≤ n) (n1 : n ≤ 1200) : -240000000 ≤ k * n ∧ k * n ≤ 240000000 := by
  rcases Int.le_total 0 k with h | h
  · have a := Int.mul_le_mul_of_nonneg_left n1 h
    have b := Int.mul_nonneg h (show 0 ≤ n by omega)
    omega
  · have a := Int.mul_le_mul_of_nonneg_left n1 (show 0 ≤ -k by omega)
    have b := Int.mul_nonneg (show 0 ≤ -k by omega) (show 0 ≤ n by omega)
    rw [Int.neg_mul, Int.neg_mul] at a
    rw [Int.neg_mul] at b
    omega

set_option maxHeartbeats 3200000 in
theorem ref8Point_no (s : Spc) (W a k : Int) (v : Value) (w : World) (h : ¬ isDayP a ∨ k < -200000 ∨ 200000 < k) :
    Calls Try.prog 26 #[.agg #[.int .i64 s.st, .int .i64 s.en, .int .i64 s.n, .int .i64 s.unit, .int .i64 s.stub, .int .i64 s.roll, .int .i64 s.conv, .int .i64 s.lag, .int .i64 W, v], .int .i64 a, .int .i64 k] w fun e w' => e = .returned (.tuple #[.int .i64 0, .bool false]) ∧ Below w.heap.size w w' := by
  have HB := hideS (SBox.zero w s W v).below
  obtain ⟨st, en, n, unit, stub, roll, conv, lag⟩ := s
  dsimp only at *
  have H1 := hideS (fun wx => ref8In_any a 0 109572 wx)
  by_cases ha : 0 ≤ a ∧ a ≤ 109572
  · rw [decide_eq_true ha] at H1
    rcases (show k < -200000 ∨ (¬ k < -200000 ∧ 200000 < k) by
      rcases h with b | b
      · exact absurd ha b
      · omega) with b | ⟨b, b2⟩
    all_goals
      clear h ha
      go_enter Try.func26, Try.ntmps26
      go_wp2_with (go_at_call 39; refine (H1.out _).mono ?_; rintro e w1 ⟨rfl, rfl⟩)
      go_ret2
      exact ⟨rfl, HB.out⟩
  · rw [decide_eq_false ha] at H1
    clear h ha
    go_enter Try.func26, Try.ntmps26
    go_wp2_with (go_at_call 39; refine (H1.out _).mono ?_; rintro e w1 ⟨rfl, rfl⟩)
    go_ret2
    exact ⟨rfl, HB.out⟩

set_option maxHeartbeats 3200000 in
theorem ref8Point_days (s : Spc) (W a k : Int) (v : Value) (w : World) (h : SpcOk s) (ha : isDayP a) (k0 : -200000 ≤ k) (k1 : k ≤ 200000) (hu : s.unit ≤ 2) :
    Calls Try.prog 26 #[.agg #[.int .i64 s.st, .int .i64 s.en, .int .i64 s.n, .int .i64 s.unit, .int .i64 s.stub, .int .i64 s.roll, .int .i64 s.conv, .int .i64 s.lag, .int .i64 W, v], .int .i64 a, .int .i64 k] w fun e w' => e = .returned (.tuple #[.int .i64 ((ptO s a k).getD 0), .bool (ptO s a k).isSome]) ∧ Below w.heap.size w w' := by
  rw [pt_days ha hu]
  have HB := hideS (SBox.zero w s W v).below
  obtain ⟨b0, b1⟩ := mul_bd k0 k1 h.n1 h.n2
  have hu1 := h.u1
  rcases (show s.unit = 1 ∨ s.unit = 2 by omega) with u | u
  · rw [step_1 u]
    clear h hu hu1
    obtain ⟨st, en, n, unit, stub, roll, conv, lag⟩ := s
    dsimp only at *
    subst u
    have H1 := hideS (fun wx => ref8In_any a 0 109572 wx)
    rw [decide_eq_true (⟨ha.1, ha.2⟩ : 0 ≤ a ∧ a ≤ 109572)] at H1
    obtain ⟨a0, a1⟩ := ha
    obtain ⟨M, hM⟩ : ∃ M, k * n = M := ⟨_, rfl⟩
    rw [hM] at b0 b1 ⊢
    have H2 := hideS (fun wx => ref8In_any (a + M) 0 109572 wx)
    have k0' : ¬ k < -200000 := by omega
    have k1' : ¬ 200000 < k := by omega
    by_cases hd : 0 ≤ a + M ∧ a + M ≤ 109572
    · rw [if_pos (show isDayP (a + M) from hd)]
      rw [decide_eq_true hd] at H2
      clear hd
      go_enter Try.func26, Try.ntmps26
      go_wp2_with fail
      refine (H1.out _).mono ?_
      rintro e w1 ⟨rfl, rfl⟩
      go_wp2_with fail
      refine (H2.out _).mono ?_
      rintro e w1 ⟨rfl, rfl⟩
      go_wp2_with fail
      go_ret2
      exact ⟨rfl, HB.out⟩
    · rw [if_neg (show ¬ isDayP (a + M) from hd)]
      rw [decide_eq_false hd] at H2
      clear hd
      go_enter Try.func26, Try.ntmps26
      go_wp2_with fail
      refine (H1.out _).mono ?_
      rintro e w1 ⟨rfl, rfl⟩
      go_wp2_with fail
      refine (H2.out _).mono ?_
      rintro e w1 ⟨rfl, rfl⟩
      go_wp2_with fail
      go_ret2
      exact ⟨rfl, HB.out⟩
  · rw [step_2 u]
    clear h hu hu1
    obtain ⟨st, en, n, unit, stub, roll, conv, lag⟩ := s
    dsimp only at *
    subst u
    have H1 := hideS (fun wx => ref8In_any a 0 109572 wx)
    rw [decide_eq_true (⟨ha.1, ha.2⟩ : 0 ≤ a ∧ a ≤ 109572)] at H1
    obtain ⟨a0, a1⟩ := ha
    have e7 : 7 * k * n = 7 * (k * n) := Int.mul_assoc _ _ _
    obtain ⟨M, hM⟩ : ∃ M, k * n = M := ⟨_, rfl⟩
    obtain ⟨M7, hM7⟩ : ∃ M7, 7 * k * n = M7 := ⟨_, rfl⟩
    rw [hM] at b0 b1 e7
    rw [hM7] at e7 ⊢
    have c0 : -1680000000 ≤ M7 := by omega
    have c1 : M7 ≤ 1680000000 := by omega
    have H2 := hideS (fun wx => ref8In_any (a + M7) 0 109572 wx)
    have k0' : ¬ k < -200000 := by omega
    have k1' : ¬ 200000 < k := by omega
    clear e7
    by_cases hd : 0 ≤ a + M7 ∧ a + M7 ≤ 109572
    · rw [if_pos (show isDayP (a + M7) from hd)]
      rw [decide_eq_true hd] at H2
      clear hd
      go_enter Try.func26, Try.ntmps26
      go_wp2_with fail
      refine (H1.out _).mono ?_
      rintro e w1 ⟨rfl, rfl⟩
      go_wp2_with fail
      refine (H2.out _).mono ?_
      rintro e w1 ⟨rfl, rfl⟩
      go_wp2_with fail
      go_ret2
      exact ⟨rfl, HB.out⟩
    · rw [if_neg (show ¬ isDayP (a + M7) from hd)]
      rw [decide_eq_false hd] at H2
      clear hd
      go_enter Try.func26, Try.ntmps26
      go_wp2_with fail
      refine (H1.out _).mono ?_
      rintro e w1 ⟨rfl, rfl⟩
      go_wp2_with fail
      refine (H2.out _).mono ?_
      rintro e w1 ⟨rfl, rfl⟩
      go_wp2_with fail
      go_ret2
      exact ⟨rfl, HB.out⟩
end Go.Proofs.Ytelghkhcplmnmaa
namespace Go.Proofs.Ytelghkhcplmnmaa
open Go.RowKit

theorem okD_len {y m : Int} (h : ymB y m) : okD y m (lenI y m) := ⟨h.1, h.2.1, h.2.2.1, h.2.2.2, by have := len_lo y m; omega, Int.le_refl _⟩
theorem date_three {w w2 : World} {y m d : Int} (hb : Below (w.alloc (.cells #[.int .i64 y, .int .i64 m, .int .i64 d] 73)).heap.size (w.alloc (.cells #[.int .i64 y, .int .i64 m, .int .i64 d] 73)) w2) : Below w.heap.size w w2 :=
  ((Below.refl w.heap.size w).alloc (Nat.le_refl _) _).trans (hb.mono (by simp))

set_option maxHeartbeats 6400000 in
theorem ref8Point_months (s : Spc) (W a k y m d : Int) (v : Value) (w : World) (h : SpcOk s) (hd : IsD a y m d) (k0 : -200000 ≤ k) (k1 : k ≤ 200000) (hu : ¬ s.unit ≤ 2) :
    Calls Try.prog 26 #[.agg #[.int .i64 s.st, .int .i64 s.en, .int .i64 s.n, .int .i64 s.unit, .int .i64 s.stub, .int .i64 s.roll, .int .i64 s.conv, .int .i64 s.lag, .int .i64 W, v], .int .i64 a, .int .i64 k] w fun e w' => e = .returned (.tuple #[.int .i64 ((ptO s a k).getD 0), .bool (ptO s a k).isSome]) ∧ Below w.heap.size w w' := by
  rw [pt_months hd hu]
  have HB := hideS (SBox.zero w s W v)
  obtain ⟨b0, b1⟩ := mul_bd k0 k1 h.n1 h.n2
  obtain ⟨a0, a1⟩ := hd.range
  obtain ⟨y0, y1, m0, m1, _, _⟩ := hd.1
  have HC := hideS (fun wx => refCiv_ok a y m d wx hd)
  unfold dateV at HC
  have H1 := hideS (fun wx => ref8In_any a 0 109572 wx)
  rw [decide_eq_true (⟨a0, a1⟩ : 0 ≤ a ∧ a ≤ 109572)] at H1
  have k0' : ¬ k < -200000 := by omega
  have k1' : ¬ 200000 < k := by omega
  have hu4 := h.u2
  have r1 := h.r1
  have r2 := h.r2
  have hun : (s.unit = 3 ∧ stepN s k = k * s.n) ∨ (s.unit = 4 ∧ stepN s k = 12 * (k * s.n)) := by
    rcases (show s.unit = 3 ∨ s.unit = 4 by omega) with e | e
    · exact Or.inl ⟨e, step_3 e⟩
    · exact Or.inr ⟨e, step_4 e⟩
  obtain ⟨K, hK⟩ : ∃ K, stepN s k = K := ⟨_, rfl⟩
  rw [hK] at hun ⊢
  clear hK
  have HMo : Hid ((0 ≤ atI y m K ∧ atI y m K < 3600) → ∀ wx, Calls Try.prog 42 #[.agg #[.int .i64 y, .int .i64 m, .int .i64 d], .int .i64 K] wx fun e w' => e = .returned (.tuple #[.int .i64 (toY y m K), .int .i64 (toM y m K), .bool true]) ∧ Below wx.heap.size wx w') := fun hr wx => refMonth_ok y m d K wx y0 y1 m0 m1 hr.1 hr.2
  have HMf : Hid (¬ (0 ≤ atI y m K ∧ atI y m K < 3600) → ∀ wx, Calls Try.prog 42 #[.agg #[.int .i64 y, .int .i64 m, .int .i64 d], .int .i64 K] wx fun e w' => e = .returned (.tuple #[.int .i64 0, .int .i64 0, .bool false]) ∧ Below wx.heap.size wx w') := fun hr wx => refMonth_far y m d K wx y0 y1 m0 m1 hr
  have HMs : Hid ((0 ≤ atI y m K ∧ atI y m K < 3600) → ∀ wx, Calls Try.prog 43 #[.int .i64 a, .int .i64 K, .bool false] wx fun e w' => e = .returned (.tuple #[.int .i64 (monI y m d K false), .int .i64 0]) ∧ Below wx.heap.size wx w') := fun hr wx => refMonths_ok a y m d K false wx hd hr.1 hr.2
  unfold rollO
  by_cases hr : 0 ≤ atI y m K ∧ atI y m K < 3600
  · rw [if_pos hr]
    have hym := toYM hr.1 hr.2
    have HM := hideS (HMo.out hr)
    have HS := hideS (HMs.out hr)
    have HL := hideS (fun wx => refLengthP_ok (toY y m K) (toM y m K) wx hym)
    have HO := hideS (fun wx => refOf_ok (toY y m K) (toM y m K) (lenI (toY y m K) (toM y m K)) wx (okD_len hym))
    have HT := hideS (fun wx => refThird_ok (toY y m K) (toM y m K) wx hym)
    generalize monI y m d K false = R0 at *
    generalize lenI (toY y m K) (toM y m K) = L at *
    generalize dayI (toY y m K) (toM y m K) L = R1 at *
    generalize thirdI (toY y m K) (toM y m K) = R2 at *
    generalize toY y m K = Y at *
    generalize toM y m K = Mo at *
    clear h hd hu hr hym HMo HMf HMs a0 a1 y0 y1 m0 m1
    obtain ⟨st, en, n, unit, stub, roll, conv, lag⟩ := s
    dsimp only at *
    obtain ⟨M, hM⟩ : ∃ M, k * n = M := ⟨_, rfl⟩
    rw [hM] at b0 b1 hun
    have hun' : (unit = 3 ∧ K = M) ∨ (unit = 4 ∧ 12 * M = K) := by omega
    clear hun
    rcases hun' with ⟨rfl, rfl⟩ | ⟨rfl, hK⟩
    all_goals rcases (show roll = 0 ∨ roll = 1 ∨ roll = 2 by omega) with rfl | rfl | rfl
    all_goals
      go_enter Try.func26, Try.ntmps26
      go_wp2_with fail
      refine (H1.out _).mono ?_
      rintro e w1 ⟨rfl, rfl⟩
      go_wp2_with fail
      refine (HC.out _).mono ?_
      rintro e w2 ⟨rfl, hb2⟩
      have HB2 := hideS (HB.out.step hb2)
      have HB3 := hideS (HB2.out.step ((Below.refl _ w2).alloc (Nat.le_refl _) (.cells #[.int .i64 y, .int .i64 m, .int .i64 d] 73)))
      clear hb2
      obtain ⟨_, _, q2, q3, _, q5, _, _, _, _⟩ := HB3.out.cells
      go_wp2_with fail
      refine (HM.out _).mono ?_
      rintro e w4 ⟨rfl, hb4⟩
      have HB4 := hideS (HB3.out.step hb4)
      clear hb4 q2 q3 q5
      obtain ⟨_, _, _, _, _, q5, _, _, _, _⟩ := HB4.out.cells
      first
      | (go_wp2_with (go_at_call 43; refine (HS.out _).mono ?_; rintro e w5 ⟨rfl, hb5⟩)
         go_ret2
         exact ⟨rfl, (HB4.out.step hb5).below⟩)
      | (go_wp2_with (first | (go_at_call 44; refine (HL.out _).mono ?_; rintro e w5 ⟨rfl, rfl⟩) | (go_at_call 45; refine (HO.out _).mono ?_; rintro e w5 ⟨rfl, rfl⟩))
         go_ret2
         exact ⟨rfl, HB4.out.below⟩)
      | (go_wp2_with (go_at_call 46; refine (HT.out _).mono ?_; rintro e w5 ⟨rfl, rfl⟩)
         go_ret2
         exact ⟨rfl, HB4.out.below⟩)
  · rw [if_neg hr]
    have HM := hideS (HMf.out hr)
    clear h hd hu hr HMo HMf HMs a0 a1 y0 y1 m0 m1
    obtain ⟨st, en, n, unit, stub, roll, conv, lag⟩ := s
    dsimp only at *
    obtain ⟨M, hM⟩ : ∃ M, k * n = M := ⟨_, rfl⟩
    rw [hM] at b0 b1 hun
    have hun' : (unit = 3 ∧ K = M) ∨ (unit = 4 ∧ 12 * M = K) := by omega
    clear hun
    rcases hun' with ⟨rfl, rfl⟩ | ⟨rfl, hK⟩
    all_goals
      go_enter Try.func26, Try.ntmps26
      go_wp2_with fail
      refine (H1.out _).mono ?_
      rintro e w1 ⟨rfl, rfl⟩
      go_wp2_with fail
      refine (HC.out _).mono ?_
      rintro e w2 ⟨rfl, hb2⟩
      have HB2 := hideS (HB.out.step hb2)
      have HB3 := hideS (HB2.out.step ((Below.refl _ w2).alloc (Nat.le_refl _) (.cells #[.int .i64 y, .int .i64 m, .int .i64 d] 73)))
      clear hb2
      go_wp2_with (go_at_call 42; refine (HM.out _).mono ?_; rintro e w4 ⟨rfl, hb4⟩)
      go_ret2
      exact ⟨rfl, (HB3.out.step hb4).below⟩

theorem ref8Point_any (s : Spc) (W a k : Int) (v : Value) (w : World) (h : SpcOk s) :
    Calls Try.prog 26 #[.agg #[.int .i64 s.st, .int .i64 s.en, .int .i64 s.n, .int .i64 s.unit, .int .i64 s.stub, .int .i64 s.roll, .int .i64 s.conv, .int .i64 s.lag, .int .i64 W, v], .int .i64 a, .int .i64 k] w fun e w' => e = .returned (.tuple #[.int .i64 ((ptO s a k).getD 0), .bool (ptO s a k).isSome]) ∧ Below w.heap.size w w' := by
  by_cases ha : isDayP a
  · by_cases hk : k < -200000 ∨ 200000 < k
    · rw [pt_far h.n1 hk]
      exact ref8Point_no s W a k v w (Or.inr hk)
    · by_cases hu : s.unit ≤ 2
      · exact ref8Point_days s W a k v w h ha (by omega) (by omega) hu
      · obtain ⟨y, m, d, hd⟩ := isD_ex ha.1 ha.2
        exact ref8Point_months s W a k y m d v w h hd (by omega) (by omega) hu
  · rw [pt_none ha]
    exact ref8Point_no s W a k v w (Or.inl ha)
end Go.Proofs.Ytelghkhcplmnmaa
