/- The contracts of sched's rolled, step and Point. -/
import Derived.Test.YtelghkhcplmnmaaSpA
import Derived.Test.YtelghkhcplmnmaaHal
import Derived.Test.YtelghkhcplmnmaaHap
namespace Go.Proofs.Ytelghkhcplmnmaa
open Go.RowKit

theorem day_more {y m d e : Int} : dayI y m d + (e - d) = dayI y m e := by unfold dayI; omega
theorem rollO_in {roll y m d K : Int} (hr : 0 ≤ atI y m K ∧ atI y m K < 3600) : rollO roll y m d K = some (if roll = 0 then monI y m d K false else if roll = 1 then dayI (toY y m K) (toM y m K) (lenI (toY y m K) (toM y m K)) else thirdI (toY y m K) (toM y m K)) := by unfold rollO; rw [if_pos hr]
theorem rollO_out {roll y m d K : Int} (hr : ¬ (0 ≤ atI y m K ∧ atI y m K < 3600)) : rollO roll y m d K = none := by unfold rollO; rw [if_neg hr]

set_option maxHeartbeats 3200000 in
theorem rolled_any (a K roll y m d : Int) (w : World) (hd : IsD a y m d) (r1 : 0 ≤ roll) (r2 : roll ≤ 2) (k0 : -9223372036854775808 ≤ K) (k1 : K ≤ 9223372036854775807) :
    Calls Try.prog 38 #[.int .i64 a, .int .i64 K, .int .i64 roll] w fun e w' => e = .returned (.tuple #[.int .i64 ((rollO roll y m d K).getD 0), .bool (rollO roll y m d K).isSome]) ∧ w' = w := by
  by_cases hr : 0 ≤ atI y m K ∧ atI y m K < 3600
  · have hym := toYM hr.1 hr.2
    have HM := hideS (fun wx => months_ok a y m d K false wx hd hr.1 hr.2)
    have h0 : rollO 0 y m d K = some (monI y m d K false) := rollO_in hr
    obtain ⟨d', hd'⟩ := roll_isD (hd.1.2.2.2.2.1) h0
    rw [rollO_in hr]
    have HC := hideS (fun wx => civil_ok (monI y m d K false) (toY y m K) (toM y m K) d' wx hd')
    have HL := hideS (fun wx => lengthP_ok (toY y m K) (toM y m K) wx hym)
    have HT := hideS (fun wx => third_ok (toY y m K) (toM y m K) wx hym)
    have he : monI y m d K false + (lenI (toY y m K) (toM y m K) - d') = dayI (toY y m K) (toM y m K) (lenI (toY y m K) (toM y m K)) := by
      rw [hd'.2]; exact day_more
    obtain ⟨x0, x1⟩ := hd'.range
    have hL0 := len_lo (toY y m K) (toM y m K)
    have hd0 : 1 ≤ d' := hd'.1.2.2.2.2.1
    have hd1 : d' ≤ lenI (toY y m K) (toM y m K) := hd'.1.2.2.2.2.2
    have hL1 : lenI (toY y m K) (toM y m K) ≤ 31 := by have := len_hi (toY y m K) (toM y m K); omega
    clear hd' h0
    generalize monI y m d K false = R0 at *
    generalize lenI (toY y m K) (toM y m K) = L at *
    generalize dayI (toY y m K) (toM y m K) L = R1 at *
    generalize thirdI (toY y m K) (toM y m K) = R2 at *
    generalize toY y m K = Y at *
    generalize toM y m K = Mo at *
    clear hd hr hym
    rcases (show roll = 0 ∨ roll = 1 ∨ roll = 2 by omega) with rfl | rfl | rfl
    all_goals
      go_enter Try.func38, Try.ntmps38
      go_wp2_with (first | (go_at_call 57; refine (HM.out _).mono ?_; rintro e w1 ⟨rfl, rfl⟩) | (go_at_call 58; refine (HC.out _).mono ?_; rintro e w2 ⟨rfl, rfl⟩) | (go_at_call 59; refine (HL.out _).mono ?_; rintro e w3 ⟨rfl, rfl⟩) | (go_at_call 60; refine (HT.out _).mono ?_; rintro e w3 ⟨rfl, rfl⟩))
      go_ret2
      exact ⟨rfl, rfl⟩
  · rw [rollO_out hr]
    have HM := hideS (fun wx => months_far a y m d K false wx hd hr k0 k1)
    clear hd hr
    go_enter Try.func38, Try.ntmps38
    go_wp2_with (go_at_call 57; refine (HM.out _).mono ?_; rintro e w1 ⟨rfl, rfl⟩)
    go_ret2
    exact ⟨rfl, rfl⟩

theorem step_2' {s : Spc} {k : Int} (h : s.unit = 2) : stepN s k = 7 * (k * s.n) := by unfold stepN; rw [if_pos (Or.inl h), if_pos h]

set_option maxHeartbeats 3200000 in
theorem schStep_days (s : Spc) (W a k : Int) (v : Value) (w : World) (h : SpcOk s) (ha : isDayP a) (k0 : -200000 ≤ k) (k1 : k ≤ 200000) (hu : s.unit ≤ 2) :
    Calls Try.prog 24 #[.agg #[.int .i64 s.st, .int .i64 s.en, .int .i64 s.n, .int .i64 s.unit, .int .i64 s.stub, .int .i64 s.roll, .int .i64 s.conv, .int .i64 s.lag, .int .i64 W, v], .int .i64 a, .int .i64 k] w fun e w' => e = .returned (.tuple #[.int .i64 ((ptO s a k).getD 0), .bool (ptO s a k).isSome]) ∧ Below w.heap.size w w' := by
  rw [pt_days ha hu]
  have HB := hideS (SBox.zero w s W v).below
  obtain ⟨b0, b1⟩ := mul_bd k0 k1 h.n1 h.n2
  have hu1 := h.u1
  have hun : ∃ X, stepN s k = X ∧ ((s.unit = 1 ∧ X = k * s.n) ∨ (s.unit = 2 ∧ 7 * (k * s.n) = X)) := by
    rcases (show s.unit = 1 ∨ s.unit = 2 by omega) with u | u
    · exact ⟨_, step_1 u, Or.inl ⟨u, rfl⟩⟩
    · exact ⟨_, step_2' u, Or.inr ⟨u, rfl⟩⟩
  obtain ⟨X, hX, hun⟩ := hun
  rw [hX]
  clear hX h hu hu1
  obtain ⟨st, en, n, unit, stub, roll, conv, lag⟩ := s
  dsimp only at *
  obtain ⟨M, hM⟩ : ∃ M, k * n = M := ⟨_, rfl⟩
  rw [hM] at b0 b1 hun
  obtain ⟨a0, a1⟩ := ha
  have H2 := hideS (fun wx => known_any (a + X) wx)
  have HE : Hid (∀ d : Bool, d = decide (0 ≤ a + X ∧ a + X ≤ 109572) → ((if isDayP (a + X) then some (a + X) else none : Option Int).getD 0 = (if 0 ≤ a + X ∧ a + X ≤ 109572 then a + X else 0) ∧ (if isDayP (a + X) then some (a + X) else none : Option Int).isSome = d)) := fun d hd => by
    by_cases hh : 0 ≤ a + X ∧ a + X ≤ 109572
    · rw [hd, if_pos (show isDayP (a + X) from hh), if_pos hh, decide_eq_true hh]; exact ⟨rfl, rfl⟩
    · rw [hd, if_neg (show ¬ isDayP (a + X) from hh), if_neg hh, decide_eq_false hh]; exact ⟨rfl, rfl⟩
  obtain ⟨e1, e2⟩ := HE.out _ rfl
  rw [e1, e2]
  clear HE e1 e2
  generalize decide (0 ≤ a + X ∧ a + X ≤ 109572) = dd at *
  generalize (if 0 ≤ a + X ∧ a + X ≤ 109572 then a + X else 0) = rr at *
  rcases hun with ⟨rfl, rfl⟩ | ⟨rfl, hX⟩
  all_goals
    go_enter Try.func24, Try.ntmps24
    go_wp2_with (go_at_call 37; refine (H2.out _).mono ?_; rintro e w1 ⟨rfl, rfl⟩)
    go_ret2
    exact ⟨rfl, HB.out⟩

set_option maxHeartbeats 3200000 in
theorem schStep_months (s : Spc) (W a k y m d : Int) (v : Value) (w : World) (h : SpcOk s) (hd : IsD a y m d) (k0 : -200000 ≤ k) (k1 : k ≤ 200000) (hu : ¬ s.unit ≤ 2) :
    Calls Try.prog 24 #[.agg #[.int .i64 s.st, .int .i64 s.en, .int .i64 s.n, .int .i64 s.unit, .int .i64 s.stub, .int .i64 s.roll, .int .i64 s.conv, .int .i64 s.lag, .int .i64 W, v], .int .i64 a, .int .i64 k] w fun e w' => e = .returned (.tuple #[.int .i64 ((ptO s a k).getD 0), .bool (ptO s a k).isSome]) ∧ Below w.heap.size w w' := by
  rw [pt_months hd hu]
  have HB := hideS (SBox.zero w s W v).below
  obtain ⟨b0, b1⟩ := mul_bd k0 k1 h.n1 h.n2
  have hu4 := h.u2
  have hun : ∃ K, stepN s k = K ∧ -3000000000 ≤ K ∧ K ≤ 3000000000 ∧ ((s.unit = 3 ∧ K = k * s.n) ∨ (s.unit = 4 ∧ k * s.n * 12 = K)) := by
    rcases (show s.unit = 3 ∨ s.unit = 4 by omega) with e | e
    · exact ⟨_, step_3 e, by omega, by omega, Or.inl ⟨e, rfl⟩⟩
    · exact ⟨_, step_4 e, by omega, by omega, Or.inr ⟨e, by omega⟩⟩
  obtain ⟨K, hK, K0, K1, hun⟩ := hun
  rw [hK]
  have HR := hideS (fun wx => rolled_any a K s.roll y m d wx hd h.r1 h.r2 (by omega) (by omega))
  generalize rollO s.roll y m d K = ro at *
  clear hK h hu hu4 hd
  obtain ⟨st, en, n, unit, stub, roll, conv, lag⟩ := s
  dsimp only at *
  obtain ⟨M, hM⟩ : ∃ M, k * n = M := ⟨_, rfl⟩
  rw [hM] at b0 b1 hun
  rcases hun with ⟨rfl, rfl⟩ | ⟨rfl, hX⟩
  all_goals
    go_enter Try.func24, Try.ntmps24
    go_wp2_with (go_at_call 38; refine (HR.out _).mono ?_; rintro e w1 ⟨rfl, rfl⟩)
    go_ret2
    exact ⟨rfl, HB.out⟩

/-- sched's step: a point. -/
theorem schStep_any (s : Spc) (W a k : Int) (v : Value) (w : World) (h : SpcOk s) (ha : isDayP a) (k0 : -200000 ≤ k) (k1 : k ≤ 200000) :
    Calls Try.prog 24 #[.agg #[.int .i64 s.st, .int .i64 s.en, .int .i64 s.n, .int .i64 s.unit, .int .i64 s.stub, .int .i64 s.roll, .int .i64 s.conv, .int .i64 s.lag, .int .i64 W, v], .int .i64 a, .int .i64 k] w fun e w' => e = .returned (.tuple #[.int .i64 ((ptO s a k).getD 0), .bool (ptO s a k).isSome]) ∧ Below w.heap.size w w' := by
  by_cases hu : s.unit ≤ 2
  · exact schStep_days s W a k v w h ha k0 k1 hu
  · obtain ⟨y, m, d, hd⟩ := isD_ex ha.1 ha.2
    exact schStep_months s W a k y m d v w h hd k0 k1 hu

theorem mul_far {k n : Int} (hn : 1 ≤ n) : (109572 < k → 109572 < k * n) ∧ (k < -109572 → k * n < -109572) := by
  refine ⟨fun h => ?_, fun h => ?_⟩
  · have := Int.mul_le_mul_of_nonneg_left hn (show 0 ≤ k by omega)
    omega
  · have := Int.mul_le_mul_of_nonneg_left hn (show 0 ≤ -k by omega)
    rw [Int.neg_mul, Int.neg_mul] at this
    omega
theorem step_far {s : Spc} {k : Int} (hn : 1 ≤ s.n) (hk : k < -109572 ∨ 109572 < k) : stepN s k < -109572 ∨ 109572 < stepN s k := by
  have h := mul_far (k := k) hn
  unfold stepN
  split
  · split <;> omega
  · omega
theorem pt_far2 {s : Spc} {a k : Int} (hn : 1 ≤ s.n) (hk : k < -109572 ∨ 109572 < k) : ptO s a k = none := by
  have hb := step_far hn hk
  by_cases ha : isDayP a
  · by_cases hu : s.unit ≤ 2
    · rw [pt_days ha hu, if_neg (fun h => by have h1 := h.1; have h2 := h.2; have := ha.1; have := ha.2; omega)]
    · obtain ⟨y, m, d, hd⟩ := isD_ex ha.1 ha.2
      rw [pt_months hd hu]
      unfold rollO
      obtain ⟨y0, y1, m0, m1, _, _⟩ := hd.1
      rw [if_neg (fun h => by unfold atI at h; omega)]
  · exact pt_none ha

set_option maxHeartbeats 3200000 in
theorem schPoint_bad (s : Spc) (W E a k : Int) (v : Value) (w : World) (hE : E ≠ 0) (HC : Hid (∀ wx, Below w.heap.size w wx → Calls Try.prog 15 #[.agg #[.int .i64 s.st, .int .i64 s.en, .int .i64 s.n, .int .i64 s.unit, .int .i64 s.stub, .int .i64 s.roll, .int .i64 s.conv, .int .i64 s.lag, .int .i64 W, v]] wx fun e w' => e = .returned (.int .i64 E) ∧ Below wx.heap.size wx w')) :
    Calls Try.prog 10 #[.agg #[.int .i64 s.st, .int .i64 s.en, .int .i64 s.n, .int .i64 s.unit, .int .i64 s.stub, .int .i64 s.roll, .int .i64 s.conv, .int .i64 s.lag, .int .i64 W, v], .int .i64 a, .int .i64 k] w fun e w' => e = .returned (.tuple #[.int .i64 0, .bool false]) ∧ Below w.heap.size w w' := by
  have HB := hideS (SBox.zero w s W v).below
  obtain ⟨st, en, n, unit, stub, roll, conv, lag⟩ := s
  dsimp only at *
  have hE' : (E != 0) = true := bne_iff_ne.2 hE
  clear hE
  go_enter Try.func10, Try.ntmps10
  go_wp2_with (go_at_call 15; refine (HC.out _ HB.out).mono ?_; rintro e w1 ⟨rfl, hb1⟩)
  go_ret2
  exact ⟨rfl, HB.out.trans (hb1.mono HB.out.size)⟩

set_option maxHeartbeats 3200000 in
theorem schPoint_ok (s : Spc) (W a k : Int) (v : Value) (w : World) (h : SpcOk s) (HC : Hid (∀ wx, Below w.heap.size w wx → Calls Try.prog 15 #[.agg #[.int .i64 s.st, .int .i64 s.en, .int .i64 s.n, .int .i64 s.unit, .int .i64 s.stub, .int .i64 s.roll, .int .i64 s.conv, .int .i64 s.lag, .int .i64 W, v]] wx fun e w' => e = .returned (.int .i64 0) ∧ Below wx.heap.size wx w')) :
    Calls Try.prog 10 #[.agg #[.int .i64 s.st, .int .i64 s.en, .int .i64 s.n, .int .i64 s.unit, .int .i64 s.stub, .int .i64 s.roll, .int .i64 s.conv, .int .i64 s.lag, .int .i64 W, v], .int .i64 a, .int .i64 k] w fun e w' => e = .returned (.tuple #[.int .i64 ((ptO s a k).getD 0), .bool (ptO s a k).isSome]) ∧ Below w.heap.size w w' := by
  have HB := hideS (SBox.zero w s W v)
  have H1 := hideS (fun wx => schDay_any a wx)
  have H2 := hideS (fun wx => schIn_any k (-109572) 109572 wx)
  by_cases ha : 0 ≤ a ∧ a ≤ 109572
  · rw [decide_eq_true ha] at H1
    by_cases hk : -109572 ≤ k ∧ k ≤ 109572
    · rw [decide_eq_true hk] at H2
      have HS := hideS (fun wx => schStep_any s W a k v wx h ha (by omega) (by omega))
      generalize ptO s a k = o at *
      clear h ha hk
      obtain ⟨st, en, n, unit, stub, roll, conv, lag⟩ := s
      dsimp only at *
      go_enter Try.func10, Try.ntmps10
      go_wp2_with fail
      refine (HC.out _ HB.out.below).mono ?_
      rintro e w1 ⟨rfl, hb1⟩
      have HB1 := hideS (HB.out.step hb1)
      clear hb1
      obtain ⟨q0, q1, q2, q3, q4, q5, q6, q7, q8, q9⟩ := HB1.out.cells
      go_wp2_with (first | (go_at_call 22; refine (H1.out _).mono ?_; rintro e w2 ⟨rfl, rfl⟩) | (go_at_call 23; refine (H2.out _).mono ?_; rintro e w2 ⟨rfl, rfl⟩) | (go_at_call 24; refine (HS.out _).mono ?_; rintro e w2 ⟨rfl, hb2⟩))
      go_ret2
      exact ⟨rfl, (HB1.out.step hb2).below⟩
    · rw [decide_eq_false hk] at H2
      rw [pt_far2 h.n1 (by omega)]
      clear h ha hk
      obtain ⟨st, en, n, unit, stub, roll, conv, lag⟩ := s
      dsimp only at *
      go_enter Try.func10, Try.ntmps10
      go_wp2_with (first | (go_at_call 15; refine (HC.out _ HB.out.below).mono ?_; rintro e w1 ⟨rfl, hb1⟩) | (go_at_call 22; refine (H1.out _).mono ?_; rintro e w2 ⟨rfl, rfl⟩) | (go_at_call 23; refine (H2.out _).mono ?_; rintro e w2 ⟨rfl, rfl⟩))
      go_ret2
      exact ⟨rfl, (HB.out.step hb1).below⟩
  · rw [decide_eq_false ha] at H1
    rw [pt_none (s := s) (k := k) (show ¬ isDayP a from ha)]
    clear h ha
    obtain ⟨st, en, n, unit, stub, roll, conv, lag⟩ := s
    dsimp only at *
    go_enter Try.func10, Try.ntmps10
    go_wp2_with (first | (go_at_call 15; refine (HC.out _ HB.out.below).mono ?_; rintro e w1 ⟨rfl, hb1⟩) | (go_at_call 22; refine (H1.out _).mono ?_; rintro e w2 ⟨rfl, rfl⟩))
    go_ret2
    exact ⟨rfl, (HB.out.step hb1).below⟩

/-- sched's Point, of a schedule that may be. -/
theorem schPoint_yes (s : Spc) (W a k : Int) (p : Option Addr) (b off c : Nat) (rs : List Rul) (w : World) (h : SpcOk s) (hC : OkC W rs) (hs : RSrc w p b off rs) :
    Calls Try.prog 10 #[.agg #[.int .i64 s.st, .int .i64 s.en, .int .i64 s.n, .int .i64 s.unit, .int .i64 s.stub, .int .i64 s.roll, .int .i64 s.conv, .int .i64 s.lag, .int .i64 W, .slice p rs.length c], .int .i64 a, .int .i64 k] w fun e w' => e = .returned (.tuple #[.int .i64 ((ptO s a k).getD 0), .bool (ptO s a k).isSome]) ∧ Below w.heap.size w w' :=
  schPoint_ok s W a k _ w h (fun wx hb => schCheck_any s W 0 0 0 p b off c rs wx (.ok hC) (.cal h) (hs.below hb) (by have := hC.len; omega))

theorem schPoint_not (s : Spc) (W A B E a k : Int) (p : Option Addr) (b off c : Nat) (rs : List Rul) (w : World) (hA : ChkR W rs A B) (h : SpcR s A E) (hE : E ≠ 0) (hs : RSrc w p b off rs) (hl : rs.length ≤ 9223372036854775807) :
    Calls Try.prog 10 #[.agg #[.int .i64 s.st, .int .i64 s.en, .int .i64 s.n, .int .i64 s.unit, .int .i64 s.stub, .int .i64 s.roll, .int .i64 s.conv, .int .i64 s.lag, .int .i64 W, .slice p rs.length c], .int .i64 a, .int .i64 k] w fun e w' => e = .returned (.tuple #[.int .i64 0, .bool false]) ∧ Below w.heap.size w w' :=
  schPoint_bad s W E a k _ w hE (fun wx hb => schCheck_any s W A B E p b off c rs wx hA h (hs.below hb) hl)
end Go.Proofs.Ytelghkhcplmnmaa
