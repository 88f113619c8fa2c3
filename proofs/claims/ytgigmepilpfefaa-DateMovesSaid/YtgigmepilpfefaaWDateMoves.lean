/- The walk of DateMoves: months there and back, the same weekday 28 years on. -/
import Derived.Test.YtgigmepilpfefaaDAwake
import Derived.Test.YtgigmepilpfefaaDMonths
namespace Go.Proofs.Ytgigmepilpfefaa
open Go.RowKit

theorem i64_wf' {n : Int} (h : (Lit.int .i64 n).wf = true) : -9223372036854775808 ≤ n ∧ n ≤ 9223372036854775807 := by
  simp only [Lit.wf, IntKind.min, IntKind.max, IntKind.signed, IntKind.bits] at h
  simp at h
  omega
theorem lawDay_any (n : Int) (w : World) :
    Calls Try.prog 24 #[.int .i64 n] w fun e w' => e = .returned (.bool (decide (0 ≤ n ∧ n ≤ 109572))) ∧ w' = w := by
  by_cases h1 : 0 ≤ n <;> by_cases h2 : n ≤ 109572
  all_goals
    first | rw [decide_eq_true (⟨h1, h2⟩ : 0 ≤ n ∧ n ≤ 109572)] | rw [decide_eq_false (fun h : 0 ≤ n ∧ n ≤ 109572 => by omega)]
    go_enter Try.func24, Try.ntmps24
    go_wp2
    go_ret
    exact ⟨rfl, rfl⟩
theorem lawDay_yes (n : Int) (h : 0 ≤ n ∧ n ≤ 109572) (w : World) :
    Calls Try.prog 24 #[.int .i64 n] w fun e w' => e = .returned (.bool true) ∧ w' = w := by
  have e := lawDay_any n w
  rw [decide_eq_true h] at e; exact e
theorem lawDay_no (n : Int) (h : ¬ (0 ≤ n ∧ n ≤ 109572)) (w : World) :
    Calls Try.prog 24 #[.int .i64 n] w fun e w' => e = .returned (.bool false) ∧ w' = w := by
  have e := lawDay_any n w
  rw [decide_eq_false h] at e; exact e

theorem at_in {y m : Int} (h : ymB y m) : 0 ≤ atI y m 0 ∧ atI y m 0 < 3600 := by
  obtain ⟨a, b, c, d⟩ := h
  unfold atI; omega
theorem toD_min {d L l : Int} : toD d L l false = min d L := by
  unfold toD
  by_cases h : L < d
  · rw [if_pos h]; omega
  · rw [if_neg h, if_neg (fun a => Bool.noConfusion a.1)]; omega
theorem mon_zero {n y m d : Int} (h : IsD n y m d) : monI y m d 0 false = n := by
  obtain ⟨⟨a, b, c, e, f, g⟩, hn⟩ := h
  have e1 : toY y m 0 = y := by unfold toY atI; omega
  have e2 : toM y m 0 = m := by unfold toM atI; omega
  unfold monI
  rw [e1, e2, toD_min, hn, show min d (lenI y m) = d by omega]
/-- What Months answers, as a date. -/
theorem mon_isD {n y m d k : Int} (h : IsD n y m d) (h0 : 0 ≤ atI y m k) (h1 : atI y m k < 3600) :
    IsD (monI y m d k false) (toY y m k) (toM y m k) (min d (lenI (toY y m k) (toM y m k))) := by
  have := mon_ok (e := false) h.1.2.2.2.2.1 h0 h1
  unfold monI
  rw [toD_min] at this ⊢
  exact isD_of this
theorem mon_back {n y m d k : Int} (h : IsD n y m d) (hd : d ≤ 28) :
    atI (toY y m k) (toM y m k) (-k) = atI y m 0 ∧ monI (toY y m k) (toM y m k) d (-k) false = n := by
  have e0 : atI (toY y m k) (toM y m k) (-k) = atI y m 0 := by
    unfold toY toM atI; omega
  have e1 : toY (toY y m k) (toM y m k) (-k) = y := by
    show 1900 + atI (toY y m k) (toM y m k) (-k) / 12 = y
    rw [e0]
    obtain ⟨⟨a, b, c, e, f, g⟩, _⟩ := h
    unfold atI; omega
  have e2 : toM (toY y m k) (toM y m k) (-k) = m := by
    show atI (toY y m k) (toM y m k) (-k) % 12 + 1 = m
    rw [e0]
    obtain ⟨⟨a, b, c, e, f, g⟩, _⟩ := h
    unfold atI; omega
  refine ⟨e0, ?_⟩
  unfold monI
  rw [e1, e2, toD_min]
  have := len_lo y m
  rw [show min d (lenI y m) = d by omega, h.2]
theorem leap28 {y : Int} (h : 1901 ≤ y) (h' : y + 28 ≤ 2099) : lpI (y + 28) = lpI y := by
  have a := lp_val (y := y) (by omega)
  have b := lp_val (y := y + 28) (by omega)
  omega
theorem len28 {y m : Int} (h : 1901 ≤ y) (h' : y + 28 ≤ 2099) : lenI (y + 28) m = lenI y m := by
  unfold lenI; rw [leap28 h h']
theorem mon28 {n y m d : Int} (h : IsD n y m d) (h0 : 1901 ≤ y) (h1 : y + 28 ≤ 2099) : (0 ≤ atI y m 336 ∧ atI y m 336 < 3600) ∧ monI y m d 336 false = n + 10227 := by
  obtain ⟨⟨a, b, c, e, f, g⟩, hn⟩ := h
  refine ⟨by unfold atI; omega, ?_⟩
  have e1 : toY y m 336 = y + 28 := by unfold toY atI; omega
  have e2 : toM y m 336 = m := by unfold toM atI; omega
  unfold monI
  rw [e1, e2, toD_min, len28 h0 h1, show min d (lenI y m) = d by omega, hn]
  have e3 : cumI (y + 28) m = cumI y m := by unfold cumI; rw [leap28 h0 h1]
  unfold dayI
  rw [e3]
  unfold nyI lpsI
  omega

set_option maxRecDepth 10000 in
set_option maxHeartbeats 3200000 in
theorem dateMoves_walk (n k : Int) (_ : (Lit.int .i64 n).wf = true) (wk : (Lit.int .i64 k).wf = true) (w : World) :
    Calls Try.prog 6 #[.int .i64 n, .int .i64 k] w fun e w' => e = .returned (.bool true) ∧ Below w.heap.size w w' := by
  obtain ⟨k0, k1⟩ := i64_wf' wk
  by_cases hday : 0 ≤ n ∧ n ≤ 109572
  · have HY := hideS (lawDay_yes n hday)
    obtain ⟨y, m, d, h⟩ := isD_ex hday.1 hday.2
    obtain ⟨n0, n1⟩ := hday
    have HC := hideS (fun w => civil_ok n y m d w h)
    have a0 := at_in (okD_ym h.1)
    have h0 := fun w => months_ok n y m d 0 false w h a0.1 a0.2
    rw [mon_zero h] at h0
    have H0 := hideS h0
    clear h0
    obtain ⟨y1, y2, m1, m2, d1, d2⟩ := h.1
    have d3 : d ≤ 31 := by have := len_hi y m; omega
    obtain ⟨c, H28, hc⟩ : ∃ c : Int, Hid (1901 ≤ y → y + 28 ≤ 2099 → ∀ w, Calls Try.prog 18 #[.int .i64 n, .int .i64 336, .bool false] w fun e w' => e = .returned (.tuple #[.int .i64 c, .int .i64 0]) ∧ w' = w) ∧ c = n + 10227 :=
      ⟨n + 10227, fun a b w => by
        have e := mon28 h a b
        have := months_ok n y m d 336 false w h e.1.1 e.1.2
        rw [e.2] at this; exact this, rfl⟩
    by_cases hk : 0 ≤ atI y m k ∧ atI y m k < 3600
    · have hb := mon_isD h hk.1 hk.2
      have HK := hideS (fun w => months_ok n y m d k false w h hk.1 hk.2)
      have HC2 := hideS (fun w => civil_ok _ _ _ _ w hb)
      have HL := hideS (fun w => lengthP_ok _ _ w (toYM hk.1 hk.2))
      have hbr := hb.range
      have HBk : Hid (d ≤ 28 → ∀ w, Calls Try.prog 18 #[.int .i64 (monI y m d k false), .int .i64 (-k), .bool false] w fun e w' => e = .returned (.tuple #[.int .i64 n, .int .i64 0]) ∧ w' = w) := fun hd w => by
        have e := mon_back (k := k) h hd
        have hb2 := hb
        have := len_lo (toY y m k) (toM y m k)
        rw [show min d (lenI (toY y m k) (toM y m k)) = d by omega] at hb2
        have r := months_ok _ _ _ _ (-k) false w hb2 (by rw [e.1]; exact a0.1) (by rw [e.1]; exact a0.2)
        rw [e.2] at r; exact r
      have hL1 := len_lo (toY y m k) (toM y m k)
      have hL2 := len_hi (toY y m k) (toM y m k)
      have hk4 : -4000 ≤ k ∧ k ≤ 4000 := by unfold atI at hk; omega
      have hym : 12 * toY y m k + toM y m k = 12 * y + m + k := by unfold toY toM atI; omega
      obtain ⟨t1, t2, t3, t4⟩ := toYM hk.1 hk.2
      obtain ⟨k2, k3⟩ := hk4
      obtain ⟨b0, b1⟩ := hbr
      clear hb a0 hk h d2
      generalize monI y m d k false = b at *
      generalize lenI (toY y m k) (toM y m k) = L at *
      generalize toY y m k = Y at *
      generalize toM y m k = M at *
      by_cases hd : d ≤ 28
      · have HBk' := hideS (HBk.out hd)
        clear HBk
        have hmin : min d L = d := by omega
        rw [hmin] at HC2
        by_cases hy : 1901 ≤ y ∧ y + 28 ≤ 2099
        · have H28' := hideS (H28.out hy.1 hy.2)
          obtain ⟨e1, e2⟩ := hy
          clear H28
          go_enter Try.func6, Try.ntmps6
          go_wp2_with (first | (go_at_call_of 18 (Value.int IntKind.i64 336); refine (H28'.out _).mono ?_; rintro e w' ⟨rfl, rfl⟩) | (go_at_call_of 18 (Value.int IntKind.i64 (-k)); refine (HBk'.out _).mono ?_; rintro e w' ⟨rfl, rfl⟩) | (go_at_call_of 18 (Value.int IntKind.i64 0); refine (H0.out _).mono ?_; rintro e w' ⟨rfl, rfl⟩) | (go_at_call_of 18 (Value.int IntKind.i64 k); refine (HK.out _).mono ?_; rintro e w' ⟨rfl, rfl⟩) | (go_at_call_of 11 (Value.int IntKind.i64 n); refine (HC.out _).mono ?_; rintro e w' ⟨rfl, rfl⟩) | (go_at_call_of 11 (Value.int IntKind.i64 b); refine (HC2.out _).mono ?_; rintro e w' ⟨rfl, rfl⟩) | (go_at_call 7; refine (HL.out _).mono ?_; rintro e w' ⟨rfl, rfl⟩) | (go_at_call 24; refine (HY.out _).mono ?_; rintro e w' ⟨rfl, rfl⟩) | (go_at_call 17; refine (awake_true _).mono ?_; rintro e w2 ⟨rfl, hb2⟩))
          go_ret
          exact ⟨rfl, hb2⟩
        · have hy' : ¬ (1901 ≤ y) ∨ (1901 ≤ y ∧ ¬ y + 28 ≤ 2099) := by omega
          clear H28 hy
          rcases hy' with e1 | ⟨e1, e2⟩
          all_goals
            go_enter Try.func6, Try.ntmps6
            go_wp2_with (first | (go_at_call_of 18 (Value.int IntKind.i64 (-k)); refine (HBk'.out _).mono ?_; rintro e w' ⟨rfl, rfl⟩) | (go_at_call_of 18 (Value.int IntKind.i64 0); refine (H0.out _).mono ?_; rintro e w' ⟨rfl, rfl⟩) | (go_at_call_of 18 (Value.int IntKind.i64 k); refine (HK.out _).mono ?_; rintro e w' ⟨rfl, rfl⟩) | (go_at_call_of 11 (Value.int IntKind.i64 n); refine (HC.out _).mono ?_; rintro e w' ⟨rfl, rfl⟩) | (go_at_call_of 11 (Value.int IntKind.i64 b); refine (HC2.out _).mono ?_; rintro e w' ⟨rfl, rfl⟩) | (go_at_call 7; refine (HL.out _).mono ?_; rintro e w' ⟨rfl, rfl⟩) | (go_at_call 24; refine (HY.out _).mono ?_; rintro e w' ⟨rfl, rfl⟩) | (go_at_call 17; refine (awake_true _).mono ?_; rintro e w2 ⟨rfl, hb2⟩))
            go_ret
            exact ⟨rfl, hb2⟩
      · clear HBk
        obtain ⟨D, hD, hDm⟩ : ∃ D, min d L = D ∧ ((d ≤ L ∧ D = d) ∨ (L < d ∧ D = L)) := ⟨_, rfl, by omega⟩
        rw [hD] at HC2
        clear hD
        have hd' : 28 < d := by omega
        clear hd
        by_cases hy : 1901 ≤ y ∧ y + 28 ≤ 2099
        · have H28' := hideS (H28.out hy.1 hy.2)
          obtain ⟨e1, e2⟩ := hy
          clear H28
          rcases hDm with ⟨hdl, rfl⟩ | ⟨hdl, rfl⟩
          all_goals
            go_enter Try.func6, Try.ntmps6
            go_wp2_with (first | (go_at_call_of 18 (Value.int IntKind.i64 336); refine (H28'.out _).mono ?_; rintro e w' ⟨rfl, rfl⟩) | (go_at_call_of 18 (Value.int IntKind.i64 0); refine (H0.out _).mono ?_; rintro e w' ⟨rfl, rfl⟩) | (go_at_call_of 18 (Value.int IntKind.i64 k); refine (HK.out _).mono ?_; rintro e w' ⟨rfl, rfl⟩) | (go_at_call_of 11 (Value.int IntKind.i64 n); refine (HC.out _).mono ?_; rintro e w' ⟨rfl, rfl⟩) | (go_at_call_of 11 (Value.int IntKind.i64 b); refine (HC2.out _).mono ?_; rintro e w' ⟨rfl, rfl⟩) | (go_at_call 7; refine (HL.out _).mono ?_; rintro e w' ⟨rfl, rfl⟩) | (go_at_call 24; refine (HY.out _).mono ?_; rintro e w' ⟨rfl, rfl⟩) | (go_at_call 17; refine (awake_true _).mono ?_; rintro e w2 ⟨rfl, hb2⟩))
            go_ret
            exact ⟨rfl, hb2⟩
        · have hy' : ¬ (1901 ≤ y) ∨ (1901 ≤ y ∧ ¬ y + 28 ≤ 2099) := by omega
          clear H28 hy
          rcases hDm with ⟨hdl, rfl⟩ | ⟨hdl, rfl⟩ <;> rcases hy' with e1 | ⟨e1, e2⟩
          all_goals
            go_enter Try.func6, Try.ntmps6
            go_wp2_with (first | (go_at_call_of 18 (Value.int IntKind.i64 0); refine (H0.out _).mono ?_; rintro e w' ⟨rfl, rfl⟩) | (go_at_call_of 18 (Value.int IntKind.i64 k); refine (HK.out _).mono ?_; rintro e w' ⟨rfl, rfl⟩) | (go_at_call_of 11 (Value.int IntKind.i64 n); refine (HC.out _).mono ?_; rintro e w' ⟨rfl, rfl⟩) | (go_at_call_of 11 (Value.int IntKind.i64 b); refine (HC2.out _).mono ?_; rintro e w' ⟨rfl, rfl⟩) | (go_at_call 7; refine (HL.out _).mono ?_; rintro e w' ⟨rfl, rfl⟩) | (go_at_call 24; refine (HY.out _).mono ?_; rintro e w' ⟨rfl, rfl⟩) | (go_at_call 17; refine (awake_true _).mono ?_; rintro e w2 ⟨rfl, hb2⟩))
            go_ret
            exact ⟨rfl, hb2⟩
    · have HK := hideS (fun w => months_far n y m d k false w h hk k0 k1)
      clear a0 hk h d2
      by_cases hy : 1901 ≤ y ∧ y + 28 ≤ 2099
      · have H28' := hideS (H28.out hy.1 hy.2)
        obtain ⟨e1, e2⟩ := hy
        clear H28
        go_enter Try.func6, Try.ntmps6
        go_wp2_with (first | (go_at_call_of 18 (Value.int IntKind.i64 336); refine (H28'.out _).mono ?_; rintro e w' ⟨rfl, rfl⟩) | (go_at_call_of 18 (Value.int IntKind.i64 0); refine (H0.out _).mono ?_; rintro e w' ⟨rfl, rfl⟩) | (go_at_call_of 18 (Value.int IntKind.i64 k); refine (HK.out _).mono ?_; rintro e w' ⟨rfl, rfl⟩) | (go_at_call_of 11 (Value.int IntKind.i64 n); refine (HC.out _).mono ?_; rintro e w' ⟨rfl, rfl⟩) | (go_at_call 24; refine (HY.out _).mono ?_; rintro e w' ⟨rfl, rfl⟩) | (go_at_call 17; refine (awake_true _).mono ?_; rintro e w2 ⟨rfl, hb2⟩))
        go_ret
        exact ⟨rfl, hb2⟩
      · have hy' : ¬ (1901 ≤ y) ∨ (1901 ≤ y ∧ ¬ y + 28 ≤ 2099) := by omega
        clear H28 hy
        rcases hy' with e1 | ⟨e1, e2⟩
        all_goals
          go_enter Try.func6, Try.ntmps6
          go_wp2_with (first | (go_at_call_of 18 (Value.int IntKind.i64 0); refine (H0.out _).mono ?_; rintro e w' ⟨rfl, rfl⟩) | (go_at_call_of 18 (Value.int IntKind.i64 k); refine (HK.out _).mono ?_; rintro e w' ⟨rfl, rfl⟩) | (go_at_call_of 11 (Value.int IntKind.i64 n); refine (HC.out _).mono ?_; rintro e w' ⟨rfl, rfl⟩) | (go_at_call 24; refine (HY.out _).mono ?_; rintro e w' ⟨rfl, rfl⟩) | (go_at_call 17; refine (awake_true _).mono ?_; rintro e w2 ⟨rfl, hb2⟩))
          go_ret
          exact ⟨rfl, hb2⟩
  · have HY := hideS (lawDay_no n hday)
    have H0 := hideS (fun w => months_bad n 0 false w hday)
    clear hday
    go_enter Try.func6, Try.ntmps6
    go_wp2_with (first | (go_at_call_of 18 (Value.int IntKind.i64 0); refine (H0.out _).mono ?_; rintro e w' ⟨rfl, rfl⟩) | (go_at_call 24; refine (HY.out _).mono ?_; rintro e w' ⟨rfl, rfl⟩) | (go_at_call 17; refine (awake_true _).mono ?_; rintro e w2 ⟨rfl, hb2⟩))
    go_ret
    exact ⟨rfl, hb2⟩
end Go.Proofs.Ytgigmepilpfefaa
