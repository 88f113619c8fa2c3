/- The contracts of sched's Check, and of what it calls. -/
import Derived.Test.YtelghkhcplmnmaaHak
import Derived.Test.YtelghkhcplmnmaaHav
namespace Go.Proofs.Ytelghkhcplmnmaa
open Go.RowKit

theorem schIn_any (n lo hi : Int) (w : World) :
    Calls Try.prog 23 #[.int .i64 n, .int .i64 lo, .int .i64 hi] w fun e w' => e = .returned (.bool (decide (lo ≤ n ∧ n ≤ hi))) ∧ w' = w := by
  by_cases h1 : lo ≤ n <;> by_cases h2 : n ≤ hi
  all_goals
    first | rw [decide_eq_true (⟨h1, h2⟩ : lo ≤ n ∧ n ≤ hi)] | rw [decide_eq_false (fun h : lo ≤ n ∧ n ≤ hi => by omega)]
    go_enter Try.func23, Try.ntmps23
    go_wp2
    go_ret
    exact ⟨rfl, rfl⟩

theorem schDay_any (n : Int) (w : World) :
    Calls Try.prog 22 #[.int .i64 n] w fun e w' => e = .returned (.bool (decide (0 ≤ n ∧ n ≤ 109572))) ∧ w' = w := by
  have H := hideS (fun wx => schIn_any n 0 109572 wx)
  generalize decide (0 ≤ n ∧ n ≤ 109572) = d at *
  go_enter Try.func22, Try.ntmps22
  go_wp2_with (go_at_call 23; refine (H.out _).mono ?_; rintro e w1 ⟨rfl, rfl⟩)
  go_ret
  exact ⟨rfl, rfl⟩

theorem known_any (n : Int) (w : World) :
    Calls Try.prog 37 #[.int .i64 n] w fun e w' => e = .returned (.tuple #[.int .i64 (if 0 ≤ n ∧ n ≤ 109572 then n else 0), .bool (decide (0 ≤ n ∧ n ≤ 109572))]) ∧ w' = w := by
  have H := hideS (fun wx => schDay_any n wx)
  by_cases h : 0 ≤ n ∧ n ≤ 109572
  · rw [decide_eq_true h] at H ⊢
    rw [if_pos h]
    go_enter Try.func37, Try.ntmps37
    go_wp2_with (go_at_call 22; refine (H.out _).mono ?_; rintro e w1 ⟨rfl, rfl⟩)
    go_ret2
    exact ⟨rfl, rfl⟩
  · rw [decide_eq_false h] at H ⊢
    rw [if_neg h]
    go_enter Try.func37, Try.ntmps37
    go_wp2_with (go_at_call 22; refine (H.out _).mono ?_; rintro e w1 ⟨rfl, rfl⟩)
    go_ret2
    exact ⟨rfl, rfl⟩

theorem stubF_any (s : Spc) (W : Int) (v : Value) (w : World) (t1 : 1 ≤ s.stub) (t2 : s.stub ≤ 4) :
    Calls Try.prog 17 #[.agg #[.int .i64 s.st, .int .i64 s.en, .int .i64 s.n, .int .i64 s.unit, .int .i64 s.stub, .int .i64 s.roll, .int .i64 s.conv, .int .i64 s.lag, .int .i64 W, v]] w fun e w' => e = .returned (.bool (decide (s.stub ≤ 2))) ∧ Below w.heap.size w w' := by
  have HB := hideS (SBox.zero w s W v).below
  obtain ⟨st, en, n, unit, stub, roll, conv, lag⟩ := s
  dsimp only at *
  rcases (show stub = 1 ∨ stub = 2 ∨ stub = 3 ∨ stub = 4 by omega) with rfl | rfl | rfl | rfl
  all_goals
    go_enter Try.func17, Try.ntmps17
    go_wp2
    go_ret
    exact ⟨rfl, HB.out⟩

/-- What each test of the schedule's numbers tells. -/
structure InP (n unit stub roll conv lag : Int) : Prop where
  hn : ∀ wx, Calls Try.prog 23 #[.int .i64 n, .int .i64 1, .int .i64 1200] wx fun e w' => e = .returned (.bool (decide (1 ≤ n ∧ n ≤ 1200))) ∧ wx = w'
  hu : ∀ wx, Calls Try.prog 23 #[.int .i64 unit, .int .i64 1, .int .i64 4] wx fun e w' => e = .returned (.bool (decide (1 ≤ unit ∧ unit ≤ 4))) ∧ wx = w'
  ht : ∀ wx, Calls Try.prog 23 #[.int .i64 stub, .int .i64 1, .int .i64 4] wx fun e w' => e = .returned (.bool (decide (1 ≤ stub ∧ stub ≤ 4))) ∧ wx = w'
  hr : ∀ wx, Calls Try.prog 23 #[.int .i64 roll, .int .i64 0, .int .i64 2] wx fun e w' => e = .returned (.bool (decide (0 ≤ roll ∧ roll ≤ 2))) ∧ wx = w'
  hc : ∀ wx, Calls Try.prog 23 #[.int .i64 conv, .int .i64 0, .int .i64 4] wx fun e w' => e = .returned (.bool (decide (0 ≤ conv ∧ conv ≤ 4))) ∧ wx = w'
  hl : ∀ wx, Calls Try.prog 23 #[.int .i64 lag, .int .i64 0, .int .i64 30] wx fun e w' => e = .returned (.bool (decide (0 ≤ lag ∧ lag ≤ 30))) ∧ wx = w'
theorem inP (n unit stub roll conv lag : Int) : InP n unit stub roll conv lag :=
  have t : ∀ x lo hi wx, Calls Try.prog 23 #[.int .i64 x, .int .i64 lo, .int .i64 hi] wx fun e w' => e = .returned (.bool (decide (lo ≤ x ∧ x ≤ hi))) ∧ wx = w' := fun x lo hi wx => (schIn_any x lo hi wx).mono fun _ _ ⟨a, b⟩ => ⟨a, b.symm⟩
  ⟨fun wx => t _ _ _ wx, fun wx => t _ _ _ wx, fun wx => t _ _ _ wx, fun wx => t _ _ _ wx, fun wx => t _ _ _ wx, fun wx => t _ _ _ wx⟩

set_option maxRecDepth 10000 in
set_option maxHeartbeats 3200000 in
theorem fits_c0 (st en n unit stub roll conv lag W : Int) (v : Value) (w : World) (a : decide (st < en) = false) (x y : Bool) (hx : (unit == 3) = x) (hy : (unit == 4) = y) :
    Calls Try.prog 29 #[.agg #[.int .i64 st, .int .i64 en, .int .i64 n, .int .i64 unit, .int .i64 stub, .int .i64 roll, .int .i64 conv, .int .i64 lag, .int .i64 W, v]] w fun e w' => e = .returned (.bool false) ∧ Below w.heap.size w w' := by
  have HB := hideS (SBox.zero w ⟨st, en, n, unit, stub, roll, conv, lag⟩ W v).below
  dsimp only at *
  cases x <;> cases y
  all_goals
    go_enter Try.func29, Try.ntmps29
    go_wp2_with fail
    go_ret
    exact ⟨rfl, HB.out⟩

set_option maxRecDepth 10000 in
set_option maxHeartbeats 3200000 in
theorem fits_c1 (st en n unit stub roll conv lag W : Int) (v : Value) (w : World) (a : decide (st < en) = true) (x y : Bool) (hx : (unit == 3) = x) (hy : (unit == 4) = y) (hn : Hid (∀ wx, Calls Try.prog 23 #[.int .i64 n, .int .i64 1, .int .i64 1200] wx fun e w' => e = .returned (.bool false) ∧ wx = w')) :
    Calls Try.prog 29 #[.agg #[.int .i64 st, .int .i64 en, .int .i64 n, .int .i64 unit, .int .i64 stub, .int .i64 roll, .int .i64 conv, .int .i64 lag, .int .i64 W, v]] w fun e w' => e = .returned (.bool false) ∧ Below w.heap.size w w' := by
  have HB := hideS (SBox.zero w ⟨st, en, n, unit, stub, roll, conv, lag⟩ W v).below
  dsimp only at *
  cases x <;> cases y
  all_goals
    go_enter Try.func29, Try.ntmps29
    go_wp2_with fail
    refine (hn.out _).mono ?_
    rintro e w1 ⟨rfl, rfl⟩
    go_wp2_with fail
    go_ret
    exact ⟨rfl, HB.out⟩

set_option maxRecDepth 10000 in
set_option maxHeartbeats 3200000 in
theorem fits_c2 (st en n unit stub roll conv lag W : Int) (v : Value) (w : World) (a : decide (st < en) = true) (x y : Bool) (hx : (unit == 3) = x) (hy : (unit == 4) = y) (hn : Hid (∀ wx, Calls Try.prog 23 #[.int .i64 n, .int .i64 1, .int .i64 1200] wx fun e w' => e = .returned (.bool true) ∧ wx = w')) (hu : Hid (∀ wx, Calls Try.prog 23 #[.int .i64 unit, .int .i64 1, .int .i64 4] wx fun e w' => e = .returned (.bool false) ∧ wx = w')) :
    Calls Try.prog 29 #[.agg #[.int .i64 st, .int .i64 en, .int .i64 n, .int .i64 unit, .int .i64 stub, .int .i64 roll, .int .i64 conv, .int .i64 lag, .int .i64 W, v]] w fun e w' => e = .returned (.bool false) ∧ Below w.heap.size w w' := by
  have HB := hideS (SBox.zero w ⟨st, en, n, unit, stub, roll, conv, lag⟩ W v).below
  dsimp only at *
  cases x <;> cases y
  all_goals
    go_enter Try.func29, Try.ntmps29
    go_wp2_with fail
    refine (hn.out _).mono ?_
    rintro e w1 ⟨rfl, rfl⟩
    go_wp2_with fail
    refine (hu.out _).mono ?_
    rintro e w1 ⟨rfl, rfl⟩
    go_wp2_with fail
    go_ret
    exact ⟨rfl, HB.out⟩

set_option maxRecDepth 10000 in
set_option maxHeartbeats 3200000 in
theorem fits_c3 (st en n unit stub roll conv lag W : Int) (v : Value) (w : World) (a : decide (st < en) = true) (x y : Bool) (hx : (unit == 3) = x) (hy : (unit == 4) = y) (hn : Hid (∀ wx, Calls Try.prog 23 #[.int .i64 n, .int .i64 1, .int .i64 1200] wx fun e w' => e = .returned (.bool true) ∧ wx = w')) (hu : Hid (∀ wx, Calls Try.prog 23 #[.int .i64 unit, .int .i64 1, .int .i64 4] wx fun e w' => e = .returned (.bool true) ∧ wx = w')) (ht : Hid (∀ wx, Calls Try.prog 23 #[.int .i64 stub, .int .i64 1, .int .i64 4] wx fun e w' => e = .returned (.bool false) ∧ wx = w')) :
    Calls Try.prog 29 #[.agg #[.int .i64 st, .int .i64 en, .int .i64 n, .int .i64 unit, .int .i64 stub, .int .i64 roll, .int .i64 conv, .int .i64 lag, .int .i64 W, v]] w fun e w' => e = .returned (.bool false) ∧ Below w.heap.size w w' := by
  have HB := hideS (SBox.zero w ⟨st, en, n, unit, stub, roll, conv, lag⟩ W v).below
  dsimp only at *
  cases x <;> cases y
  all_goals
    go_enter Try.func29, Try.ntmps29
    go_wp2_with fail
    refine (hn.out _).mono ?_
    rintro e w1 ⟨rfl, rfl⟩
    go_wp2_with fail
    refine (hu.out _).mono ?_
    rintro e w1 ⟨rfl, rfl⟩
    go_wp2_with fail
    refine (ht.out _).mono ?_
    rintro e w1 ⟨rfl, rfl⟩
    go_wp2_with fail
    go_ret
    exact ⟨rfl, HB.out⟩

set_option maxRecDepth 10000 in
set_option maxHeartbeats 3200000 in
theorem fits_c4 (st en n unit stub roll conv lag W : Int) (v : Value) (w : World) (a : decide (st < en) = true) (x y : Bool) (hx : (unit == 3) = x) (hy : (unit == 4) = y) (hn : Hid (∀ wx, Calls Try.prog 23 #[.int .i64 n, .int .i64 1, .int .i64 1200] wx fun e w' => e = .returned (.bool true) ∧ wx = w')) (hu : Hid (∀ wx, Calls Try.prog 23 #[.int .i64 unit, .int .i64 1, .int .i64 4] wx fun e w' => e = .returned (.bool true) ∧ wx = w')) (ht : Hid (∀ wx, Calls Try.prog 23 #[.int .i64 stub, .int .i64 1, .int .i64 4] wx fun e w' => e = .returned (.bool true) ∧ wx = w')) (hr : Hid (∀ wx, Calls Try.prog 23 #[.int .i64 roll, .int .i64 0, .int .i64 2] wx fun e w' => e = .returned (.bool false) ∧ wx = w')) :
    Calls Try.prog 29 #[.agg #[.int .i64 st, .int .i64 en, .int .i64 n, .int .i64 unit, .int .i64 stub, .int .i64 roll, .int .i64 conv, .int .i64 lag, .int .i64 W, v]] w fun e w' => e = .returned (.bool false) ∧ Below w.heap.size w w' := by
  have HB := hideS (SBox.zero w ⟨st, en, n, unit, stub, roll, conv, lag⟩ W v).below
  dsimp only at *
  cases x <;> cases y
  all_goals
    go_enter Try.func29, Try.ntmps29
    go_wp2_with fail
    refine (hn.out _).mono ?_
    rintro e w1 ⟨rfl, rfl⟩
    go_wp2_with fail
    refine (hu.out _).mono ?_
    rintro e w1 ⟨rfl, rfl⟩
    go_wp2_with fail
    refine (ht.out _).mono ?_
    rintro e w1 ⟨rfl, rfl⟩
    go_wp2_with fail
    refine (hr.out _).mono ?_
    rintro e w1 ⟨rfl, rfl⟩
    go_wp2_with fail
    go_ret
    exact ⟨rfl, HB.out⟩

set_option maxRecDepth 10000 in
set_option maxHeartbeats 3200000 in
theorem fits_c5 (st en n unit stub roll conv lag W : Int) (v : Value) (w : World) (a : decide (st < en) = true) (g : (roll == 0) = false) (hx : (unit == 3) = false) (hy : (unit == 4) = false) (hn : Hid (∀ wx, Calls Try.prog 23 #[.int .i64 n, .int .i64 1, .int .i64 1200] wx fun e w' => e = .returned (.bool true) ∧ wx = w')) (hu : Hid (∀ wx, Calls Try.prog 23 #[.int .i64 unit, .int .i64 1, .int .i64 4] wx fun e w' => e = .returned (.bool true) ∧ wx = w')) (ht : Hid (∀ wx, Calls Try.prog 23 #[.int .i64 stub, .int .i64 1, .int .i64 4] wx fun e w' => e = .returned (.bool true) ∧ wx = w')) (hr : Hid (∀ wx, Calls Try.prog 23 #[.int .i64 roll, .int .i64 0, .int .i64 2] wx fun e w' => e = .returned (.bool true) ∧ wx = w')) :
    Calls Try.prog 29 #[.agg #[.int .i64 st, .int .i64 en, .int .i64 n, .int .i64 unit, .int .i64 stub, .int .i64 roll, .int .i64 conv, .int .i64 lag, .int .i64 W, v]] w fun e w' => e = .returned (.bool false) ∧ Below w.heap.size w w' := by
  have HB := hideS (SBox.zero w ⟨st, en, n, unit, stub, roll, conv, lag⟩ W v).below
  dsimp only at *
  go_enter Try.func29, Try.ntmps29
  go_wp2_with fail
  refine (hn.out _).mono ?_
  rintro e w1 ⟨rfl, rfl⟩
  go_wp2_with fail
  refine (hu.out _).mono ?_
  rintro e w1 ⟨rfl, rfl⟩
  go_wp2_with fail
  refine (ht.out _).mono ?_
  rintro e w1 ⟨rfl, rfl⟩
  go_wp2_with fail
  refine (hr.out _).mono ?_
  rintro e w1 ⟨rfl, rfl⟩
  go_wp2_with fail
  go_ret
  exact ⟨rfl, HB.out⟩

set_option maxRecDepth 10000 in
set_option maxHeartbeats 3200000 in
theorem fits_c6a (st en n unit stub roll conv lag W : Int) (v : Value) (w : World) (a : decide (st < en) = true) (g : (roll == 0) = true) (x y : Bool) (hx : (unit == 3) = x) (hy : (unit == 4) = y) (hn : Hid (∀ wx, Calls Try.prog 23 #[.int .i64 n, .int .i64 1, .int .i64 1200] wx fun e w' => e = .returned (.bool true) ∧ wx = w')) (hu : Hid (∀ wx, Calls Try.prog 23 #[.int .i64 unit, .int .i64 1, .int .i64 4] wx fun e w' => e = .returned (.bool true) ∧ wx = w')) (ht : Hid (∀ wx, Calls Try.prog 23 #[.int .i64 stub, .int .i64 1, .int .i64 4] wx fun e w' => e = .returned (.bool true) ∧ wx = w')) (hr : Hid (∀ wx, Calls Try.prog 23 #[.int .i64 roll, .int .i64 0, .int .i64 2] wx fun e w' => e = .returned (.bool true) ∧ wx = w')) (hc : Hid (∀ wx, Calls Try.prog 23 #[.int .i64 conv, .int .i64 0, .int .i64 4] wx fun e w' => e = .returned (.bool false) ∧ wx = w')) :
    Calls Try.prog 29 #[.agg #[.int .i64 st, .int .i64 en, .int .i64 n, .int .i64 unit, .int .i64 stub, .int .i64 roll, .int .i64 conv, .int .i64 lag, .int .i64 W, v]] w fun e w' => e = .returned (.bool false) ∧ Below w.heap.size w w' := by
  have HB := hideS (SBox.zero w ⟨st, en, n, unit, stub, roll, conv, lag⟩ W v).below
  dsimp only at *
  cases x <;> cases y
  all_goals
    go_enter Try.func29, Try.ntmps29
    go_wp2_with fail
    refine (hn.out _).mono ?_
    rintro e w1 ⟨rfl, rfl⟩
    go_wp2_with fail
    refine (hu.out _).mono ?_
    rintro e w1 ⟨rfl, rfl⟩
    go_wp2_with fail
    refine (ht.out _).mono ?_
    rintro e w1 ⟨rfl, rfl⟩
    go_wp2_with fail
    refine (hr.out _).mono ?_
    rintro e w1 ⟨rfl, rfl⟩
    go_wp2_with fail
    refine (hc.out _).mono ?_
    rintro e w1 ⟨rfl, rfl⟩
    go_wp2_with fail
    go_ret
    exact ⟨rfl, HB.out⟩

set_option maxRecDepth 10000 in
set_option maxHeartbeats 3200000 in
theorem fits_c7a (st en n unit stub roll conv lag W : Int) (v : Value) (w : World) (a : decide (st < en) = true) (g : (roll == 0) = true) (x y : Bool) (hx : (unit == 3) = x) (hy : (unit == 4) = y) (hn : Hid (∀ wx, Calls Try.prog 23 #[.int .i64 n, .int .i64 1, .int .i64 1200] wx fun e w' => e = .returned (.bool true) ∧ wx = w')) (hu : Hid (∀ wx, Calls Try.prog 23 #[.int .i64 unit, .int .i64 1, .int .i64 4] wx fun e w' => e = .returned (.bool true) ∧ wx = w')) (ht : Hid (∀ wx, Calls Try.prog 23 #[.int .i64 stub, .int .i64 1, .int .i64 4] wx fun e w' => e = .returned (.bool true) ∧ wx = w')) (hr : Hid (∀ wx, Calls Try.prog 23 #[.int .i64 roll, .int .i64 0, .int .i64 2] wx fun e w' => e = .returned (.bool true) ∧ wx = w')) (hc : Hid (∀ wx, Calls Try.prog 23 #[.int .i64 conv, .int .i64 0, .int .i64 4] wx fun e w' => e = .returned (.bool true) ∧ wx = w')) (hl : Hid (∀ wx, Calls Try.prog 23 #[.int .i64 lag, .int .i64 0, .int .i64 30] wx fun e w' => e = .returned (.bool false) ∧ wx = w')) :
    Calls Try.prog 29 #[.agg #[.int .i64 st, .int .i64 en, .int .i64 n, .int .i64 unit, .int .i64 stub, .int .i64 roll, .int .i64 conv, .int .i64 lag, .int .i64 W, v]] w fun e w' => e = .returned (.bool false) ∧ Below w.heap.size w w' := by
  have HB := hideS (SBox.zero w ⟨st, en, n, unit, stub, roll, conv, lag⟩ W v).below
  dsimp only at *
  cases x <;> cases y
  all_goals
    go_enter Try.func29, Try.ntmps29
    go_wp2_with fail
    refine (hn.out _).mono ?_
    rintro e w1 ⟨rfl, rfl⟩
    go_wp2_with fail
    refine (hu.out _).mono ?_
    rintro e w1 ⟨rfl, rfl⟩
    go_wp2_with fail
    refine (ht.out _).mono ?_
    rintro e w1 ⟨rfl, rfl⟩
    go_wp2_with fail
    refine (hr.out _).mono ?_
    rintro e w1 ⟨rfl, rfl⟩
    go_wp2_with fail
    refine (hc.out _).mono ?_
    rintro e w1 ⟨rfl, rfl⟩
    go_wp2_with fail
    refine (hl.out _).mono ?_
    rintro e w1 ⟨rfl, rfl⟩
    go_wp2_with fail
    go_ret
    exact ⟨rfl, HB.out⟩

set_option maxRecDepth 10000 in
set_option maxHeartbeats 3200000 in
theorem fits_yesa (st en n unit stub roll conv lag W : Int) (v : Value) (w : World) (a : decide (st < en) = true) (g : (roll == 0) = true) (x y : Bool) (hx : (unit == 3) = x) (hy : (unit == 4) = y) (hn : Hid (∀ wx, Calls Try.prog 23 #[.int .i64 n, .int .i64 1, .int .i64 1200] wx fun e w' => e = .returned (.bool true) ∧ wx = w')) (hu : Hid (∀ wx, Calls Try.prog 23 #[.int .i64 unit, .int .i64 1, .int .i64 4] wx fun e w' => e = .returned (.bool true) ∧ wx = w')) (ht : Hid (∀ wx, Calls Try.prog 23 #[.int .i64 stub, .int .i64 1, .int .i64 4] wx fun e w' => e = .returned (.bool true) ∧ wx = w')) (hr : Hid (∀ wx, Calls Try.prog 23 #[.int .i64 roll, .int .i64 0, .int .i64 2] wx fun e w' => e = .returned (.bool true) ∧ wx = w')) (hc : Hid (∀ wx, Calls Try.prog 23 #[.int .i64 conv, .int .i64 0, .int .i64 4] wx fun e w' => e = .returned (.bool true) ∧ wx = w')) (hl : Hid (∀ wx, Calls Try.prog 23 #[.int .i64 lag, .int .i64 0, .int .i64 30] wx fun e w' => e = .returned (.bool true) ∧ wx = w')) :
    Calls Try.prog 29 #[.agg #[.int .i64 st, .int .i64 en, .int .i64 n, .int .i64 unit, .int .i64 stub, .int .i64 roll, .int .i64 conv, .int .i64 lag, .int .i64 W, v]] w fun e w' => e = .returned (.bool true) ∧ Below w.heap.size w w' := by
  have HB := hideS (SBox.zero w ⟨st, en, n, unit, stub, roll, conv, lag⟩ W v).below
  dsimp only at *
  cases x <;> cases y
  all_goals
    go_enter Try.func29, Try.ntmps29
    go_wp2_with fail
    refine (hn.out _).mono ?_
    rintro e w1 ⟨rfl, rfl⟩
    go_wp2_with fail
    refine (hu.out _).mono ?_
    rintro e w1 ⟨rfl, rfl⟩
    go_wp2_with fail
    refine (ht.out _).mono ?_
    rintro e w1 ⟨rfl, rfl⟩
    go_wp2_with fail
    refine (hr.out _).mono ?_
    rintro e w1 ⟨rfl, rfl⟩
    go_wp2_with fail
    refine (hc.out _).mono ?_
    rintro e w1 ⟨rfl, rfl⟩
    go_wp2_with fail
    refine (hl.out _).mono ?_
    rintro e w1 ⟨rfl, rfl⟩
    go_wp2_with fail
    go_ret
    exact ⟨rfl, HB.out⟩

set_option maxRecDepth 10000 in
set_option maxHeartbeats 3200000 in
theorem fits_c6b (st en n unit stub roll conv lag W : Int) (v : Value) (w : World) (a : decide (st < en) = true) (g : (roll == 0) = false) (hx : (unit == 3) = true) (hn : Hid (∀ wx, Calls Try.prog 23 #[.int .i64 n, .int .i64 1, .int .i64 1200] wx fun e w' => e = .returned (.bool true) ∧ wx = w')) (hu : Hid (∀ wx, Calls Try.prog 23 #[.int .i64 unit, .int .i64 1, .int .i64 4] wx fun e w' => e = .returned (.bool true) ∧ wx = w')) (ht : Hid (∀ wx, Calls Try.prog 23 #[.int .i64 stub, .int .i64 1, .int .i64 4] wx fun e w' => e = .returned (.bool true) ∧ wx = w')) (hr : Hid (∀ wx, Calls Try.prog 23 #[.int .i64 roll, .int .i64 0, .int .i64 2] wx fun e w' => e = .returned (.bool true) ∧ wx = w')) (hc : Hid (∀ wx, Calls Try.prog 23 #[.int .i64 conv, .int .i64 0, .int .i64 4] wx fun e w' => e = .returned (.bool false) ∧ wx = w')) :
    Calls Try.prog 29 #[.agg #[.int .i64 st, .int .i64 en, .int .i64 n, .int .i64 unit, .int .i64 stub, .int .i64 roll, .int .i64 conv, .int .i64 lag, .int .i64 W, v]] w fun e w' => e = .returned (.bool false) ∧ Below w.heap.size w w' := by
  have HB := hideS (SBox.zero w ⟨st, en, n, unit, stub, roll, conv, lag⟩ W v).below
  dsimp only at *
  go_enter Try.func29, Try.ntmps29
  go_wp2_with fail
  refine (hn.out _).mono ?_
  rintro e w1 ⟨rfl, rfl⟩
  go_wp2_with fail
  refine (hu.out _).mono ?_
  rintro e w1 ⟨rfl, rfl⟩
  go_wp2_with fail
  refine (ht.out _).mono ?_
  rintro e w1 ⟨rfl, rfl⟩
  go_wp2_with fail
  refine (hr.out _).mono ?_
  rintro e w1 ⟨rfl, rfl⟩
  go_wp2_with fail
  refine (hc.out _).mono ?_
  rintro e w1 ⟨rfl, rfl⟩
  go_wp2_with fail
  go_ret
  exact ⟨rfl, HB.out⟩

set_option maxRecDepth 10000 in
set_option maxHeartbeats 3200000 in
theorem fits_c7b (st en n unit stub roll conv lag W : Int) (v : Value) (w : World) (a : decide (st < en) = true) (g : (roll == 0) = false) (hx : (unit == 3) = true) (hn : Hid (∀ wx, Calls Try.prog 23 #[.int .i64 n, .int .i64 1, .int .i64 1200] wx fun e w' => e = .returned (.bool true) ∧ wx = w')) (hu : Hid (∀ wx, Calls Try.prog 23 #[.int .i64 unit, .int .i64 1, .int .i64 4] wx fun e w' => e = .returned (.bool true) ∧ wx = w')) (ht : Hid (∀ wx, Calls Try.prog 23 #[.int .i64 stub, .int .i64 1, .int .i64 4] wx fun e w' => e = .returned (.bool true) ∧ wx = w')) (hr : Hid (∀ wx, Calls Try.prog 23 #[.int .i64 roll, .int .i64 0, .int .i64 2] wx fun e w' => e = .returned (.bool true) ∧ wx = w')) (hc : Hid (∀ wx, Calls Try.prog 23 #[.int .i64 conv, .int .i64 0, .int .i64 4] wx fun e w' => e = .returned (.bool true) ∧ wx = w')) (hl : Hid (∀ wx, Calls Try.prog 23 #[.int .i64 lag, .int .i64 0, .int .i64 30] wx fun e w' => e = .returned (.bool false) ∧ wx = w')) :
    Calls Try.prog 29 #[.agg #[.int .i64 st, .int .i64 en, .int .i64 n, .int .i64 unit, .int .i64 stub, .int .i64 roll, .int .i64 conv, .int .i64 lag, .int .i64 W, v]] w fun e w' => e = .returned (.bool false) ∧ Below w.heap.size w w' := by
  have HB := hideS (SBox.zero w ⟨st, en, n, unit, stub, roll, conv, lag⟩ W v).below
  dsimp only at *
  go_enter Try.func29, Try.ntmps29
  go_wp2_with fail
  refine (hn.out _).mono ?_
  rintro e w1 ⟨rfl, rfl⟩
  go_wp2_with fail
  refine (hu.out _).mono ?_
  rintro e w1 ⟨rfl, rfl⟩
  go_wp2_with fail
  refine (ht.out _).mono ?_
  rintro e w1 ⟨rfl, rfl⟩
  go_wp2_with fail
  refine (hr.out _).mono ?_
  rintro e w1 ⟨rfl, rfl⟩
  go_wp2_with fail
  refine (hc.out _).mono ?_
  rintro e w1 ⟨rfl, rfl⟩
  go_wp2_with fail
  refine (hl.out _).mono ?_
  rintro e w1 ⟨rfl, rfl⟩
  go_wp2_with fail
  go_ret
  exact ⟨rfl, HB.out⟩

set_option maxRecDepth 10000 in
set_option maxHeartbeats 3200000 in
theorem fits_yesb (st en n unit stub roll conv lag W : Int) (v : Value) (w : World) (a : decide (st < en) = true) (g : (roll == 0) = false) (hx : (unit == 3) = true) (hn : Hid (∀ wx, Calls Try.prog 23 #[.int .i64 n, .int .i64 1, .int .i64 1200] wx fun e w' => e = .returned (.bool true) ∧ wx = w')) (hu : Hid (∀ wx, Calls Try.prog 23 #[.int .i64 unit, .int .i64 1, .int .i64 4] wx fun e w' => e = .returned (.bool true) ∧ wx = w')) (ht : Hid (∀ wx, Calls Try.prog 23 #[.int .i64 stub, .int .i64 1, .int .i64 4] wx fun e w' => e = .returned (.bool true) ∧ wx = w')) (hr : Hid (∀ wx, Calls Try.prog 23 #[.int .i64 roll, .int .i64 0, .int .i64 2] wx fun e w' => e = .returned (.bool true) ∧ wx = w')) (hc : Hid (∀ wx, Calls Try.prog 23 #[.int .i64 conv, .int .i64 0, .int .i64 4] wx fun e w' => e = .returned (.bool true) ∧ wx = w')) (hl : Hid (∀ wx, Calls Try.prog 23 #[.int .i64 lag, .int .i64 0, .int .i64 30] wx fun e w' => e = .returned (.bool true) ∧ wx = w')) :
    Calls Try.prog 29 #[.agg #[.int .i64 st, .int .i64 en, .int .i64 n, .int .i64 unit, .int .i64 stub, .int .i64 roll, .int .i64 conv, .int .i64 lag, .int .i64 W, v]] w fun e w' => e = .returned (.bool true) ∧ Below w.heap.size w w' := by
  have HB := hideS (SBox.zero w ⟨st, en, n, unit, stub, roll, conv, lag⟩ W v).below
  dsimp only at *
  go_enter Try.func29, Try.ntmps29
  go_wp2_with fail
  refine (hn.out _).mono ?_
  rintro e w1 ⟨rfl, rfl⟩
  go_wp2_with fail
  refine (hu.out _).mono ?_
  rintro e w1 ⟨rfl, rfl⟩
  go_wp2_with fail
  refine (ht.out _).mono ?_
  rintro e w1 ⟨rfl, rfl⟩
  go_wp2_with fail
  refine (hr.out _).mono ?_
  rintro e w1 ⟨rfl, rfl⟩
  go_wp2_with fail
  refine (hc.out _).mono ?_
  rintro e w1 ⟨rfl, rfl⟩
  go_wp2_with fail
  refine (hl.out _).mono ?_
  rintro e w1 ⟨rfl, rfl⟩
  go_wp2_with fail
  go_ret
  exact ⟨rfl, HB.out⟩

set_option maxRecDepth 10000 in
set_option maxHeartbeats 3200000 in
theorem fits_c6d (st en n unit stub roll conv lag W : Int) (v : Value) (w : World) (a : decide (st < en) = true) (g : (roll == 0) = false) (hx : (unit == 3) = false) (hy : (unit == 4) = true) (hn : Hid (∀ wx, Calls Try.prog 23 #[.int .i64 n, .int .i64 1, .int .i64 1200] wx fun e w' => e = .returned (.bool true) ∧ wx = w')) (hu : Hid (∀ wx, Calls Try.prog 23 #[.int .i64 unit, .int .i64 1, .int .i64 4] wx fun e w' => e = .returned (.bool true) ∧ wx = w')) (ht : Hid (∀ wx, Calls Try.prog 23 #[.int .i64 stub, .int .i64 1, .int .i64 4] wx fun e w' => e = .returned (.bool true) ∧ wx = w')) (hr : Hid (∀ wx, Calls Try.prog 23 #[.int .i64 roll, .int .i64 0, .int .i64 2] wx fun e w' => e = .returned (.bool true) ∧ wx = w')) (hc : Hid (∀ wx, Calls Try.prog 23 #[.int .i64 conv, .int .i64 0, .int .i64 4] wx fun e w' => e = .returned (.bool false) ∧ wx = w')) :
    Calls Try.prog 29 #[.agg #[.int .i64 st, .int .i64 en, .int .i64 n, .int .i64 unit, .int .i64 stub, .int .i64 roll, .int .i64 conv, .int .i64 lag, .int .i64 W, v]] w fun e w' => e = .returned (.bool false) ∧ Below w.heap.size w w' := by
  have HB := hideS (SBox.zero w ⟨st, en, n, unit, stub, roll, conv, lag⟩ W v).below
  dsimp only at *
  go_enter Try.func29, Try.ntmps29
  go_wp2_with fail
  refine (hn.out _).mono ?_
  rintro e w1 ⟨rfl, rfl⟩
  go_wp2_with fail
  refine (hu.out _).mono ?_
  rintro e w1 ⟨rfl, rfl⟩
  go_wp2_with fail
  refine (ht.out _).mono ?_
  rintro e w1 ⟨rfl, rfl⟩
  go_wp2_with fail
  refine (hr.out _).mono ?_
  rintro e w1 ⟨rfl, rfl⟩
  go_wp2_with fail
  refine (hc.out _).mono ?_
  rintro e w1 ⟨rfl, rfl⟩
  go_wp2_with fail
  go_ret
  exact ⟨rfl, HB.out⟩

set_option maxRecDepth 10000 in
set_option maxHeartbeats 3200000 in
theorem fits_c7d (st en n unit stub roll conv lag W : Int) (v : Value) (w : World) (a : decide (st < en) = true) (g : (roll == 0) = false) (hx : (unit == 3) = false) (hy : (unit == 4) = true) (hn : Hid (∀ wx, Calls Try.prog 23 #[.int .i64 n, .int .i64 1, .int .i64 1200] wx fun e w' => e = .returned (.bool true) ∧ wx = w')) (hu : Hid (∀ wx, Calls Try.prog 23 #[.int .i64 unit, .int .i64 1, .int .i64 4] wx fun e w' => e = .returned (.bool true) ∧ wx = w')) (ht : Hid (∀ wx, Calls Try.prog 23 #[.int .i64 stub, .int .i64 1, .int .i64 4] wx fun e w' => e = .returned (.bool true) ∧ wx = w')) (hr : Hid (∀ wx, Calls Try.prog 23 #[.int .i64 roll, .int .i64 0, .int .i64 2] wx fun e w' => e = .returned (.bool true) ∧ wx = w')) (hc : Hid (∀ wx, Calls Try.prog 23 #[.int .i64 conv, .int .i64 0, .int .i64 4] wx fun e w' => e = .returned (.bool true) ∧ wx = w')) (hl : Hid (∀ wx, Calls Try.prog 23 #[.int .i64 lag, .int .i64 0, .int .i64 30] wx fun e w' => e = .returned (.bool false) ∧ wx = w')) :
    Calls Try.prog 29 #[.agg #[.int .i64 st, .int .i64 en, .int .i64 n, .int .i64 unit, .int .i64 stub, .int .i64 roll, .int .i64 conv, .int .i64 lag, .int .i64 W, v]] w fun e w' => e = .returned (.bool false) ∧ Below w.heap.size w w' := by
  have HB := hideS (SBox.zero w ⟨st, en, n, unit, stub, roll, conv, lag⟩ W v).below
  dsimp only at *
  go_enter Try.func29, Try.ntmps29
  go_wp2_with fail
  refine (hn.out _).mono ?_
  rintro e w1 ⟨rfl, rfl⟩
  go_wp2_with fail
  refine (hu.out _).mono ?_
  rintro e w1 ⟨rfl, rfl⟩
  go_wp2_with fail
  refine (ht.out _).mono ?_
  rintro e w1 ⟨rfl, rfl⟩
  go_wp2_with fail
  refine (hr.out _).mono ?_
  rintro e w1 ⟨rfl, rfl⟩
  go_wp2_with fail
  refine (hc.out _).mono ?_
  rintro e w1 ⟨rfl, rfl⟩
  go_wp2_with fail
  refine (hl.out _).mono ?_
  rintro e w1 ⟨rfl, rfl⟩
  go_wp2_with fail
  go_ret
  exact ⟨rfl, HB.out⟩

set_option maxRecDepth 10000 in
set_option maxHeartbeats 3200000 in
theorem fits_yesd (st en n unit stub roll conv lag W : Int) (v : Value) (w : World) (a : decide (st < en) = true) (g : (roll == 0) = false) (hx : (unit == 3) = false) (hy : (unit == 4) = true) (hn : Hid (∀ wx, Calls Try.prog 23 #[.int .i64 n, .int .i64 1, .int .i64 1200] wx fun e w' => e = .returned (.bool true) ∧ wx = w')) (hu : Hid (∀ wx, Calls Try.prog 23 #[.int .i64 unit, .int .i64 1, .int .i64 4] wx fun e w' => e = .returned (.bool true) ∧ wx = w')) (ht : Hid (∀ wx, Calls Try.prog 23 #[.int .i64 stub, .int .i64 1, .int .i64 4] wx fun e w' => e = .returned (.bool true) ∧ wx = w')) (hr : Hid (∀ wx, Calls Try.prog 23 #[.int .i64 roll, .int .i64 0, .int .i64 2] wx fun e w' => e = .returned (.bool true) ∧ wx = w')) (hc : Hid (∀ wx, Calls Try.prog 23 #[.int .i64 conv, .int .i64 0, .int .i64 4] wx fun e w' => e = .returned (.bool true) ∧ wx = w')) (hl : Hid (∀ wx, Calls Try.prog 23 #[.int .i64 lag, .int .i64 0, .int .i64 30] wx fun e w' => e = .returned (.bool true) ∧ wx = w')) :
    Calls Try.prog 29 #[.agg #[.int .i64 st, .int .i64 en, .int .i64 n, .int .i64 unit, .int .i64 stub, .int .i64 roll, .int .i64 conv, .int .i64 lag, .int .i64 W, v]] w fun e w' => e = .returned (.bool true) ∧ Below w.heap.size w w' := by
  have HB := hideS (SBox.zero w ⟨st, en, n, unit, stub, roll, conv, lag⟩ W v).below
  dsimp only at *
  go_enter Try.func29, Try.ntmps29
  go_wp2_with fail
  refine (hn.out _).mono ?_
  rintro e w1 ⟨rfl, rfl⟩
  go_wp2_with fail
  refine (hu.out _).mono ?_
  rintro e w1 ⟨rfl, rfl⟩
  go_wp2_with fail
  refine (ht.out _).mono ?_
  rintro e w1 ⟨rfl, rfl⟩
  go_wp2_with fail
  refine (hr.out _).mono ?_
  rintro e w1 ⟨rfl, rfl⟩
  go_wp2_with fail
  refine (hc.out _).mono ?_
  rintro e w1 ⟨rfl, rfl⟩
  go_wp2_with fail
  refine (hl.out _).mono ?_
  rintro e w1 ⟨rfl, rfl⟩
  go_wp2_with fail
  go_ret
  exact ⟨rfl, HB.out⟩

theorem fits_no (s : Spc) (W : Int) (v : Value) (w : World) (h0 : isDayP s.st) (h1 : isDayP s.en) (h : ¬ SpcOk s) :
    Calls Try.prog 29 #[.agg #[.int .i64 s.st, .int .i64 s.en, .int .i64 s.n, .int .i64 s.unit, .int .i64 s.stub, .int .i64 s.roll, .int .i64 s.conv, .int .i64 s.lag, .int .i64 W, v]] w fun e w' => e = .returned (.bool false) ∧ Below w.heap.size w w' := by
  have hc := spc_cases h0 h1 h
  clear h h0 h1
  obtain ⟨st, en, n, unit, stub, roll, conv, lag⟩ := s
  dsimp only at *
  obtain ⟨hn, hu, ht, hr, hcv, hlg⟩ := inP n unit stub roll conv lag
  have hru : (1 ≤ unit ∧ unit ≤ 4) → (roll = 0 ∨ 3 ≤ unit) → ((roll == 0) = true ∨ ((roll == 0) = false ∧ ((unit == 3) = true ∨ ((unit == 3) = false ∧ (unit == 4) = true)))) := fun a b => by
    by_cases e : roll = 0
    · exact Or.inl (beq_iff_eq.2 e)
    · refine Or.inr ⟨beq_eq_false_iff_ne.2 e, ?_⟩
      by_cases e3 : unit = 3
      · exact Or.inl (beq_iff_eq.2 e3)
      · exact Or.inr ⟨beq_eq_false_iff_ne.2 e3, beq_iff_eq.2 (by omega)⟩
  rcases hc with a | ⟨a, b⟩ | ⟨a, b, c⟩ | ⟨a, b, c, d⟩ | ⟨a, b, c, d, f⟩ | ⟨a, b, c, d, f, g, g2⟩ | ⟨a, b, c, d, f, g, k⟩ | ⟨a, b, c, d, f, g, k, l⟩
  · exact fits_c0 st en n unit stub roll conv lag W v w (decide_eq_false (by omega)) _ _ rfl rfl
  · rw [decide_eq_false b] at hn
    exact fits_c1 st en n unit stub roll conv lag W v w (decide_eq_true a) _ _ rfl rfl hn
  · rw [decide_eq_true b] at hn
    rw [decide_eq_false c] at hu
    exact fits_c2 st en n unit stub roll conv lag W v w (decide_eq_true a) _ _ rfl rfl hn hu
  · rw [decide_eq_true b] at hn
    rw [decide_eq_true c] at hu
    rw [decide_eq_false d] at ht
    exact fits_c3 st en n unit stub roll conv lag W v w (decide_eq_true a) _ _ rfl rfl hn hu ht
  · rw [decide_eq_true b] at hn
    rw [decide_eq_true c] at hu
    rw [decide_eq_true d] at ht
    rw [decide_eq_false f] at hr
    exact fits_c4 st en n unit stub roll conv lag W v w (decide_eq_true a) _ _ rfl rfl hn hu ht hr
  all_goals
    rw [decide_eq_true b] at hn
    rw [decide_eq_true c] at hu
    rw [decide_eq_true d] at ht
    rw [decide_eq_true f] at hr
  · exact fits_c5 st en n unit stub roll conv lag W v w (decide_eq_true a) (beq_eq_false_iff_ne.2 g) (beq_eq_false_iff_ne.2 (by omega)) (beq_eq_false_iff_ne.2 (by omega)) hn hu ht hr
  · rw [decide_eq_false k] at hcv
    rcases hru c g with g | ⟨g, x | ⟨x, y⟩⟩
    · exact fits_c6a st en n unit stub roll conv lag W v w (decide_eq_true a) g _ _ rfl rfl hn hu ht hr hcv
    · exact fits_c6b st en n unit stub roll conv lag W v w (decide_eq_true a) g x hn hu ht hr hcv
    · exact fits_c6d st en n unit stub roll conv lag W v w (decide_eq_true a) g x y hn hu ht hr hcv
  · rw [decide_eq_true k] at hcv
    rw [decide_eq_false l] at hlg
    rcases hru c g with g | ⟨g, x | ⟨x, y⟩⟩
    · exact fits_c7a st en n unit stub roll conv lag W v w (decide_eq_true a) g _ _ rfl rfl hn hu ht hr hcv hlg
    · exact fits_c7b st en n unit stub roll conv lag W v w (decide_eq_true a) g x hn hu ht hr hcv hlg
    · exact fits_c7d st en n unit stub roll conv lag W v w (decide_eq_true a) g x y hn hu ht hr hcv hlg

theorem fits_yes (s : Spc) (W : Int) (v : Value) (w : World) (h : SpcOk s) :
    Calls Try.prog 29 #[.agg #[.int .i64 s.st, .int .i64 s.en, .int .i64 s.n, .int .i64 s.unit, .int .i64 s.stub, .int .i64 s.roll, .int .i64 s.conv, .int .i64 s.lag, .int .i64 W, v]] w fun e w' => e = .returned (.bool true) ∧ Below w.heap.size w w' := by
  obtain ⟨h0, h1, lt, n1, n2, u1, u2, t1, t2, r1, r2, ru, c1, c2, l1, l2⟩ := h
  obtain ⟨st, en, n, unit, stub, roll, conv, lag⟩ := s
  dsimp only at *
  obtain ⟨hn, hu, ht, hr, hcv, hlg⟩ := inP n unit stub roll conv lag
  rw [decide_eq_true ⟨n1, n2⟩] at hn
  rw [decide_eq_true ⟨u1, u2⟩] at hu
  rw [decide_eq_true ⟨t1, t2⟩] at ht
  rw [decide_eq_true ⟨r1, r2⟩] at hr
  rw [decide_eq_true ⟨c1, c2⟩] at hcv
  rw [decide_eq_true ⟨l1, l2⟩] at hlg
  by_cases e : roll = 0
  · exact fits_yesa st en n unit stub roll conv lag W v w (decide_eq_true lt) (beq_iff_eq.2 e) _ _ rfl rfl hn hu ht hr hcv hlg
  · by_cases e3 : unit = 3
    · exact fits_yesb st en n unit stub roll conv lag W v w (decide_eq_true lt) (beq_eq_false_iff_ne.2 e) (beq_iff_eq.2 e3) hn hu ht hr hcv hlg
    · exact fits_yesd st en n unit stub roll conv lag W v w (decide_eq_true lt) (beq_eq_false_iff_ne.2 e) (beq_eq_false_iff_ne.2 e3) (beq_iff_eq.2 (by omega)) hn hu ht hr hcv hlg

set_option maxHeartbeats 3200000 in
theorem schCheck_range (s : Spc) (W : Int) (v : Value) (w : World) (h : ¬ (isDayP s.st ∧ isDayP s.en)) :
    Calls Try.prog 15 #[.agg #[.int .i64 s.st, .int .i64 s.en, .int .i64 s.n, .int .i64 s.unit, .int .i64 s.stub, .int .i64 s.roll, .int .i64 s.conv, .int .i64 s.lag, .int .i64 W, v]] w fun e w' => e = .returned (.int .i64 51) ∧ Below w.heap.size w w' := by
  have HB := hideS (SBox.zero w s W v).below
  obtain ⟨st, en, n, unit, stub, roll, conv, lag⟩ := s
  dsimp only at *
  have H1 := hideS (fun wx => schDay_any st wx)
  have H2 := hideS (fun wx => schDay_any en wx)
  by_cases a : 0 ≤ st ∧ st ≤ 109572
  · rw [decide_eq_true a] at H1
    rw [decide_eq_false (fun b : 0 ≤ en ∧ en ≤ 109572 => h ⟨a, b⟩)] at H2
    clear h a
    go_enter Try.func15, Try.ntmps15
    go_wp2_with fail
    refine (H1.out _).mono ?_
    rintro e w1 ⟨rfl, rfl⟩
    go_wp2_with fail
    refine (H2.out _).mono ?_
    rintro e w1 ⟨rfl, rfl⟩
    go_wp2_with fail
    go_ret
    exact ⟨rfl, HB.out⟩
  · rw [decide_eq_false a] at H1
    clear h a H2
    go_enter Try.func15, Try.ntmps15
    go_wp2_with fail
    refine (H1.out _).mono ?_
    rintro e w1 ⟨rfl, rfl⟩
    go_wp2_with fail
    go_ret
    exact ⟨rfl, HB.out⟩

set_option maxHeartbeats 3200000 in
theorem schCheck_spec (s : Spc) (W : Int) (v : Value) (w : World) (h0 : isDayP s.st) (h1 : isDayP s.en) (h : ¬ SpcOk s) :
    Calls Try.prog 15 #[.agg #[.int .i64 s.st, .int .i64 s.en, .int .i64 s.n, .int .i64 s.unit, .int .i64 s.stub, .int .i64 s.roll, .int .i64 s.conv, .int .i64 s.lag, .int .i64 W, v]] w fun e w' => e = .returned (.int .i64 80) ∧ Below w.heap.size w w' := by
  have HB := hideS (SBox.zero w s W v).below
  have HF := hideS (fun wx => fits_no s W v wx h0 h1 h)
  obtain ⟨st, en, n, unit, stub, roll, conv, lag⟩ := s
  dsimp only at *
  have H1 := hideS (fun wx => schDay_any st wx)
  have H2 := hideS (fun wx => schDay_any en wx)
  rw [decide_eq_true (⟨h0.1, h0.2⟩ : 0 ≤ st ∧ st ≤ 109572)] at H1
  rw [decide_eq_true (⟨h1.1, h1.2⟩ : 0 ≤ en ∧ en ≤ 109572)] at H2
  clear h h0 h1
  go_enter Try.func15, Try.ntmps15
  go_wp2_with fail
  refine (H1.out _).mono ?_
  rintro e w1 ⟨rfl, rfl⟩
  go_wp2_with fail
  refine (H2.out _).mono ?_
  rintro e w1 ⟨rfl, rfl⟩
  go_wp2_with fail
  refine (HF.out _).mono ?_
  rintro e w2 ⟨rfl, hb2⟩
  go_wp2_with fail
  go_ret
  exact ⟨rfl, HB.out.trans (hb2.mono HB.out.size)⟩

set_option maxHeartbeats 3200000 in
theorem schCheck_cal (s : Spc) (W A B : Int) (v : Value) (w : World) (h : SpcOk s) (HC : Hid (∀ wx, Below w.heap.size w wx → Calls Try.prog 30 #[.agg #[.int .i64 W, v]] wx fun e w' => e = .returned (.tuple #[.int .i64 A, .int .i64 B]) ∧ Below wx.heap.size wx w')) :
    Calls Try.prog 15 #[.agg #[.int .i64 s.st, .int .i64 s.en, .int .i64 s.n, .int .i64 s.unit, .int .i64 s.stub, .int .i64 s.roll, .int .i64 s.conv, .int .i64 s.lag, .int .i64 W, v]] w fun e w' => e = .returned (.int .i64 A) ∧ Below w.heap.size w w' := by
  have HB := hideS (SBox.zero w s W v)
  have HF := hideS (fun wx => fits_yes s W v wx h)
  have h0 := h.s0
  have h1 := h.e0
  obtain ⟨st, en, n, unit, stub, roll, conv, lag⟩ := s
  dsimp only at *
  have H1 := hideS (fun wx => schDay_any st wx)
  have H2 := hideS (fun wx => schDay_any en wx)
  rw [decide_eq_true (⟨h0.1, h0.2⟩ : 0 ≤ st ∧ st ≤ 109572)] at H1
  rw [decide_eq_true (⟨h1.1, h1.2⟩ : 0 ≤ en ∧ en ≤ 109572)] at H2
  clear h h0 h1
  go_enter Try.func15, Try.ntmps15
  go_wp2_with fail
  refine (H1.out _).mono ?_
  rintro e w1 ⟨rfl, rfl⟩
  go_wp2_with fail
  refine (H2.out _).mono ?_
  rintro e w1 ⟨rfl, rfl⟩
  go_wp2_with fail
  refine (HF.out _).mono ?_
  rintro e w2 ⟨rfl, hb2⟩
  have HB2 := hideS (HB.out.step hb2)
  clear hb2
  obtain ⟨_, _, _, _, _, _, _, _, q8, q9⟩ := HB2.out.cells
  go_wp2_with fail
  refine (HC.out _ HB2.out.below).mono ?_
  rintro e w3 ⟨rfl, hb3⟩
  go_wp2_with fail
  go_ret
  exact ⟨rfl, (HB2.out.step hb3).below⟩

/-- sched's Check. -/
theorem schCheck_any (s : Spc) (W A B E : Int) (p : Option Addr) (b off c : Nat) (rs : List Rul) (w : World) (hA : ChkR W rs A B) (h : SpcR s A E) (hs : RSrc w p b off rs) (hl : rs.length ≤ 9223372036854775807) :
    Calls Try.prog 15 #[.agg #[.int .i64 s.st, .int .i64 s.en, .int .i64 s.n, .int .i64 s.unit, .int .i64 s.stub, .int .i64 s.roll, .int .i64 s.conv, .int .i64 s.lag, .int .i64 W, .slice p rs.length c]] w fun e w' => e = .returned (.int .i64 E) ∧ Below w.heap.size w w' := by
  cases h with
  | range h => exact schCheck_range s W _ w h
  | spec h0 h1 h => exact schCheck_spec s W _ w h0 h1 h
  | cal h => exact schCheck_cal s W A B _ w h (fun wx hb => check_any W p b off c rs A B wx hA (hs.below hb) hl)
end Go.Proofs.Ytelghkhcplmnmaa
