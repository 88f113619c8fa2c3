/- The contracts of the document's in, Check and point of schedules. The contracts of sched's Check, and of what it calls. The contract of the document's point. The contract of the document's point: months and years. The contracts of sched's rolled, step and Point. -/
import Derived.Test.YtphnainibdepbaaGreatHal
import Derived.Test.YtphnainibdepbaaGreatHam
namespace Go.Proofs.YtphnainibdepbaaGreat
open Go.RowKit

def SBox (w : World) (s : Spc) (W : Int) (v : Value) (wr : World) : Prop := Below (w.heap.size + 1) (w.alloc (.cells #[.int .i64 s.st, .int .i64 s.en, .int .i64 s.n, .int .i64 s.unit, .int .i64 s.stub, .int .i64 s.roll, .int .i64 s.conv, .int .i64 s.lag, .int .i64 W, v] 95)) wr
theorem SBox.step {w wr w' : World} {s : Spc} {W : Int} {v : Value} (h : SBox w s W v wr) (hb : Below wr.heap.size wr w') : SBox w s W v w' :=
  Below.trans h (hb.mono (by have := Below.size h; simp at this; omega))
theorem SBox.below {w wr : World} {s : Spc} {W : Int} {v : Value} (h : SBox w s W v wr) : Below w.heap.size w wr :=
  ((Below.refl w.heap.size w).alloc (Nat.le_refl _) _).trans (Below.mono h (by omega))
theorem SBox.zero (w : World) (s : Spc) (W : Int) (v : Value) : SBox w s W v (w.alloc (.cells #[.int .i64 s.st, .int .i64 s.en, .int .i64 s.n, .int .i64 s.unit, .int .i64 s.stub, .int .i64 s.roll, .int .i64 s.conv, .int .i64 s.lag, .int .i64 W, v] 95)) := Below.refl _ _
structure SCells (w : World) (s : Spc) (W : Int) (v : Value) (wr : World) : Prop where
  c0 : wr.cell? ⟨w.heap.size, 0, none⟩ = some (.int .i64 s.st)
  c1 : wr.cell? ⟨w.heap.size, 1, none⟩ = some (.int .i64 s.en)
  c2 : wr.cell? ⟨w.heap.size, 2, none⟩ = some (.int .i64 s.n)
  c3 : wr.cell? ⟨w.heap.size, 3, none⟩ = some (.int .i64 s.unit)
  c4 : wr.cell? ⟨w.heap.size, 4, none⟩ = some (.int .i64 s.stub)
  c5 : wr.cell? ⟨w.heap.size, 5, none⟩ = some (.int .i64 s.roll)
  c6 : wr.cell? ⟨w.heap.size, 6, none⟩ = some (.int .i64 s.conv)
  c7 : wr.cell? ⟨w.heap.size, 7, none⟩ = some (.int .i64 s.lag)
  c8 : wr.cell? ⟨w.heap.size, 8, none⟩ = some (.int .i64 W)
  c9 : wr.cell? ⟨w.heap.size, 9, none⟩ = some v
theorem SBox.cells {w wr : World} {s : Spc} {W : Int} {v : Value} (h : SBox w s W v wr) : SCells w s W v wr := by
  have e : ∀ j, wr.cell? ⟨w.heap.size, j, none⟩ = (#[.int .i64 s.st, .int .i64 s.en, .int .i64 s.n, .int .i64 s.unit, .int .i64 s.stub, .int .i64 s.roll, .int .i64 s.conv, .int .i64 s.lag, .int .i64 W, v] : Array Value)[j]? := fun j => by
    rw [Below.cell h (p := ⟨w.heap.size, j, none⟩) (by simp)]
    exact new_cell0 w _ _ j
  exact ⟨e 0, e 1, e 2, e 3, e 4, e 5, e 6, e 7, e 8, e 9⟩

end Go.Proofs.YtphnainibdepbaaGreat
namespace Go.Proofs.YtphnainibdepbaaGreat
open Go.RowKit

theorem schIn_any (n lo hi : Int) (w : World) :
    Calls Tryz.prog 106 #[.int .i64 n, .int .i64 lo, .int .i64 hi] w fun e w' => e = .returned (.bool (decide (lo ≤ n ∧ n ≤ hi))) ∧ w' = w := by
  by_cases h1 : lo ≤ n <;> by_cases h2 : n ≤ hi
  all_goals
    first | rw [decide_eq_true (⟨h1, h2⟩ : lo ≤ n ∧ n ≤ hi)] | rw [decide_eq_false (fun h : lo ≤ n ∧ n ≤ hi => by omega)]
    go_enter Tryz.func106, Tryz.ntmps106
    go_wp2
    go_ret
    exact ⟨rfl, rfl⟩

theorem schDay_any (n : Int) (w : World) :
    Calls Tryz.prog 84 #[.int .i64 n] w fun e w' => e = .returned (.bool (decide (0 ≤ n ∧ n ≤ 109572))) ∧ w' = w := by
  have H := hideS (fun wx => schIn_any n 0 109572 wx)
  generalize decide (0 ≤ n ∧ n ≤ 109572) = d at *
  go_enter Tryz.func84, Tryz.ntmps84
  go_wp2_with (go_at_call 106; refine (H.out _).mono ?_; rintro e w1 ⟨rfl, rfl⟩)
  go_ret
  exact ⟨rfl, rfl⟩

theorem known_any (n : Int) (w : World) :
    Calls Tryz.prog 107 #[.int .i64 n] w fun e w' => e = .returned (.tuple #[.int .i64 (if 0 ≤ n ∧ n ≤ 109572 then n else 0), .bool (decide (0 ≤ n ∧ n ≤ 109572))]) ∧ w' = w := by
  have H := hideS (fun wx => schDay_any n wx)
  by_cases h : 0 ≤ n ∧ n ≤ 109572
  · rw [decide_eq_true h] at H ⊢
    rw [if_pos h]
    go_enter Tryz.func107, Tryz.ntmps107
    go_wp2_with (go_at_call 84; refine (H.out _).mono ?_; rintro e w1 ⟨rfl, rfl⟩)
    go_ret2
    exact ⟨rfl, rfl⟩
  · rw [decide_eq_false h] at H ⊢
    rw [if_neg h]
    go_enter Tryz.func107, Tryz.ntmps107
    go_wp2_with (go_at_call 84; refine (H.out _).mono ?_; rintro e w1 ⟨rfl, rfl⟩)
    go_ret2
    exact ⟨rfl, rfl⟩

theorem stubF_any (s : Spc) (W : Int) (v : Value) (w : World) (t1 : 1 ≤ s.stub) (t2 : s.stub ≤ 4) :
    Calls Tryz.prog 60 #[.agg #[.int .i64 s.st, .int .i64 s.en, .int .i64 s.n, .int .i64 s.unit, .int .i64 s.stub, .int .i64 s.roll, .int .i64 s.conv, .int .i64 s.lag, .int .i64 W, v]] w fun e w' => e = .returned (.bool (decide (s.stub ≤ 2))) ∧ Below w.heap.size w w' := by
  have HB := hideS (SBox.zero w s W v).below
  obtain ⟨st, en, n, unit, stub, roll, conv, lag⟩ := s
  dsimp only at *
  rcases (show stub = 1 ∨ stub = 2 ∨ stub = 3 ∨ stub = 4 by omega) with rfl | rfl | rfl | rfl
  all_goals
    go_enter Tryz.func60, Tryz.ntmps60
    go_wp2
    go_ret
    exact ⟨rfl, HB.out⟩

structure InP (n unit stub roll conv lag : Int) : Prop where
  hn : ∀ wx, Calls Tryz.prog 106 #[.int .i64 n, .int .i64 1, .int .i64 1200] wx fun e w' => e = .returned (.bool (decide (1 ≤ n ∧ n ≤ 1200))) ∧ wx = w'
  hu : ∀ wx, Calls Tryz.prog 106 #[.int .i64 unit, .int .i64 1, .int .i64 4] wx fun e w' => e = .returned (.bool (decide (1 ≤ unit ∧ unit ≤ 4))) ∧ wx = w'
  ht : ∀ wx, Calls Tryz.prog 106 #[.int .i64 stub, .int .i64 1, .int .i64 4] wx fun e w' => e = .returned (.bool (decide (1 ≤ stub ∧ stub ≤ 4))) ∧ wx = w'
  hr : ∀ wx, Calls Tryz.prog 106 #[.int .i64 roll, .int .i64 0, .int .i64 2] wx fun e w' => e = .returned (.bool (decide (0 ≤ roll ∧ roll ≤ 2))) ∧ wx = w'
  hc : ∀ wx, Calls Tryz.prog 106 #[.int .i64 conv, .int .i64 0, .int .i64 4] wx fun e w' => e = .returned (.bool (decide (0 ≤ conv ∧ conv ≤ 4))) ∧ wx = w'
  hl : ∀ wx, Calls Tryz.prog 106 #[.int .i64 lag, .int .i64 0, .int .i64 30] wx fun e w' => e = .returned (.bool (decide (0 ≤ lag ∧ lag ≤ 30))) ∧ wx = w'
theorem inP (n unit stub roll conv lag : Int) : InP n unit stub roll conv lag :=
  have t : ∀ x lo hi wx, Calls Tryz.prog 106 #[.int .i64 x, .int .i64 lo, .int .i64 hi] wx fun e w' => e = .returned (.bool (decide (lo ≤ x ∧ x ≤ hi))) ∧ wx = w' := fun x lo hi wx => (schIn_any x lo hi wx).mono fun _ _ ⟨a, b⟩ => ⟨a, b.symm⟩
  ⟨fun wx => t _ _ _ wx, fun wx => t _ _ _ wx, fun wx => t _ _ _ wx, fun wx => t _ _ _ wx, fun wx => t _ _ _ wx, fun wx => t _ _ _ wx⟩

set_option maxRecDepth 10000 in
set_option maxHeartbeats 3200000 in
theorem fits_c0 (st en n unit stub roll conv lag W : Int) (v : Value) (w : World) (a : decide (st < en) = false) (x y : Bool) (hx : (unit == 3) = x) (hy : (unit == 4) = y) :
    Calls Tryz.prog 85 #[.agg #[.int .i64 st, .int .i64 en, .int .i64 n, .int .i64 unit, .int .i64 stub, .int .i64 roll, .int .i64 conv, .int .i64 lag, .int .i64 W, v]] w fun e w' => e = .returned (.bool false) ∧ Below w.heap.size w w' := by
  have HB := hideS (SBox.zero w ⟨st, en, n, unit, stub, roll, conv, lag⟩ W v).below
  dsimp only at *
  cases x <;> cases y
  all_goals
    go_enter Tryz.func85, Tryz.ntmps85
    go_wp2_with fail
    go_ret
    exact ⟨rfl, HB.out⟩

set_option maxRecDepth 10000 in
set_option maxHeartbeats 3200000 in
theorem fits_c1 (st en n unit stub roll conv lag W : Int) (v : Value) (w : World) (a : decide (st < en) = true) (x y : Bool) (hx : (unit == 3) = x) (hy : (unit == 4) = y) (hn : Hid (∀ wx, Calls Tryz.prog 106 #[.int .i64 n, .int .i64 1, .int .i64 1200] wx fun e w' => e = .returned (.bool false) ∧ wx = w')) :
    Calls Tryz.prog 85 #[.agg #[.int .i64 st, .int .i64 en, .int .i64 n, .int .i64 unit, .int .i64 stub, .int .i64 roll, .int .i64 conv, .int .i64 lag, .int .i64 W, v]] w fun e w' => e = .returned (.bool false) ∧ Below w.heap.size w w' := by
  have HB := hideS (SBox.zero w ⟨st, en, n, unit, stub, roll, conv, lag⟩ W v).below
  dsimp only at *
  cases x <;> cases y
  all_goals
    go_enter Tryz.func85, Tryz.ntmps85
    go_wp2_with fail
    refine (hn.out _).mono ?_
    rintro e w1 ⟨rfl, rfl⟩
    go_wp2_with fail
    go_ret
    exact ⟨rfl, HB.out⟩

set_option maxRecDepth 10000 in
set_option maxHeartbeats 3200000 in
theorem fits_c2 (st en n unit stub roll conv lag W : Int) (v : Value) (w : World) (a : decide (st < en) = true) (x y : Bool) (hx : (unit == 3) = x) (hy : (unit == 4) = y) (hn : Hid (∀ wx, Calls Tryz.prog 106 #[.int .i64 n, .int .i64 1, .int .i64 1200] wx fun e w' => e = .returned (.bool true) ∧ wx = w')) (hu : Hid (∀ wx, Calls Tryz.prog 106 #[.int .i64 unit, .int .i64 1, .int .i64 4] wx fun e w' => e = .returned (.bool false) ∧ wx = w')) :
    Calls Tryz.prog 85 #[.agg #[.int .i64 st, .int .i64 en, .int .i64 n, .int .i64 unit, .int .i64 stub, .int .i64 roll, .int .i64 conv, .int .i64 lag, .int .i64 W, v]] w fun e w' => e = .returned (.bool false) ∧ Below w.heap.size w w' := by
  have HB := hideS (SBox.zero w ⟨st, en, n, unit, stub, roll, conv, lag⟩ W v).below
  dsimp only at *
  cases x <;> cases y
  all_goals
    go_enter Tryz.func85, Tryz.ntmps85
    go_wp2_with fail
    refine (hn.out _).mono ?_
    rintro e w1 ⟨rfl, rfl⟩
    go_wp2_with fail
    refine (hu.out _).mono ?_
    rintro e w1 ⟨rfl, rfl⟩
    go_wp2_with fail
    go_ret
    exact ⟨rfl, HB.out⟩

set_option maxRecDepth 10000 in
set_option maxHeartbeats 3200000 in
theorem fits_c3 (st en n unit stub roll conv lag W : Int) (v : Value) (w : World) (a : decide (st < en) = true) (x y : Bool) (hx : (unit == 3) = x) (hy : (unit == 4) = y) (hn : Hid (∀ wx, Calls Tryz.prog 106 #[.int .i64 n, .int .i64 1, .int .i64 1200] wx fun e w' => e = .returned (.bool true) ∧ wx = w')) (hu : Hid (∀ wx, Calls Tryz.prog 106 #[.int .i64 unit, .int .i64 1, .int .i64 4] wx fun e w' => e = .returned (.bool true) ∧ wx = w')) (ht : Hid (∀ wx, Calls Tryz.prog 106 #[.int .i64 stub, .int .i64 1, .int .i64 4] wx fun e w' => e = .returned (.bool false) ∧ wx = w')) :
    Calls Tryz.prog 85 #[.agg #[.int .i64 st, .int .i64 en, .int .i64 n, .int .i64 unit, .int .i64 stub, .int .i64 roll, .int .i64 conv, .int .i64 lag, .int .i64 W, v]] w fun e w' => e = .returned (.bool false) ∧ Below w.heap.size w w' := by
  have HB := hideS (SBox.zero w ⟨st, en, n, unit, stub, roll, conv, lag⟩ W v).below
  dsimp only at *
  cases x <;> cases y
  all_goals
    go_enter Tryz.func85, Tryz.ntmps85
    go_wp2_with fail
    refine (hn.out _).mono ?_
    rintro e w1 ⟨rfl, rfl⟩
    go_wp2_with fail
    refine (hu.out _).mono ?_
    rintro e w1 ⟨rfl, rfl⟩
    go_wp2_with fail
    refine (ht.out _).mono ?_
    rintro e w1 ⟨rfl, rfl⟩
    go_wp2_with fail
    go_ret
    exact ⟨rfl, HB.out⟩

set_option maxRecDepth 10000 in
set_option maxHeartbeats 3200000 in
theorem fits_c4 (st en n unit stub roll conv lag W : Int) (v : Value) (w : World) (a : decide (st < en) = true) (x y : Bool) (hx : (unit == 3) = x) (hy : (unit == 4) = y) (hn : Hid (∀ wx, Calls Tryz.prog 106 #[.int .i64 n, .int .i64 1, .int .i64 1200] wx fun e w' => e = .returned (.bool true) ∧ wx = w')) (hu : Hid (∀ wx, Calls Tryz.prog 106 #[.int .i64 unit, .int .i64 1, .int .i64 4] wx fun e w' => e = .returned (.bool true) ∧ wx = w')) (ht : Hid (∀ wx, Calls Tryz.prog 106 #[.int .i64 stub, .int .i64 1, .int .i64 4] wx fun e w' => e = .returned (.bool true) ∧ wx = w')) (hr : Hid (∀ wx, Calls Tryz.prog 106 #[.int .i64 roll, .int .i64 0, .int .i64 2] wx fun e w' => e = .returned (.bool false) ∧ wx = w')) :
    Calls Tryz.prog 85 #[.agg #[.int .i64 st, .int .i64 en, .int .i64 n, .int .i64 unit, .int .i64 stub, .int .i64 roll, .int .i64 conv, .int .i64 lag, .int .i64 W, v]] w fun e w' => e = .returned (.bool false) ∧ Below w.heap.size w w' := by
  have HB := hideS (SBox.zero w ⟨st, en, n, unit, stub, roll, conv, lag⟩ W v).below
  dsimp only at *
  cases x <;> cases y
  all_goals
    go_enter Tryz.func85, Tryz.ntmps85
    go_wp2_with fail
    refine (hn.out _).mono ?_
    rintro e w1 ⟨rfl, rfl⟩
    go_wp2_with fail
    refine (hu.out _).mono ?_
    rintro e w1 ⟨rfl, rfl⟩
    go_wp2_with fail
    refine (ht.out _).mono ?_
    rintro e w1 ⟨rfl, rfl⟩
    go_wp2_with fail
    refine (hr.out _).mono ?_
    rintro e w1 ⟨rfl, rfl⟩
    go_wp2_with fail
    go_ret
    exact ⟨rfl, HB.out⟩

set_option maxRecDepth 10000 in
set_option maxHeartbeats 3200000 in
theorem fits_c5 (st en n unit stub roll conv lag W : Int) (v : Value) (w : World) (a : decide (st < en) = true) (g : (roll == 0) = false) (hx : (unit == 3) = false) (hy : (unit == 4) = false) (hn : Hid (∀ wx, Calls Tryz.prog 106 #[.int .i64 n, .int .i64 1, .int .i64 1200] wx fun e w' => e = .returned (.bool true) ∧ wx = w')) (hu : Hid (∀ wx, Calls Tryz.prog 106 #[.int .i64 unit, .int .i64 1, .int .i64 4] wx fun e w' => e = .returned (.bool true) ∧ wx = w')) (ht : Hid (∀ wx, Calls Tryz.prog 106 #[.int .i64 stub, .int .i64 1, .int .i64 4] wx fun e w' => e = .returned (.bool true) ∧ wx = w')) (hr : Hid (∀ wx, Calls Tryz.prog 106 #[.int .i64 roll, .int .i64 0, .int .i64 2] wx fun e w' => e = .returned (.bool true) ∧ wx = w')) :
    Calls Tryz.prog 85 #[.agg #[.int .i64 st, .int .i64 en, .int .i64 n, .int .i64 unit, .int .i64 stub, .int .i64 roll, .int .i64 conv, .int .i64 lag, .int .i64 W, v]] w fun e w' => e = .returned (.bool false) ∧ Below w.heap.size w w' := by
  have HB := hideS (SBox.zero w ⟨st, en, n, unit, stub, roll, conv, lag⟩ W v).below
  dsimp only at *
  go_enter Tryz.func85, Tryz.ntmps85
  go_wp2_with fail
  refine (hn.out _).mono ?_
  rintro e w1 ⟨rfl, rfl⟩
  go_wp2_with fail
  refine (hu.out _).mono ?_
  rintro e w1 ⟨rfl, rfl⟩
  go_wp2_with fail
  refine (ht.out _).mono ?_
  rintro e w1 ⟨rfl, rfl⟩
  go_wp2_with fail
  refine (hr.out _).mono ?_
  rintro e w1 ⟨rfl, rfl⟩
  go_wp2_with fail
  go_ret
  exact ⟨rfl, HB.out⟩

set_option maxRecDepth 10000 in
set_option maxHeartbeats 3200000 in
theorem fits_c6a (st en n unit stub roll conv lag W : Int) (v : Value) (w : World) (a : decide (st < en) = true) (g : (roll == 0) = true) (x y : Bool) (hx : (unit == 3) = x) (hy : (unit == 4) = y) (hn : Hid (∀ wx, Calls Tryz.prog 106 #[.int .i64 n, .int .i64 1, .int .i64 1200] wx fun e w' => e = .returned (.bool true) ∧ wx = w')) (hu : Hid (∀ wx, Calls Tryz.prog 106 #[.int .i64 unit, .int .i64 1, .int .i64 4] wx fun e w' => e = .returned (.bool true) ∧ wx = w')) (ht : Hid (∀ wx, Calls Tryz.prog 106 #[.int .i64 stub, .int .i64 1, .int .i64 4] wx fun e w' => e = .returned (.bool true) ∧ wx = w')) (hr : Hid (∀ wx, Calls Tryz.prog 106 #[.int .i64 roll, .int .i64 0, .int .i64 2] wx fun e w' => e = .returned (.bool true) ∧ wx = w')) (hc : Hid (∀ wx, Calls Tryz.prog 106 #[.int .i64 conv, .int .i64 0, .int .i64 4] wx fun e w' => e = .returned (.bool false) ∧ wx = w')) :
    Calls Tryz.prog 85 #[.agg #[.int .i64 st, .int .i64 en, .int .i64 n, .int .i64 unit, .int .i64 stub, .int .i64 roll, .int .i64 conv, .int .i64 lag, .int .i64 W, v]] w fun e w' => e = .returned (.bool false) ∧ Below w.heap.size w w' := by
  have HB := hideS (SBox.zero w ⟨st, en, n, unit, stub, roll, conv, lag⟩ W v).below
  dsimp only at *
  cases x <;> cases y
  all_goals
    go_enter Tryz.func85, Tryz.ntmps85
    go_wp2_with fail
    refine (hn.out _).mono ?_
    rintro e w1 ⟨rfl, rfl⟩
    go_wp2_with fail
    refine (hu.out _).mono ?_
    rintro e w1 ⟨rfl, rfl⟩
    go_wp2_with fail
    refine (ht.out _).mono ?_
    rintro e w1 ⟨rfl, rfl⟩
    go_wp2_with fail
    refine (hr.out _).mono ?_
    rintro e w1 ⟨rfl, rfl⟩
    go_wp2_with fail
    refine (hc.out _).mono ?_
    rintro e w1 ⟨rfl, rfl⟩
    go_wp2_with fail
    go_ret
    exact ⟨rfl, HB.out⟩

set_option maxRecDepth 10000 in
set_option maxHeartbeats 3200000 in
theorem fits_c7a (st en n unit stub roll conv lag W : Int) (v : Value) (w : World) (a : decide (st < en) = true) (g : (roll == 0) = true) (x y : Bool) (hx : (unit == 3) = x) (hy : (unit == 4) = y) (hn : Hid (∀ wx, Calls Tryz.prog 106 #[.int .i64 n, .int .i64 1, .int .i64 1200] wx fun e w' => e = .returned (.bool true) ∧ wx = w')) (hu : Hid (∀ wx, Calls Tryz.prog 106 #[.int .i64 unit, .int .i64 1, .int .i64 4] wx fun e w' => e = .returned (.bool true) ∧ wx = w')) (ht : Hid (∀ wx, Calls Tryz.prog 106 #[.int .i64 stub, .int .i64 1, .int .i64 4] wx fun e w' => e = .returned (.bool true) ∧ wx = w')) (hr : Hid (∀ wx, Calls Tryz.prog 106 #[.int .i64 roll, .int .i64 0, .int .i64 2] wx fun e w' => e = .returned (.bool true) ∧ wx = w')) (hc : Hid (∀ wx, Calls Tryz.prog 106 #[.int .i64 conv, .int .i64 0, .int .i64 4] wx fun e w' => e = .returned (.bool true) ∧ wx = w')) (hl : Hid (∀ wx, Calls Tryz.prog 106 #[.int .i64 lag, .int .i64 0, .int .i64 30] wx fun e w' => e = .returned (.bool false) ∧ wx = w')) :
    Calls Tryz.prog 85 #[.agg #[.int .i64 st, .int .i64 en, .int .i64 n, .int .i64 unit, .int .i64 stub, .int .i64 roll, .int .i64 conv, .int .i64 lag, .int .i64 W, v]] w fun e w' => e = .returned (.bool false) ∧ Below w.heap.size w w' := by
  have HB := hideS (SBox.zero w ⟨st, en, n, unit, stub, roll, conv, lag⟩ W v).below
  dsimp only at *
  cases x <;> cases y
  all_goals
    go_enter Tryz.func85, Tryz.ntmps85
    go_wp2_with fail
    refine (hn.out _).mono ?_
    rintro e w1 ⟨rfl, rfl⟩
    go_wp2_with fail
    refine (hu.out _).mono ?_
    rintro e w1 ⟨rfl, rfl⟩
    go_wp2_with fail
    refine (ht.out _).mono ?_
    rintro e w1 ⟨rfl, rfl⟩
    go_wp2_with fail
    refine (hr.out _).mono ?_
    rintro e w1 ⟨rfl, rfl⟩
    go_wp2_with fail
    refine (hc.out _).mono ?_
    rintro e w1 ⟨rfl, rfl⟩
    go_wp2_with fail
    refine (hl.out _).mono ?_
    rintro e w1 ⟨rfl, rfl⟩
    go_wp2_with fail
    go_ret
    exact ⟨rfl, HB.out⟩

set_option maxRecDepth 10000 in
set_option maxHeartbeats 3200000 in
theorem fits_yesa (st en n unit stub roll conv lag W : Int) (v : Value) (w : World) (a : decide (st < en) = true) (g : (roll == 0) = true) (x y : Bool) (hx : (unit == 3) = x) (hy : (unit == 4) = y) (hn : Hid (∀ wx, Calls Tryz.prog 106 #[.int .i64 n, .int .i64 1, .int .i64 1200] wx fun e w' => e = .returned (.bool true) ∧ wx = w')) (hu : Hid (∀ wx, Calls Tryz.prog 106 #[.int .i64 unit, .int .i64 1, .int .i64 4] wx fun e w' => e = .returned (.bool true) ∧ wx = w')) (ht : Hid (∀ wx, Calls Tryz.prog 106 #[.int .i64 stub, .int .i64 1, .int .i64 4] wx fun e w' => e = .returned (.bool true) ∧ wx = w')) (hr : Hid (∀ wx, Calls Tryz.prog 106 #[.int .i64 roll, .int .i64 0, .int .i64 2] wx fun e w' => e = .returned (.bool true) ∧ wx = w')) (hc : Hid (∀ wx, Calls Tryz.prog 106 #[.int .i64 conv, .int .i64 0, .int .i64 4] wx fun e w' => e = .returned (.bool true) ∧ wx = w')) (hl : Hid (∀ wx, Calls Tryz.prog 106 #[.int .i64 lag, .int .i64 0, .int .i64 30] wx fun e w' => e = .returned (.bool true) ∧ wx = w')) :
    Calls Tryz.prog 85 #[.agg #[.int .i64 st, .int .i64 en, .int .i64 n, .int .i64 unit, .int .i64 stub, .int .i64 roll, .int .i64 conv, .int .i64 lag, .int .i64 W, v]] w fun e w' => e = .returned (.bool true) ∧ Below w.heap.size w w' := by
  have HB := hideS (SBox.zero w ⟨st, en, n, unit, stub, roll, conv, lag⟩ W v).below
  dsimp only at *
  cases x <;> cases y
  all_goals
    go_enter Tryz.func85, Tryz.ntmps85
    go_wp2_with fail
    refine (hn.out _).mono ?_
    rintro e w1 ⟨rfl, rfl⟩
    go_wp2_with fail
    refine (hu.out _).mono ?_
    rintro e w1 ⟨rfl, rfl⟩
    go_wp2_with fail
    refine (ht.out _).mono ?_
    rintro e w1 ⟨rfl, rfl⟩
    go_wp2_with fail
    refine (hr.out _).mono ?_
    rintro e w1 ⟨rfl, rfl⟩
    go_wp2_with fail
    refine (hc.out _).mono ?_
    rintro e w1 ⟨rfl, rfl⟩
    go_wp2_with fail
    refine (hl.out _).mono ?_
    rintro e w1 ⟨rfl, rfl⟩
    go_wp2_with fail
    go_ret
    exact ⟨rfl, HB.out⟩

set_option maxRecDepth 10000 in
set_option maxHeartbeats 3200000 in
theorem fits_c6b (st en n unit stub roll conv lag W : Int) (v : Value) (w : World) (a : decide (st < en) = true) (g : (roll == 0) = false) (hx : (unit == 3) = true) (hn : Hid (∀ wx, Calls Tryz.prog 106 #[.int .i64 n, .int .i64 1, .int .i64 1200] wx fun e w' => e = .returned (.bool true) ∧ wx = w')) (hu : Hid (∀ wx, Calls Tryz.prog 106 #[.int .i64 unit, .int .i64 1, .int .i64 4] wx fun e w' => e = .returned (.bool true) ∧ wx = w')) (ht : Hid (∀ wx, Calls Tryz.prog 106 #[.int .i64 stub, .int .i64 1, .int .i64 4] wx fun e w' => e = .returned (.bool true) ∧ wx = w')) (hr : Hid (∀ wx, Calls Tryz.prog 106 #[.int .i64 roll, .int .i64 0, .int .i64 2] wx fun e w' => e = .returned (.bool true) ∧ wx = w')) (hc : Hid (∀ wx, Calls Tryz.prog 106 #[.int .i64 conv, .int .i64 0, .int .i64 4] wx fun e w' => e = .returned (.bool false) ∧ wx = w')) :
    Calls Tryz.prog 85 #[.agg #[.int .i64 st, .int .i64 en, .int .i64 n, .int .i64 unit, .int .i64 stub, .int .i64 roll, .int .i64 conv, .int .i64 lag, .int .i64 W, v]] w fun e w' => e = .returned (.bool false) ∧ Below w.heap.size w w' := by
  have HB := hideS (SBox.zero w ⟨st, en, n, unit, stub, roll, conv, lag⟩ W v).below
  dsimp only at *
  go_enter Tryz.func85, Tryz.ntmps85
  go_wp2_with fail
  refine (hn.out _).mono ?_
  rintro e w1 ⟨rfl, rfl⟩
  go_wp2_with fail
  refine (hu.out _).mono ?_
  rintro e w1 ⟨rfl, rfl⟩
  go_wp2_with fail
  refine (ht.out _).mono ?_
  rintro e w1 ⟨rfl, rfl⟩
  go_wp2_with fail
  refine (hr.out _).mono ?_
  rintro e w1 ⟨rfl, rfl⟩
  go_wp2_with fail
  refine (hc.out _).mono ?_
  rintro e w1 ⟨rfl, rfl⟩
  go_wp2_with fail
  go_ret
  exact ⟨rfl, HB.out⟩

set_option maxRecDepth 10000 in
set_option maxHeartbeats 3200000 in
theorem fits_c7b (st en n unit stub roll conv lag W : Int) (v : Value) (w : World) (a : decide (st < en) = true) (g : (roll == 0) = false) (hx : (unit == 3) = true) (hn : Hid (∀ wx, Calls Tryz.prog 106 #[.int .i64 n, .int .i64 1, .int .i64 1200] wx fun e w' => e = .returned (.bool true) ∧ wx = w')) (hu : Hid (∀ wx, Calls Tryz.prog 106 #[.int .i64 unit, .int .i64 1, .int .i64 4] wx fun e w' => e = .returned (.bool true) ∧ wx = w')) (ht : Hid (∀ wx, Calls Tryz.prog 106 #[.int .i64 stub, .int .i64 1, .int .i64 4] wx fun e w' => e = .returned (.bool true) ∧ wx = w')) (hr : Hid (∀ wx, Calls Tryz.prog 106 #[.int .i64 roll, .int .i64 0, .int .i64 2] wx fun e w' => e = .returned (.bool true) ∧ wx = w')) (hc : Hid (∀ wx, Calls Tryz.prog 106 #[.int .i64 conv, .int .i64 0, .int .i64 4] wx fun e w' => e = .returned (.bool true) ∧ wx = w')) (hl : Hid (∀ wx, Calls Tryz.prog 106 #[.int .i64 lag, .int .i64 0, .int .i64 30] wx fun e w' => e = .returned (.bool false) ∧ wx = w')) :
    Calls Tryz.prog 85 #[.agg #[.int .i64 st, .int .i64 en, .int .i64 n, .int .i64 unit, .int .i64 stub, .int .i64 roll, .int .i64 conv, .int .i64 lag, .int .i64 W, v]] w fun e w' => e = .returned (.bool false) ∧ Below w.heap.size w w' := by
  have HB := hideS (SBox.zero w ⟨st, en, n, unit, stub, roll, conv, lag⟩ W v).below
  dsimp only at *
  go_enter Tryz.func85, Tryz.ntmps85
  go_wp2_with fail
  refine (hn.out _).mono ?_
  rintro e w1 ⟨rfl, rfl⟩
  go_wp2_with fail
  refine (hu.out _).mono ?_
  rintro e w1 ⟨rfl, rfl⟩
  go_wp2_with fail
  refine (ht.out _).mono ?_
  rintro e w1 ⟨rfl, rfl⟩
  go_wp2_with fail
  refine (hr.out _).mono ?_
  rintro e w1 ⟨rfl, rfl⟩
  go_wp2_with fail
  refine (hc.out _).mono ?_
  rintro e w1 ⟨rfl, rfl⟩
  go_wp2_with fail
  refine (hl.out _).mono ?_
  rintro e w1 ⟨rfl, rfl⟩
  go_wp2_with fail
  go_ret
  exact ⟨rfl, HB.out⟩

set_option maxRecDepth 10000 in
set_option maxHeartbeats 3200000 in
theorem fits_yesb (st en n unit stub roll conv lag W : Int) (v : Value) (w : World) (a : decide (st < en) = true) (g : (roll == 0) = false) (hx : (unit == 3) = true) (hn : Hid (∀ wx, Calls Tryz.prog 106 #[.int .i64 n, .int .i64 1, .int .i64 1200] wx fun e w' => e = .returned (.bool true) ∧ wx = w')) (hu : Hid (∀ wx, Calls Tryz.prog 106 #[.int .i64 unit, .int .i64 1, .int .i64 4] wx fun e w' => e = .returned (.bool true) ∧ wx = w')) (ht : Hid (∀ wx, Calls Tryz.prog 106 #[.int .i64 stub, .int .i64 1, .int .i64 4] wx fun e w' => e = .returned (.bool true) ∧ wx = w')) (hr : Hid (∀ wx, Calls Tryz.prog 106 #[.int .i64 roll, .int .i64 0, .int .i64 2] wx fun e w' => e = .returned (.bool true) ∧ wx = w')) (hc : Hid (∀ wx, Calls Tryz.prog 106 #[.int .i64 conv, .int .i64 0, .int .i64 4] wx fun e w' => e = .returned (.bool true) ∧ wx = w')) (hl : Hid (∀ wx, Calls Tryz.prog 106 #[.int .i64 lag, .int .i64 0, .int .i64 30] wx fun e w' => e = .returned (.bool true) ∧ wx = w')) :
    Calls Tryz.prog 85 #[.agg #[.int .i64 st, .int .i64 en, .int .i64 n, .int .i64 unit, .int .i64 stub, .int .i64 roll, .int .i64 conv, .int .i64 lag, .int .i64 W, v]] w fun e w' => e = .returned (.bool true) ∧ Below w.heap.size w w' := by
  have HB := hideS (SBox.zero w ⟨st, en, n, unit, stub, roll, conv, lag⟩ W v).below
  dsimp only at *
  go_enter Tryz.func85, Tryz.ntmps85
  go_wp2_with fail
  refine (hn.out _).mono ?_
  rintro e w1 ⟨rfl, rfl⟩
  go_wp2_with fail
  refine (hu.out _).mono ?_
  rintro e w1 ⟨rfl, rfl⟩
  go_wp2_with fail
  refine (ht.out _).mono ?_
  rintro e w1 ⟨rfl, rfl⟩
  go_wp2_with fail
  refine (hr.out _).mono ?_
  rintro e w1 ⟨rfl, rfl⟩
  go_wp2_with fail
  refine (hc.out _).mono ?_
  rintro e w1 ⟨rfl, rfl⟩
  go_wp2_with fail
  refine (hl.out _).mono ?_
  rintro e w1 ⟨rfl, rfl⟩
  go_wp2_with fail
  go_ret
  exact ⟨rfl, HB.out⟩

set_option maxRecDepth 10000 in
set_option maxHeartbeats 3200000 in
theorem fits_c6d (st en n unit stub roll conv lag W : Int) (v : Value) (w : World) (a : decide (st < en) = true) (g : (roll == 0) = false) (hx : (unit == 3) = false) (hy : (unit == 4) = true) (hn : Hid (∀ wx, Calls Tryz.prog 106 #[.int .i64 n, .int .i64 1, .int .i64 1200] wx fun e w' => e = .returned (.bool true) ∧ wx = w')) (hu : Hid (∀ wx, Calls Tryz.prog 106 #[.int .i64 unit, .int .i64 1, .int .i64 4] wx fun e w' => e = .returned (.bool true) ∧ wx = w')) (ht : Hid (∀ wx, Calls Tryz.prog 106 #[.int .i64 stub, .int .i64 1, .int .i64 4] wx fun e w' => e = .returned (.bool true) ∧ wx = w')) (hr : Hid (∀ wx, Calls Tryz.prog 106 #[.int .i64 roll, .int .i64 0, .int .i64 2] wx fun e w' => e = .returned (.bool true) ∧ wx = w')) (hc : Hid (∀ wx, Calls Tryz.prog 106 #[.int .i64 conv, .int .i64 0, .int .i64 4] wx fun e w' => e = .returned (.bool false) ∧ wx = w')) :
    Calls Tryz.prog 85 #[.agg #[.int .i64 st, .int .i64 en, .int .i64 n, .int .i64 unit, .int .i64 stub, .int .i64 roll, .int .i64 conv, .int .i64 lag, .int .i64 W, v]] w fun e w' => e = .returned (.bool false) ∧ Below w.heap.size w w' := by
  have HB := hideS (SBox.zero w ⟨st, en, n, unit, stub, roll, conv, lag⟩ W v).below
  dsimp only at *
  go_enter Tryz.func85, Tryz.ntmps85
  go_wp2_with fail
  refine (hn.out _).mono ?_
  rintro e w1 ⟨rfl, rfl⟩
  go_wp2_with fail
  refine (hu.out _).mono ?_
  rintro e w1 ⟨rfl, rfl⟩
  go_wp2_with fail
  refine (ht.out _).mono ?_
  rintro e w1 ⟨rfl, rfl⟩
  go_wp2_with fail
  refine (hr.out _).mono ?_
  rintro e w1 ⟨rfl, rfl⟩
  go_wp2_with fail
  refine (hc.out _).mono ?_
  rintro e w1 ⟨rfl, rfl⟩
  go_wp2_with fail
  go_ret
  exact ⟨rfl, HB.out⟩

set_option maxRecDepth 10000 in
set_option maxHeartbeats 3200000 in
theorem fits_c7d (st en n unit stub roll conv lag W : Int) (v : Value) (w : World) (a : decide (st < en) = true) (g : (roll == 0) = false) (hx : (unit == 3) = false) (hy : (unit == 4) = true) (hn : Hid (∀ wx, Calls Tryz.prog 106 #[.int .i64 n, .int .i64 1, .int .i64 1200] wx fun e w' => e = .returned (.bool true) ∧ wx = w')) (hu : Hid (∀ wx, Calls Tryz.prog 106 #[.int .i64 unit, .int .i64 1, .int .i64 4] wx fun e w' => e = .returned (.bool true) ∧ wx = w')) (ht : Hid (∀ wx, Calls Tryz.prog 106 #[.int .i64 stub, .int .i64 1, .int .i64 4] wx fun e w' => e = .returned (.bool true) ∧ wx = w')) (hr : Hid (∀ wx, Calls Tryz.prog 106 #[.int .i64 roll, .int .i64 0, .int .i64 2] wx fun e w' => e = .returned (.bool true) ∧ wx = w')) (hc : Hid (∀ wx, Calls Tryz.prog 106 #[.int .i64 conv, .int .i64 0, .int .i64 4] wx fun e w' => e = .returned (.bool true) ∧ wx = w')) (hl : Hid (∀ wx, Calls Tryz.prog 106 #[.int .i64 lag, .int .i64 0, .int .i64 30] wx fun e w' => e = .returned (.bool false) ∧ wx = w')) :
    Calls Tryz.prog 85 #[.agg #[.int .i64 st, .int .i64 en, .int .i64 n, .int .i64 unit, .int .i64 stub, .int .i64 roll, .int .i64 conv, .int .i64 lag, .int .i64 W, v]] w fun e w' => e = .returned (.bool false) ∧ Below w.heap.size w w' := by
  have HB := hideS (SBox.zero w ⟨st, en, n, unit, stub, roll, conv, lag⟩ W v).below
  dsimp only at *
  go_enter Tryz.func85, Tryz.ntmps85
  go_wp2_with fail
  refine (hn.out _).mono ?_
  rintro e w1 ⟨rfl, rfl⟩
  go_wp2_with fail
  refine (hu.out _).mono ?_
  rintro e w1 ⟨rfl, rfl⟩
  go_wp2_with fail
  refine (ht.out _).mono ?_
  rintro e w1 ⟨rfl, rfl⟩
  go_wp2_with fail
  refine (hr.out _).mono ?_
  rintro e w1 ⟨rfl, rfl⟩
  go_wp2_with fail
  refine (hc.out _).mono ?_
  rintro e w1 ⟨rfl, rfl⟩
  go_wp2_with fail
  refine (hl.out _).mono ?_
  rintro e w1 ⟨rfl, rfl⟩
  go_wp2_with fail
  go_ret
  exact ⟨rfl, HB.out⟩

set_option maxRecDepth 10000 in
set_option maxHeartbeats 3200000 in
theorem fits_yesd (st en n unit stub roll conv lag W : Int) (v : Value) (w : World) (a : decide (st < en) = true) (g : (roll == 0) = false) (hx : (unit == 3) = false) (hy : (unit == 4) = true) (hn : Hid (∀ wx, Calls Tryz.prog 106 #[.int .i64 n, .int .i64 1, .int .i64 1200] wx fun e w' => e = .returned (.bool true) ∧ wx = w')) (hu : Hid (∀ wx, Calls Tryz.prog 106 #[.int .i64 unit, .int .i64 1, .int .i64 4] wx fun e w' => e = .returned (.bool true) ∧ wx = w')) (ht : Hid (∀ wx, Calls Tryz.prog 106 #[.int .i64 stub, .int .i64 1, .int .i64 4] wx fun e w' => e = .returned (.bool true) ∧ wx = w')) (hr : Hid (∀ wx, Calls Tryz.prog 106 #[.int .i64 roll, .int .i64 0, .int .i64 2] wx fun e w' => e = .returned (.bool true) ∧ wx = w')) (hc : Hid (∀ wx, Calls Tryz.prog 106 #[.int .i64 conv, .int .i64 0, .int .i64 4] wx fun e w' => e = .returned (.bool true) ∧ wx = w')) (hl : Hid (∀ wx, Calls Tryz.prog 106 #[.int .i64 lag, .int .i64 0, .int .i64 30] wx fun e w' => e = .returned (.bool true) ∧ wx = w')) :
    Calls Tryz.prog 85 #[.agg #[.int .i64 st, .int .i64 en, .int .i64 n, .int .i64 unit, .int .i64 stub, .int .i64 roll, .int .i64 conv, .int .i64 lag, .int .i64 W, v]] w fun e w' => e = .returned (.bool true) ∧ Below w.heap.size w w' := by
  have HB := hideS (SBox.zero w ⟨st, en, n, unit, stub, roll, conv, lag⟩ W v).below
  dsimp only at *
  go_enter Tryz.func85, Tryz.ntmps85
  go_wp2_with fail
  refine (hn.out _).mono ?_
  rintro e w1 ⟨rfl, rfl⟩
  go_wp2_with fail
  refine (hu.out _).mono ?_
  rintro e w1 ⟨rfl, rfl⟩
  go_wp2_with fail
  refine (ht.out _).mono ?_
  rintro e w1 ⟨rfl, rfl⟩
  go_wp2_with fail
  refine (hr.out _).mono ?_
  rintro e w1 ⟨rfl, rfl⟩
  go_wp2_with fail
  refine (hc.out _).mono ?_
  rintro e w1 ⟨rfl, rfl⟩
  go_wp2_with fail
  refine (hl.out _).mono ?_
  rintro e w1 ⟨rfl, rfl⟩
  go_wp2_with fail
  go_ret
  exact ⟨rfl, HB.out⟩

theorem fits_no (s : Spc) (W : Int) (v : Value) (w : World) (h0 : isDayP s.st) (h1 : isDayP s.en) (h : ¬ SpcOk s) :
    Calls Tryz.prog 85 #[.agg #[.int .i64 s.st, .int .i64 s.en, .int .i64 s.n, .int .i64 s.unit, .int .i64 s.stub, .int .i64 s.roll, .int .i64 s.conv, .int .i64 s.lag, .int .i64 W, v]] w fun e w' => e = .returned (.bool false) ∧ Below w.heap.size w w' := by
  have hc := spc_cases h0 h1 h
  clear h h0 h1
  obtain ⟨st, en, n, unit, stub, roll, conv, lag⟩ := s
  dsimp only at *
  obtain ⟨hn, hu, ht, hr, hcv, hlg⟩ := inP n unit stub roll conv lag
  have hru : (1 ≤ unit ∧ unit ≤ 4) → (roll = 0 ∨ 3 ≤ unit) → ((roll == 0) = true ∨ ((roll == 0) = false ∧ ((unit == 3) = true ∨ ((unit == 3) = false ∧ (unit == 4) = true)))) := fun a b => by
    by_cases e : roll = 0
    · exact Or.inl (beq_iff_eq.2 e)
    · refine Or.inr ⟨beq_eq_false_iff_ne.2 e, ?_⟩
      by_cases e3 : unit = 3
      · exact Or.inl (beq_iff_eq.2 e3)
      · exact Or.inr ⟨beq_eq_false_iff_ne.2 e3, beq_iff_eq.2 (by omega)⟩
  rcases hc with a | ⟨a, b⟩ | ⟨a, b, c⟩ | ⟨a, b, c, d⟩ | ⟨a, b, c, d, f⟩ | ⟨a, b, c, d, f, g, g2⟩ | ⟨a, b, c, d, f, g, k⟩ | ⟨a, b, c, d, f, g, k, l⟩
  · exact fits_c0 st en n unit stub roll conv lag W v w (decide_eq_false (by omega)) _ _ rfl rfl
  · rw [decide_eq_false b] at hn
    exact fits_c1 st en n unit stub roll conv lag W v w (decide_eq_true a) _ _ rfl rfl hn
  · rw [decide_eq_true b] at hn
    rw [decide_eq_false c] at hu
    exact fits_c2 st en n unit stub roll conv lag W v w (decide_eq_true a) _ _ rfl rfl hn hu
  · rw [decide_eq_true b] at hn
    rw [decide_eq_true c] at hu
    rw [decide_eq_false d] at ht
    exact fits_c3 st en n unit stub roll conv lag W v w (decide_eq_true a) _ _ rfl rfl hn hu ht
  · rw [decide_eq_true b] at hn
    rw [decide_eq_true c] at hu
    rw [decide_eq_true d] at ht
    rw [decide_eq_false f] at hr
    exact fits_c4 st en n unit stub roll conv lag W v w (decide_eq_true a) _ _ rfl rfl hn hu ht hr
  all_goals
    rw [decide_eq_true b] at hn
    rw [decide_eq_true c] at hu
    rw [decide_eq_true d] at ht
    rw [decide_eq_true f] at hr
  · exact fits_c5 st en n unit stub roll conv lag W v w (decide_eq_true a) (beq_eq_false_iff_ne.2 g) (beq_eq_false_iff_ne.2 (by omega)) (beq_eq_false_iff_ne.2 (by omega)) hn hu ht hr
  · rw [decide_eq_false k] at hcv
    rcases hru c g with g | ⟨g, x | ⟨x, y⟩⟩
    · exact fits_c6a st en n unit stub roll conv lag W v w (decide_eq_true a) g _ _ rfl rfl hn hu ht hr hcv
    · exact fits_c6b st en n unit stub roll conv lag W v w (decide_eq_true a) g x hn hu ht hr hcv
    · exact fits_c6d st en n unit stub roll conv lag W v w (decide_eq_true a) g x y hn hu ht hr hcv
  · rw [decide_eq_true k] at hcv
    rw [decide_eq_false l] at hlg
    rcases hru c g with g | ⟨g, x | ⟨x, y⟩⟩
    · exact fits_c7a st en n unit stub roll conv lag W v w (decide_eq_true a) g _ _ rfl rfl hn hu ht hr hcv hlg
    · exact fits_c7b st en n unit stub roll conv lag W v w (decide_eq_true a) g x hn hu ht hr hcv hlg
    · exact fits_c7d st en n unit stub roll conv lag W v w (decide_eq_true a) g x y hn hu ht hr hcv hlg

theorem fits_yes (s : Spc) (W : Int) (v : Value) (w : World) (h : SpcOk s) :
    Calls Tryz.prog 85 #[.agg #[.int .i64 s.st, .int .i64 s.en, .int .i64 s.n, .int .i64 s.unit, .int .i64 s.stub, .int .i64 s.roll, .int .i64 s.conv, .int .i64 s.lag, .int .i64 W, v]] w fun e w' => e = .returned (.bool true) ∧ Below w.heap.size w w' := by
  obtain ⟨h0, h1, lt, n1, n2, u1, u2, t1, t2, r1, r2, ru, c1, c2, l1, l2⟩ := h
  obtain ⟨st, en, n, unit, stub, roll, conv, lag⟩ := s
  dsimp only at *
  obtain ⟨hn, hu, ht, hr, hcv, hlg⟩ := inP n unit stub roll conv lag
  rw [decide_eq_true ⟨n1, n2⟩] at hn
  rw [decide_eq_true ⟨u1, u2⟩] at hu
  rw [decide_eq_true ⟨t1, t2⟩] at ht
  rw [decide_eq_true ⟨r1, r2⟩] at hr
  rw [decide_eq_true ⟨c1, c2⟩] at hcv
  rw [decide_eq_true ⟨l1, l2⟩] at hlg
  by_cases e : roll = 0
  · exact fits_yesa st en n unit stub roll conv lag W v w (decide_eq_true lt) (beq_iff_eq.2 e) _ _ rfl rfl hn hu ht hr hcv hlg
  · by_cases e3 : unit = 3
    · exact fits_yesb st en n unit stub roll conv lag W v w (decide_eq_true lt) (beq_eq_false_iff_ne.2 e) (beq_iff_eq.2 e3) hn hu ht hr hcv hlg
    · exact fits_yesd st en n unit stub roll conv lag W v w (decide_eq_true lt) (beq_eq_false_iff_ne.2 e) (beq_eq_false_iff_ne.2 e3) (beq_iff_eq.2 (by omega)) hn hu ht hr hcv hlg

set_option maxHeartbeats 3200000 in
theorem schCheck_range (s : Spc) (W : Int) (v : Value) (w : World) (h : ¬ (isDayP s.st ∧ isDayP s.en)) :
    Calls Tryz.prog 58 #[.agg #[.int .i64 s.st, .int .i64 s.en, .int .i64 s.n, .int .i64 s.unit, .int .i64 s.stub, .int .i64 s.roll, .int .i64 s.conv, .int .i64 s.lag, .int .i64 W, v]] w fun e w' => e = .returned (.int .i64 51) ∧ Below w.heap.size w w' := by
  have HB := hideS (SBox.zero w s W v).below
  obtain ⟨st, en, n, unit, stub, roll, conv, lag⟩ := s
  dsimp only at *
  have H1 := hideS (fun wx => schDay_any st wx)
  have H2 := hideS (fun wx => schDay_any en wx)
  by_cases a : 0 ≤ st ∧ st ≤ 109572
  · rw [decide_eq_true a] at H1
    rw [decide_eq_false (fun b : 0 ≤ en ∧ en ≤ 109572 => h ⟨a, b⟩)] at H2
    clear h a
    go_enter Tryz.func58, Tryz.ntmps58
    go_wp2_with fail
    refine (H1.out _).mono ?_
    rintro e w1 ⟨rfl, rfl⟩
    go_wp2_with fail
    refine (H2.out _).mono ?_
    rintro e w1 ⟨rfl, rfl⟩
    go_wp2_with fail
    go_ret
    exact ⟨rfl, HB.out⟩
  · rw [decide_eq_false a] at H1
    clear h a H2
    go_enter Tryz.func58, Tryz.ntmps58
    go_wp2_with fail
    refine (H1.out _).mono ?_
    rintro e w1 ⟨rfl, rfl⟩
    go_wp2_with fail
    go_ret
    exact ⟨rfl, HB.out⟩

set_option maxHeartbeats 3200000 in
theorem schCheck_spec (s : Spc) (W : Int) (v : Value) (w : World) (h0 : isDayP s.st) (h1 : isDayP s.en) (h : ¬ SpcOk s) :
    Calls Tryz.prog 58 #[.agg #[.int .i64 s.st, .int .i64 s.en, .int .i64 s.n, .int .i64 s.unit, .int .i64 s.stub, .int .i64 s.roll, .int .i64 s.conv, .int .i64 s.lag, .int .i64 W, v]] w fun e w' => e = .returned (.int .i64 80) ∧ Below w.heap.size w w' := by
  have HB := hideS (SBox.zero w s W v).below
  have HF := hideS (fun wx => fits_no s W v wx h0 h1 h)
  obtain ⟨st, en, n, unit, stub, roll, conv, lag⟩ := s
  dsimp only at *
  have H1 := hideS (fun wx => schDay_any st wx)
  have H2 := hideS (fun wx => schDay_any en wx)
  rw [decide_eq_true (⟨h0.1, h0.2⟩ : 0 ≤ st ∧ st ≤ 109572)] at H1
  rw [decide_eq_true (⟨h1.1, h1.2⟩ : 0 ≤ en ∧ en ≤ 109572)] at H2
  clear h h0 h1
  go_enter Tryz.func58, Tryz.ntmps58
  go_wp2_with fail
  refine (H1.out _).mono ?_
  rintro e w1 ⟨rfl, rfl⟩
  go_wp2_with fail
  refine (H2.out _).mono ?_
  rintro e w1 ⟨rfl, rfl⟩
  go_wp2_with fail
  refine (HF.out _).mono ?_
  rintro e w2 ⟨rfl, hb2⟩
  go_wp2_with fail
  go_ret
  exact ⟨rfl, HB.out.trans (hb2.mono HB.out.size)⟩

set_option maxHeartbeats 3200000 in
theorem schCheck_cal (s : Spc) (W A B : Int) (v : Value) (w : World) (h : SpcOk s) (HC : Hid (∀ wx, Below w.heap.size w wx → Calls Tryz.prog 25 #[.agg #[.int .i64 W, v]] wx fun e w' => e = .returned (.tuple #[.int .i64 A, .int .i64 B]) ∧ Below wx.heap.size wx w')) :
    Calls Tryz.prog 58 #[.agg #[.int .i64 s.st, .int .i64 s.en, .int .i64 s.n, .int .i64 s.unit, .int .i64 s.stub, .int .i64 s.roll, .int .i64 s.conv, .int .i64 s.lag, .int .i64 W, v]] w fun e w' => e = .returned (.int .i64 A) ∧ Below w.heap.size w w' := by
  have HB := hideS (SBox.zero w s W v)
  have HF := hideS (fun wx => fits_yes s W v wx h)
  have h0 := h.s0
  have h1 := h.e0
  obtain ⟨st, en, n, unit, stub, roll, conv, lag⟩ := s
  dsimp only at *
  have H1 := hideS (fun wx => schDay_any st wx)
  have H2 := hideS (fun wx => schDay_any en wx)
  rw [decide_eq_true (⟨h0.1, h0.2⟩ : 0 ≤ st ∧ st ≤ 109572)] at H1
  rw [decide_eq_true (⟨h1.1, h1.2⟩ : 0 ≤ en ∧ en ≤ 109572)] at H2
  clear h h0 h1
  go_enter Tryz.func58, Tryz.ntmps58
  go_wp2_with fail
  refine (H1.out _).mono ?_
  rintro e w1 ⟨rfl, rfl⟩
  go_wp2_with fail
  refine (H2.out _).mono ?_
  rintro e w1 ⟨rfl, rfl⟩
  go_wp2_with fail
  refine (HF.out _).mono ?_
  rintro e w2 ⟨rfl, hb2⟩
  have HB2 := hideS (HB.out.step hb2)
  clear hb2
  obtain ⟨_, _, _, _, _, _, _, _, q8, q9⟩ := HB2.out.cells
  go_wp2_with fail
  refine (HC.out _ HB2.out.below).mono ?_
  rintro e w3 ⟨rfl, hb3⟩
  go_wp2_with fail
  go_ret
  exact ⟨rfl, (HB2.out.step hb3).below⟩

theorem schCheck_any (s : Spc) (W A B E : Int) (p : Option Addr) (b off c : Nat) (rs : List Rul) (w : World) (hA : ChkR W rs A B) (h : SpcR s A E) (hs : RSrc w p b off rs) (hl : rs.length ≤ 9223372036854775807) :
    Calls Tryz.prog 58 #[.agg #[.int .i64 s.st, .int .i64 s.en, .int .i64 s.n, .int .i64 s.unit, .int .i64 s.stub, .int .i64 s.roll, .int .i64 s.conv, .int .i64 s.lag, .int .i64 W, .slice p rs.length c]] w fun e w' => e = .returned (.int .i64 E) ∧ Below w.heap.size w w' := by
  cases h with
  | range h => exact schCheck_range s W _ w h
  | spec h0 h1 h => exact schCheck_spec s W _ w h0 h1 h
  | cal h => exact schCheck_cal s W A B _ w h (fun wx hb => check_any W p b off c rs A B wx hA (hs.below hb) hl)
end Go.Proofs.YtphnainibdepbaaGreat
namespace Go.Proofs.YtphnainibdepbaaGreat
open Go.RowKit

theorem step_1 {s : Spc} {k : Int} (h : s.unit = 1) : stepN s k = k * s.n := by unfold stepN; rw [if_neg (by omega)]
theorem step_3 {s : Spc} {k : Int} (h : s.unit = 3) : stepN s k = k * s.n := by unfold stepN; rw [if_neg (by omega)]
theorem step_4 {s : Spc} {k : Int} (h : s.unit = 4) : stepN s k = 12 * (k * s.n) := by unfold stepN; rw [if_pos (Or.inr h), if_neg (by omega)]
theorem mul_bdS {k n : Int} (k0 : -200000 ≤ k) (k1 : k ≤ 200000) (n0 : 1 ≤ n) (n1 : n ≤ 1200) : -240000000 ≤ k * n ∧ k * n ≤ 240000000 := by
  rcases Int.le_total 0 k with h | h
  · have a := Int.mul_le_mul_of_nonneg_left n1 h
    have b := Int.mul_nonneg h (show 0 ≤ n by omega)
    omega
  · have a := Int.mul_le_mul_of_nonneg_left n1 (show 0 ≤ -k by omega)
    have b := Int.mul_nonneg (show 0 ≤ -k by omega) (show 0 ≤ n by omega)
    rw [Int.neg_mul, Int.neg_mul] at a
    rw [Int.neg_mul] at b
    omega

end Go.Proofs.YtphnainibdepbaaGreat
namespace Go.Proofs.YtphnainibdepbaaGreat
open Go.RowKit

end Go.Proofs.YtphnainibdepbaaGreat
namespace Go.Proofs.YtphnainibdepbaaGreat
open Go.RowKit

theorem day_more {y m d e : Int} : dayI y m d + (e - d) = dayI y m e := by unfold dayI; omega
theorem rollO_in {roll y m d K : Int} (hr : 0 ≤ mthI y m K ∧ mthI y m K < 3600) : rollO roll y m d K = some (if roll = 0 then monI y m d K false else if roll = 1 then dayI (toY y m K) (toM y m K) (lenI (toY y m K) (toM y m K)) else thirdI (toY y m K) (toM y m K)) := by unfold rollO; rw [if_pos hr]
theorem rollO_out {roll y m d K : Int} (hr : ¬ (0 ≤ mthI y m K ∧ mthI y m K < 3600)) : rollO roll y m d K = none := by unfold rollO; rw [if_neg hr]

set_option maxHeartbeats 3200000 in
theorem rolled_any (a K roll y m d : Int) (w : World) (hd : IsD a y m d) (r1 : 0 ≤ roll) (r2 : roll ≤ 2) (k0 : -9223372036854775808 ≤ K) (k1 : K ≤ 9223372036854775807) :
    Calls Tryz.prog 108 #[.int .i64 a, .int .i64 K, .int .i64 roll] w fun e w' => e = .returned (.tuple #[.int .i64 ((rollO roll y m d K).getD 0), .bool (rollO roll y m d K).isSome]) ∧ w' = w := by
  by_cases hr : 0 ≤ mthI y m K ∧ mthI y m K < 3600
  · have hym := toYM hr.1 hr.2
    have HM := hideS (fun wx => months_ok a y m d K false wx hd hr.1 hr.2)
    have h0 : rollO 0 y m d K = some (monI y m d K false) := rollO_in hr
    obtain ⟨d', hd'⟩ := roll_isD (hd.1.2.2.2.2.1) h0
    rw [rollO_in hr]
    have HC := hideS (fun wx => civil_ok (monI y m d K false) (toY y m K) (toM y m K) d' wx hd')
    have HL := hideS (fun wx => lengthP_ok (toY y m K) (toM y m K) wx hym)
    have HT := hideS (fun wx => third_ok (toY y m K) (toM y m K) wx hym)
    have he : monI y m d K false + (lenI (toY y m K) (toM y m K) - d') = dayI (toY y m K) (toM y m K) (lenI (toY y m K) (toM y m K)) := by
      rw [hd'.2]; exact day_more
    obtain ⟨x0, x1⟩ := hd'.range
    have hL0 := len_lo (toY y m K) (toM y m K)
    have hd0 : 1 ≤ d' := hd'.1.2.2.2.2.1
    have hd1 : d' ≤ lenI (toY y m K) (toM y m K) := hd'.1.2.2.2.2.2
    have hL1 : lenI (toY y m K) (toM y m K) ≤ 31 := by have := len_hi (toY y m K) (toM y m K); omega
    clear hd' h0
    generalize monI y m d K false = R0 at *
    generalize lenI (toY y m K) (toM y m K) = L at *
    generalize dayI (toY y m K) (toM y m K) L = R1 at *
    generalize thirdI (toY y m K) (toM y m K) = R2 at *
    generalize toY y m K = Y at *
    generalize toM y m K = Mo at *
    clear hd hr hym
    rcases (show roll = 0 ∨ roll = 1 ∨ roll = 2 by omega) with rfl | rfl | rfl
    all_goals
      go_enter Tryz.func108, Tryz.ntmps108
      go_wp2_with (first | (go_at_call 123; refine (HM.out _).mono ?_; rintro e w1 ⟨rfl, rfl⟩) | (go_at_call 110; refine (HC.out _).mono ?_; rintro e w2 ⟨rfl, rfl⟩) | (go_at_call 124; refine (HL.out _).mono ?_; rintro e w3 ⟨rfl, rfl⟩) | (go_at_call 125; refine (HT.out _).mono ?_; rintro e w3 ⟨rfl, rfl⟩))
      go_ret2
      exact ⟨rfl, rfl⟩
  · rw [rollO_out hr]
    have HM := hideS (fun wx => months_far a y m d K false wx hd hr k0 k1)
    clear hd hr
    go_enter Tryz.func108, Tryz.ntmps108
    go_wp2_with (go_at_call 123; refine (HM.out _).mono ?_; rintro e w1 ⟨rfl, rfl⟩)
    go_ret2
    exact ⟨rfl, rfl⟩

theorem step_2' {s : Spc} {k : Int} (h : s.unit = 2) : stepN s k = 7 * (k * s.n) := by unfold stepN; rw [if_pos (Or.inl h), if_pos h]

set_option maxHeartbeats 3200000 in
theorem schStep_days (s : Spc) (W a k : Int) (v : Value) (w : World) (h : SpcOk s) (ha : isDayP a) (k0 : -200000 ≤ k) (k1 : k ≤ 200000) (hu : s.unit ≤ 2) :
    Calls Tryz.prog 86 #[.agg #[.int .i64 s.st, .int .i64 s.en, .int .i64 s.n, .int .i64 s.unit, .int .i64 s.stub, .int .i64 s.roll, .int .i64 s.conv, .int .i64 s.lag, .int .i64 W, v], .int .i64 a, .int .i64 k] w fun e w' => e = .returned (.tuple #[.int .i64 ((ptO s a k).getD 0), .bool (ptO s a k).isSome]) ∧ Below w.heap.size w w' := by
  rw [pt_days ha hu]
  have HB := hideS (SBox.zero w s W v).below
  obtain ⟨b0, b1⟩ := mul_bdS k0 k1 h.n1 h.n2
  have hu1 := h.u1
  have hun : ∃ X, stepN s k = X ∧ ((s.unit = 1 ∧ X = k * s.n) ∨ (s.unit = 2 ∧ 7 * (k * s.n) = X)) := by
    rcases (show s.unit = 1 ∨ s.unit = 2 by omega) with u | u
    · exact ⟨_, step_1 u, Or.inl ⟨u, rfl⟩⟩
    · exact ⟨_, step_2' u, Or.inr ⟨u, rfl⟩⟩
  obtain ⟨X, hX, hun⟩ := hun
  rw [hX]
  clear hX h hu hu1
  obtain ⟨st, en, n, unit, stub, roll, conv, lag⟩ := s
  dsimp only at *
  obtain ⟨M, hM⟩ : ∃ M, k * n = M := ⟨_, rfl⟩
  rw [hM] at b0 b1 hun
  obtain ⟨a0, a1⟩ := ha
  have H2 := hideS (fun wx => known_any (a + X) wx)
  have HE : Hid (∀ d : Bool, d = decide (0 ≤ a + X ∧ a + X ≤ 109572) → ((if isDayP (a + X) then some (a + X) else none : Option Int).getD 0 = (if 0 ≤ a + X ∧ a + X ≤ 109572 then a + X else 0) ∧ (if isDayP (a + X) then some (a + X) else none : Option Int).isSome = d)) := fun d hd => by
    by_cases hh : 0 ≤ a + X ∧ a + X ≤ 109572
    · rw [hd, if_pos (show isDayP (a + X) from hh), if_pos hh, decide_eq_true hh]; exact ⟨rfl, rfl⟩
    · rw [hd, if_neg (show ¬ isDayP (a + X) from hh), if_neg hh, decide_eq_false hh]; exact ⟨rfl, rfl⟩
  obtain ⟨e1, e2⟩ := HE.out _ rfl
  rw [e1, e2]
  clear HE e1 e2
  generalize decide (0 ≤ a + X ∧ a + X ≤ 109572) = dd at *
  generalize (if 0 ≤ a + X ∧ a + X ≤ 109572 then a + X else 0) = rr at *
  rcases hun with ⟨rfl, rfl⟩ | ⟨rfl, hX⟩
  all_goals
    go_enter Tryz.func86, Tryz.ntmps86
    go_wp2_with (go_at_call 107; refine (H2.out _).mono ?_; rintro e w1 ⟨rfl, rfl⟩)
    go_ret2
    exact ⟨rfl, HB.out⟩

set_option maxHeartbeats 3200000 in
theorem schStep_months (s : Spc) (W a k y m d : Int) (v : Value) (w : World) (h : SpcOk s) (hd : IsD a y m d) (k0 : -200000 ≤ k) (k1 : k ≤ 200000) (hu : ¬ s.unit ≤ 2) :
    Calls Tryz.prog 86 #[.agg #[.int .i64 s.st, .int .i64 s.en, .int .i64 s.n, .int .i64 s.unit, .int .i64 s.stub, .int .i64 s.roll, .int .i64 s.conv, .int .i64 s.lag, .int .i64 W, v], .int .i64 a, .int .i64 k] w fun e w' => e = .returned (.tuple #[.int .i64 ((ptO s a k).getD 0), .bool (ptO s a k).isSome]) ∧ Below w.heap.size w w' := by
  rw [pt_months hd hu]
  have HB := hideS (SBox.zero w s W v).below
  obtain ⟨b0, b1⟩ := mul_bdS k0 k1 h.n1 h.n2
  have hu4 := h.u2
  have hun : ∃ K, stepN s k = K ∧ -3000000000 ≤ K ∧ K ≤ 3000000000 ∧ ((s.unit = 3 ∧ K = k * s.n) ∨ (s.unit = 4 ∧ k * s.n * 12 = K)) := by
    rcases (show s.unit = 3 ∨ s.unit = 4 by omega) with e | e
    · exact ⟨_, step_3 e, by omega, by omega, Or.inl ⟨e, rfl⟩⟩
    · exact ⟨_, step_4 e, by omega, by omega, Or.inr ⟨e, by omega⟩⟩
  obtain ⟨K, hK, K0, K1, hun⟩ := hun
  rw [hK]
  have HR := hideS (fun wx => rolled_any a K s.roll y m d wx hd h.r1 h.r2 (by omega) (by omega))
  generalize rollO s.roll y m d K = ro at *
  clear hK h hu hu4 hd
  obtain ⟨st, en, n, unit, stub, roll, conv, lag⟩ := s
  dsimp only at *
  obtain ⟨M, hM⟩ : ∃ M, k * n = M := ⟨_, rfl⟩
  rw [hM] at b0 b1 hun
  rcases hun with ⟨rfl, rfl⟩ | ⟨rfl, hX⟩
  all_goals
    go_enter Tryz.func86, Tryz.ntmps86
    go_wp2_with (go_at_call 108; refine (HR.out _).mono ?_; rintro e w1 ⟨rfl, rfl⟩)
    go_ret2
    exact ⟨rfl, HB.out⟩

theorem schStep_any (s : Spc) (W a k : Int) (v : Value) (w : World) (h : SpcOk s) (ha : isDayP a) (k0 : -200000 ≤ k) (k1 : k ≤ 200000) :
    Calls Tryz.prog 86 #[.agg #[.int .i64 s.st, .int .i64 s.en, .int .i64 s.n, .int .i64 s.unit, .int .i64 s.stub, .int .i64 s.roll, .int .i64 s.conv, .int .i64 s.lag, .int .i64 W, v], .int .i64 a, .int .i64 k] w fun e w' => e = .returned (.tuple #[.int .i64 ((ptO s a k).getD 0), .bool (ptO s a k).isSome]) ∧ Below w.heap.size w w' := by
  by_cases hu : s.unit ≤ 2
  · exact schStep_days s W a k v w h ha k0 k1 hu
  · obtain ⟨y, m, d, hd⟩ := isD_ex ha.1 ha.2
    exact schStep_months s W a k y m d v w h hd k0 k1 hu

end Go.Proofs.YtphnainibdepbaaGreat
