/- The law's own look: is a schedule small? -/
import Derived.Test.YtelghkhcplmnmaaSpM
namespace Go.Proofs.Ytelghkhcplmnmaa
open Go.RowKit

set_option maxHeartbeats 3200000 in
theorem small_many (s : Spc) (W : Int) (p : Option Addr) (N c : Nat) (w : World) (h : 8 < N) (h2 : N ≤ 9223372036854775807) :
    Calls Try.prog 6 #[.agg #[.int .i64 s.st, .int .i64 s.en, .int .i64 s.n, .int .i64 s.unit, .int .i64 s.stub, .int .i64 s.roll, .int .i64 s.conv, .int .i64 s.lag, .int .i64 W, .slice p N c]] w fun e w' => e = .returned (.bool false) ∧ Below w.heap.size w w' := by
  have HB := hideS (SBox.zero w s W (.slice p N c)).below
  have hN : decide ((8 : Int) < (N : Int)) = true := decide_eq_true (by omega)
  clear h
  obtain ⟨st, en, n, unit, stub, roll, conv, lag⟩ := s
  dsimp only at *
  go_enter Try.func6, Try.ntmps6
  go_wp2
  go_ret
  exact ⟨rfl, HB.out⟩

/-- The tests, one behind the other. -/
theorem small_cases (s : Spc) (N : Nat) : ((N : Int) == 0) = true ∨ (((N : Int) == 0) = false ∧ decide (s.n < 1) = true) ∨ (((N : Int) == 0) = false ∧ decide (s.n < 1) = false ∧ decide (s.st < 0) = true) ∨ (((N : Int) == 0) = false ∧ decide (s.n < 1) = false ∧ decide (s.st < 0) = false ∧ decide (109572 < s.en) = true) ∨ (((N : Int) == 0) = false ∧ decide (s.n < 1) = false ∧ decide (s.st < 0) = false ∧ decide (109572 < s.en) = false ∧ decide (s.en < s.st) = true) ∨ (((N : Int) == 0) = false ∧ decide (s.n < 1) = false ∧ decide (s.st < 0) = false ∧ decide (109572 < s.en) = false ∧ decide (s.en < s.st) = false) := by
  cases ((N : Int) == 0) <;> cases decide (s.n < 1) <;> cases decide (s.st < 0) <;> cases decide (109572 < s.en) <;> cases decide (s.en < s.st) <;> simp

set_option maxRecDepth 10000 in
set_option maxHeartbeats 6400000 in
theorem small_few (s : Spc) (W : Int) (p : Option Addr) (N c : Nat) (w : World) (h : N ≤ 8) (hn1 : s.n ≤ 9223372036854775807) :
    Calls Try.prog 6 #[.agg #[.int .i64 s.st, .int .i64 s.en, .int .i64 s.n, .int .i64 s.unit, .int .i64 s.stub, .int .i64 s.roll, .int .i64 s.conv, .int .i64 s.lag, .int .i64 W, .slice p N c]] w fun e w' => (∃ b, e = .returned (.bool b)) ∧ Below w.heap.size w w' := by
  have HB := hideS (SBox.zero w s W (.slice p N c)).below
  have HBd := hideS HB.out.drew
  have hN : decide ((8 : Int) < (N : Int)) = false := decide_eq_false (by omega)
  have hc := small_cases s N
  obtain ⟨st, en, n, unit, stub, roll, conv, lag⟩ := s
  dsimp only at *
  rcases hc with a | ⟨a, b⟩ | ⟨a, b, d⟩ | ⟨a, b, d, e⟩ | ⟨a, b, d, e, f⟩ | ⟨a, b, d, e, f⟩
  · go_enter Try.func6, Try.ntmps6
    go_wp2
    go_ret
    exact ⟨⟨_, rfl⟩, HB.out⟩
  · go_enter Try.func6, Try.ntmps6
    go_wp2
    go_ret
    exact ⟨⟨_, rfl⟩, HB.out⟩
  · go_enter Try.func6, Try.ntmps6
    go_wp2
    go_ret
    exact ⟨⟨_, rfl⟩, HB.out⟩
  · go_enter Try.func6, Try.ntmps6
    go_wp2
    go_ret
    exact ⟨⟨_, rfl⟩, HB.out⟩
  · go_enter Try.func6, Try.ntmps6
    go_wp2
    go_ret
    exact ⟨⟨_, rfl⟩, HB.out⟩
  · have n1 : 1 ≤ n := by have := of_decide_eq_false b; omega
    have s0 : 0 ≤ st := by have := of_decide_eq_false d; omega
    have e1 : en ≤ 109572 := by have := of_decide_eq_false e; omega
    have se : st ≤ en := by have := of_decide_eq_false f; omega
    obtain ⟨mn, hmn⟩ : ∃ mn, min n 2000 = mn := ⟨_, rfl⟩
    have m0 : 1 ≤ mn := by omega
    have m1 : mn ≤ 2000 := by omega
    have hu : ∃ x y z : Bool, (unit == 2) = x ∧ (unit == 3) = y ∧ (unit == 4) = z := ⟨_, _, _, rfl, rfl, rfl⟩
    obtain ⟨x, y, z, hx, hy, hz⟩ := hu
    cases x
    · cases y
      · cases z
        all_goals
          go_enter Try.func6, Try.ntmps6
          go_wp2_with fail
          go_region
          all_goals go_wp2_with fail
          all_goals go_ret
          all_goals exact ⟨⟨_, rfl⟩, HBd.out⟩
      · go_enter Try.func6, Try.ntmps6
        go_wp2_with fail
        go_region
        all_goals go_wp2_with fail
        all_goals go_ret
        all_goals exact ⟨⟨_, rfl⟩, HBd.out⟩
    · go_enter Try.func6, Try.ntmps6
      go_wp2_with fail
      go_region
      all_goals go_wp2_with fail
      all_goals go_ret
      all_goals exact ⟨⟨_, rfl⟩, HBd.out⟩

/-- Is it small? If so, it has few rules. -/
theorem small_any (s : Spc) (W : Int) (p : Option Addr) (N c : Nat) (w : World) (h2 : N ≤ 9223372036854775807) (hn1 : s.n ≤ 9223372036854775807) :
    Calls Try.prog 6 #[.agg #[.int .i64 s.st, .int .i64 s.en, .int .i64 s.n, .int .i64 s.unit, .int .i64 s.stub, .int .i64 s.roll, .int .i64 s.conv, .int .i64 s.lag, .int .i64 W, .slice p N c]] w fun e w' => (∃ b, e = .returned (.bool b) ∧ (b = true → N ≤ 8)) ∧ Below w.heap.size w w' := by
  by_cases h : N ≤ 8
  · exact (small_few s W p N c w h hn1).mono fun e w' ⟨⟨b, a⟩, d⟩ => ⟨⟨b, a, fun _ => h⟩, d⟩
  · exact (small_many s W p N c w (by omega) h2).mono fun e w' ⟨a, d⟩ => ⟨⟨false, a, fun e => by cases e⟩, d⟩
end Go.Proofs.Ytelghkhcplmnmaa
