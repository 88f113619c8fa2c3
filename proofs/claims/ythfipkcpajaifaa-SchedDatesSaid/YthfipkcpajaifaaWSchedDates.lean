/- The walk of SchedDates: any schedule. -/
import Derived.Test.YthfipkcpajaifaaSpM
namespace Go.Proofs.Ythfipkcpajaifaa
open Go.RowKit

set_option maxHeartbeats 3200000 in
theorem schedDates_great (s : Spc) (W : Int) (p : Option Addr) (N c : Nat) (w : World) (h1 : 100 < N) (h2 : N ≤ 9223372036854775807) :
    Calls Try.prog 5 #[.agg #[.int .i64 s.st, .int .i64 s.en, .int .i64 s.n, .int .i64 s.unit, .int .i64 s.stub, .int .i64 s.roll, .int .i64 s.conv, .int .i64 s.lag, .int .i64 W, .slice p N c]] w fun e w' => e = .returned (.bool true) ∧ Below w.heap.size w w' := by
  have HB0 := hideS (SBox.zero w s W (.slice p N c))
  have hN : decide ((100 : Int) < (N : Int)) = true := decide_eq_true (by omega)
  clear h1
  obtain ⟨st, en, n, unit, stub, roll, conv, lag⟩ := s
  dsimp only at *
  go_enter Try.func5, Try.ntmps5
  go_wp2_with (go_at_call 9; refine (awake8 _).mono ?_; rintro e w9 ⟨rfl, hb9⟩)
  go_ret
  exact ⟨rfl, (HB0.out.step hb9).below⟩

set_option maxHeartbeats 6400000 in
theorem schedDates_fine (s : Spc) (W E : Int) (xs : List Int) (p : Option Addr) (N c : Nat) (w : World) (h1 : N ≤ 100) (hx : xs.length ≤ 2000) (HC : Hid (∀ wx, Below w.heap.size w wx → Calls Try.prog 12 #[.agg #[.int .i64 s.st, .int .i64 s.en, .int .i64 s.n, .int .i64 s.unit, .int .i64 s.stub, .int .i64 s.roll, .int .i64 s.conv, .int .i64 s.lag, .int .i64 W, .slice p N c]] wx fun e w' => IntsOut xs E wx e w' ∧ Below wx.heap.size wx w')) (HR : Hid (∀ wx, Below w.heap.size w wx → Calls Try.prog 16 #[.agg #[.int .i64 s.st, .int .i64 s.en, .int .i64 s.n, .int .i64 s.unit, .int .i64 s.stub, .int .i64 s.roll, .int .i64 s.conv, .int .i64 s.lag, .int .i64 W, .slice p N c]] wx fun e w' => IntsOut xs E wx e w' ∧ Below wx.heap.size wx w')) :
    Calls Try.prog 5 #[.agg #[.int .i64 s.st, .int .i64 s.en, .int .i64 s.n, .int .i64 s.unit, .int .i64 s.stub, .int .i64 s.roll, .int .i64 s.conv, .int .i64 s.lag, .int .i64 W, .slice p N c]] w fun e w' => e = .returned (.bool true) ∧ Below w.heap.size w w' := by
  have HB0 := hideS (SBox.zero w s W (.slice p N c))
  have hN : decide ((100 : Int) < (N : Int)) = false := decide_eq_false (by omega)
  have HSame : Hid (∀ (q q' : Option Addr) (g k g' k' : Nat) wx, ISrc wx q g 0 xs → ISrc wx q' g' 0 xs → Calls Try.prog 17 #[.slice q xs.length k, .slice q' xs.length k'] wx fun e w' => e = .returned (.bool true) ∧ Below wx.heap.size wx w') := fun q q' g k g' k' wx a b => ref8SameInts_same q q' g 0 k g' 0 k' xs wx a b (by omega)
  unfold IntsOut at HC HR
  generalize hM : xs.length = M at *
  obtain ⟨st, en, n, unit, stub, roll, conv, lag⟩ := s
  dsimp only at *
  obtain ⟨c0, c1, c2, c3, c4, c5, c6, c7, c8, c9⟩ := HB0.out.cells
  go_enter Try.func5, Try.ntmps5
  go_wp2_with fail
  refine (HC.out _ HB0.out.below).mono ?_
  rintro e w1 ⟨⟨q1, g1, k1, rfl, hs1, hk1, _⟩, hb1⟩
  have HB1 := hideS (HB0.out.step hb1)
  have HS1 := hideS hs1
  clear hs1 hb1 c0 c1 c2 c3 c4 c5 c6 c7 c8 c9
  obtain ⟨c0, c1, c2, c3, c4, c5, c6, c7, c8, c9⟩ := HB1.out.cells
  go_wp2_with fail
  refine (HR.out _ HB1.out.below).mono ?_
  rintro e w2 ⟨⟨q2, g2, k2, rfl, hs2, hk2, _⟩, hb2⟩
  have HB2 := hideS (HB1.out.step hb2)
  have HS2 := hideS (HS1.out.below hb2)
  have HS3 := hideS hs2
  clear hs2 hb2 c0 c1 c2 c3 c4 c5 c6 c7 c8 c9
  obtain ⟨c0, c1, c2, c3, c4, c5, c6, c7, c8, c9⟩ := HB2.out.cells
  go_wp2_with (first | (go_at_call 17; refine (HSame.out _ _ g1 _ g2 _ _ HS2.out HS3.out).mono ?_; rintro e w8 ⟨rfl, hb8⟩) | (go_at_call 9; refine (awake8 _).mono ?_; rintro e w9 ⟨rfl, hb9⟩))
  go_ret
  exact ⟨rfl, ((HB2.out.step hb8).step hb9).below⟩

theorem schedDates_walk (s : Spc) (W : Int) (p : Option Addr) (b off c : Nat) (rs : List Rul) (w : World) (hs : RSrc w p b off rs) (hl : rs.length ≤ 9223372036854775807) (_ : SpcI s) (_ : I64 W) (_ : ∀ r ∈ rs, RulI r) :
    Calls Try.prog 5 #[.agg #[.int .i64 s.st, .int .i64 s.en, .int .i64 s.n, .int .i64 s.unit, .int .i64 s.stub, .int .i64 s.roll, .int .i64 s.conv, .int .i64 s.lag, .int .i64 W, .slice p rs.length c]] w fun e w' => e = .returned (.bool true) ∧ Below w.heap.size w w' := by
  by_cases h : rs.length ≤ 100
  · obtain ⟨xs, E, hx, h1, h2⟩ := dates_two s W p b off c rs w hs (by omega)
    exact schedDates_fine s W E xs p rs.length c w h hx h1 h2
  · exact schedDates_great s W p rs.length c w (by omega) hl
end Go.Proofs.Ythfipkcpajaifaa
