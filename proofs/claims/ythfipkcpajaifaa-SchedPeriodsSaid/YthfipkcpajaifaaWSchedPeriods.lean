/- The walk of SchedPeriods: any schedule. -/
import Derived.Test.YthfipkcpajaifaaSpN
namespace Go.Proofs.Ythfipkcpajaifaa
open Go.RowKit

set_option maxHeartbeats 3200000 in
theorem schedPeriods_great (s : Spc) (W : Int) (p : Option Addr) (N c : Nat) (w : World) (h1 : 8 < N) (h2 : N ≤ 9223372036854775807) :
    Calls Try.prog 6 #[.agg #[.int .i64 s.st, .int .i64 s.en, .int .i64 s.n, .int .i64 s.unit, .int .i64 s.stub, .int .i64 s.roll, .int .i64 s.conv, .int .i64 s.lag, .int .i64 W, .slice p N c]] w fun e w' => e = .returned (.bool true) ∧ Below w.heap.size w w' := by
  have HB0 := hideS (SBox.zero w s W (.slice p N c))
  have HSm := hideS (fun wx => small_many s W p N c wx h1 h2)
  obtain ⟨st, en, n, unit, stub, roll, conv, lag⟩ := s
  dsimp only at *
  go_enter Try.func6, Try.ntmps6
  go_wp2_with (first | (go_at_call 18; refine (HSm.out _).mono ?_; rintro e w1 ⟨rfl, hb1⟩) | (go_at_call 9; refine (awake8 _).mono ?_; rintro e w9 ⟨rfl, hb9⟩))
  go_ret
  exact ⟨rfl, ((HB0.out.step hb1).step hb9).below⟩

set_option maxHeartbeats 6400000 in
theorem schedPeriods_fine (s : Spc) (W E : Int) (xs : List Per) (p : Option Addr) (N c : Nat) (w : World) (hx : xs.length ≤ 2000) (HSm : Hid (∀ wx, Below w.heap.size w wx → Calls Try.prog 18 #[.agg #[.int .i64 s.st, .int .i64 s.en, .int .i64 s.n, .int .i64 s.unit, .int .i64 s.stub, .int .i64 s.roll, .int .i64 s.conv, .int .i64 s.lag, .int .i64 W, .slice p N c]] wx fun e w' => (∃ b, e = .returned (.bool b)) ∧ Below wx.heap.size wx w')) (HC : Hid (∀ wx, Below w.heap.size w wx → Calls Try.prog 13 #[.agg #[.int .i64 s.st, .int .i64 s.en, .int .i64 s.n, .int .i64 s.unit, .int .i64 s.stub, .int .i64 s.roll, .int .i64 s.conv, .int .i64 s.lag, .int .i64 W, .slice p N c]] wx fun e w' => PersOut xs E wx e w' ∧ Below wx.heap.size wx w')) (HR : Hid (∀ wx, Below w.heap.size w wx → Calls Try.prog 19 #[.agg #[.int .i64 s.st, .int .i64 s.en, .int .i64 s.n, .int .i64 s.unit, .int .i64 s.stub, .int .i64 s.roll, .int .i64 s.conv, .int .i64 s.lag, .int .i64 W, .slice p N c]] wx fun e w' => PersOut xs E wx e w' ∧ Below wx.heap.size wx w')) :
    Calls Try.prog 6 #[.agg #[.int .i64 s.st, .int .i64 s.en, .int .i64 s.n, .int .i64 s.unit, .int .i64 s.stub, .int .i64 s.roll, .int .i64 s.conv, .int .i64 s.lag, .int .i64 W, .slice p N c]] w fun e w' => e = .returned (.bool true) ∧ Below w.heap.size w w' := by
  have HB0 := hideS (SBox.zero w s W (.slice p N c))
  have HSame : Hid (∀ (q q' : Option Addr) (g k g' k' : Nat) wx, PSrc wx q g 0 xs → PSrc wx q' g' 0 xs → Calls Try.prog 20 #[.slice q xs.length k, .slice q' xs.length k'] wx fun e w' => e = .returned (.bool true) ∧ Below wx.heap.size wx w') := fun q q' g k g' k' wx a b => ref8SamePeriods_same q q' g 0 k g' 0 k' xs wx a b (by omega)
  unfold PersOut at HC HR
  generalize hM : xs.length = M at *
  obtain ⟨st, en, n, unit, stub, roll, conv, lag⟩ := s
  dsimp only at *
  obtain ⟨c0, c1, c2, c3, c4, c5, c6, c7, c8, c9⟩ := HB0.out.cells
  go_enter Try.func6, Try.ntmps6
  go_wp2_with fail
  refine (HSm.out _ HB0.out.below).mono ?_
  rintro e w1 ⟨⟨bb, rfl⟩, hb1⟩
  have HB1 := hideS (HB0.out.step hb1)
  clear hb1 c0 c1 c2 c3 c4 c5 c6 c7 c8 c9
  obtain ⟨c0, c1, c2, c3, c4, c5, c6, c7, c8, c9⟩ := HB1.out.cells
  cases bb
  · go_wp2_with (go_at_call 9; refine (awake8 _).mono ?_; rintro e w9 ⟨rfl, hb9⟩)
    go_ret
    exact ⟨rfl, (HB1.out.step hb9).below⟩
  go_wp2_with fail
  refine (HC.out _ HB1.out.below).mono ?_
  rintro e w2 ⟨⟨q1, g1, k1, rfl, hs1, hk1, _⟩, hb2⟩
  have HB2 := hideS (HB1.out.step hb2)
  have HS1 := hideS hs1
  clear hs1 hb2 c0 c1 c2 c3 c4 c5 c6 c7 c8 c9
  obtain ⟨c0, c1, c2, c3, c4, c5, c6, c7, c8, c9⟩ := HB2.out.cells
  go_wp2_with fail
  refine (HR.out _ HB2.out.below).mono ?_
  rintro e w3 ⟨⟨q2, g2, k2, rfl, hs2, hk2, _⟩, hb3⟩
  have HB3 := hideS (HB2.out.step hb3)
  have HS2 := hideS (HS1.out.below hb3)
  have HS3 := hideS hs2
  clear hs2 hb3 c0 c1 c2 c3 c4 c5 c6 c7 c8 c9
  obtain ⟨c0, c1, c2, c3, c4, c5, c6, c7, c8, c9⟩ := HB3.out.cells
  go_wp2_with (first | (go_at_call 20; refine (HSame.out _ _ g1 _ g2 _ _ HS2.out HS3.out).mono ?_; rintro e w8 ⟨rfl, hb8⟩) | (go_at_call 9; refine (awake8 _).mono ?_; rintro e w9 ⟨rfl, hb9⟩))
  go_ret
  exact ⟨rfl, ((HB3.out.step hb8).step hb9).below⟩

theorem schedPeriods_walk (s : Spc) (W : Int) (p : Option Addr) (b off c : Nat) (rs : List Rul) (w : World) (hs : RSrc w p b off rs) (hl : rs.length ≤ 9223372036854775807) (hI : SpcI s) (_ : I64 W) (_ : ∀ r ∈ rs, RulI r) :
    Calls Try.prog 6 #[.agg #[.int .i64 s.st, .int .i64 s.en, .int .i64 s.n, .int .i64 s.unit, .int .i64 s.stub, .int .i64 s.roll, .int .i64 s.conv, .int .i64 s.lag, .int .i64 W, .slice p rs.length c]] w fun e w' => e = .returned (.bool true) ∧ Below w.heap.size w w' := by
  by_cases h : rs.length ≤ 8
  · obtain ⟨xs, E, hx, h1, h2⟩ := periods_two s W p b off c rs w hs (by omega)
    exact schedPeriods_fine s W E xs p rs.length c w hx (fun wx _ => small_few s W p rs.length c wx h hI.n.2) h1 h2
  · exact schedPeriods_great s W p rs.length c w (by omega) hl
end Go.Proofs.Ythfipkcpajaifaa
