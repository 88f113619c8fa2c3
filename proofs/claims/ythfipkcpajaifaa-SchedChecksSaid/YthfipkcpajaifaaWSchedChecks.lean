/- The walk of SchedChecks: any schedule. -/
import Derived.Test.YthfipkcpajaifaaSpM
namespace Go.Proofs.Ythfipkcpajaifaa
open Go.RowKit

set_option maxHeartbeats 3200000 in
theorem schedChecks_great (s : Spc) (W : Int) (p : Option Addr) (N c : Nat) (w : World) (h1 : 100 < N) (h2 : N ≤ 9223372036854775807) :
    Calls Try.prog 3 #[.agg #[.int .i64 s.st, .int .i64 s.en, .int .i64 s.n, .int .i64 s.unit, .int .i64 s.stub, .int .i64 s.roll, .int .i64 s.conv, .int .i64 s.lag, .int .i64 W, .slice p N c]] w fun e w' => e = .returned (.bool true) ∧ Below w.heap.size w w' := by
  have HB0 := hideS (SBox.zero w s W (.slice p N c))
  have hN : decide ((100 : Int) < (N : Int)) = true := decide_eq_true (by omega)
  clear h1
  obtain ⟨st, en, n, unit, stub, roll, conv, lag⟩ := s
  dsimp only at *
  go_enter Try.func3, Try.ntmps3
  go_wp2_with (go_at_call 9; refine (awake8 _).mono ?_; rintro e w9 ⟨rfl, hb9⟩)
  go_ret
  exact ⟨rfl, (HB0.out.step hb9).below⟩

set_option maxHeartbeats 3200000 in
theorem schedChecks_fine (s : Spc) (W : Int) (p : Option Addr) (N c : Nat) (w : World) (h1 : N ≤ 100) (HC : Hid (∀ wx, Below w.heap.size w wx → Calls Try.prog 10 #[.agg #[.int .i64 s.st, .int .i64 s.en, .int .i64 s.n, .int .i64 s.unit, .int .i64 s.stub, .int .i64 s.roll, .int .i64 s.conv, .int .i64 s.lag, .int .i64 W, .slice p N c]] wx fun e w' => e = .returned (.int .i64 0) ∧ Below wx.heap.size wx w')) (HR : Hid (∀ wx, Below w.heap.size w wx → Calls Try.prog 11 #[.agg #[.int .i64 s.st, .int .i64 s.en, .int .i64 s.n, .int .i64 s.unit, .int .i64 s.stub, .int .i64 s.roll, .int .i64 s.conv, .int .i64 s.lag, .int .i64 W, .slice p N c]] wx fun e w' => e = .returned (.int .i64 0) ∧ Below wx.heap.size wx w')) :
    Calls Try.prog 3 #[.agg #[.int .i64 s.st, .int .i64 s.en, .int .i64 s.n, .int .i64 s.unit, .int .i64 s.stub, .int .i64 s.roll, .int .i64 s.conv, .int .i64 s.lag, .int .i64 W, .slice p N c]] w fun e w' => e = .returned (.bool true) ∧ Below w.heap.size w w' := by
  have HB0 := hideS (SBox.zero w s W (.slice p N c))
  have hN : decide ((100 : Int) < (N : Int)) = false := decide_eq_false (by omega)
  obtain ⟨st, en, n, unit, stub, roll, conv, lag⟩ := s
  dsimp only at *
  obtain ⟨c0, c1, c2, c3, c4, c5, c6, c7, c8, c9⟩ := HB0.out.cells
  go_enter Try.func3, Try.ntmps3
  go_wp2_with fail
  refine (HC.out _ HB0.out.below).mono ?_
  rintro e w1 ⟨rfl, hb1⟩
  have HB1 := hideS (HB0.out.step hb1)
  clear hb1 c0 c1 c2 c3 c4 c5 c6 c7 c8 c9
  obtain ⟨c0, c1, c2, c3, c4, c5, c6, c7, c8, c9⟩ := HB1.out.cells
  go_wp2_with fail
  refine (HR.out _ HB1.out.below).mono ?_
  rintro e w2 ⟨rfl, hb2⟩
  have HB2 := hideS (HB1.out.step hb2)
  clear hb2 c0 c1 c2 c3 c4 c5 c6 c7 c8 c9
  obtain ⟨c0, c1, c2, c3, c4, c5, c6, c7, c8, c9⟩ := HB2.out.cells
  go_wp2_with (go_at_call 9; refine (awake8 _).mono ?_; rintro e w9 ⟨rfl, hb9⟩)
  go_ret
  exact ⟨rfl, (HB2.out.step hb9).below⟩

set_option maxHeartbeats 6400000 in
theorem schedChecks_wrong (s : Spc) (W E : Int) (p : Option Addr) (N c : Nat) (w : World) (h1 : N ≤ 100) (hE : E ≠ 0) (HC : Hid (∀ wx, Below w.heap.size w wx → Calls Try.prog 10 #[.agg #[.int .i64 s.st, .int .i64 s.en, .int .i64 s.n, .int .i64 s.unit, .int .i64 s.stub, .int .i64 s.roll, .int .i64 s.conv, .int .i64 s.lag, .int .i64 W, .slice p N c]] wx fun e w' => e = .returned (.int .i64 E) ∧ Below wx.heap.size wx w')) (HR : Hid (∀ wx, Below w.heap.size w wx → Calls Try.prog 11 #[.agg #[.int .i64 s.st, .int .i64 s.en, .int .i64 s.n, .int .i64 s.unit, .int .i64 s.stub, .int .i64 s.roll, .int .i64 s.conv, .int .i64 s.lag, .int .i64 W, .slice p N c]] wx fun e w' => e = .returned (.int .i64 E) ∧ Below wx.heap.size wx w')) (HD : Hid (∀ wx, Below w.heap.size w wx → Calls Try.prog 12 #[.agg #[.int .i64 s.st, .int .i64 s.en, .int .i64 s.n, .int .i64 s.unit, .int .i64 s.stub, .int .i64 s.roll, .int .i64 s.conv, .int .i64 s.lag, .int .i64 W, .slice p N c]] wx fun e w' => e = .returned (.tuple #[.slice none 0 0, .int .i64 E]) ∧ Below wx.heap.size wx w')) (HP : Hid (∀ wx, Below w.heap.size w wx → Calls Try.prog 13 #[.agg #[.int .i64 s.st, .int .i64 s.en, .int .i64 s.n, .int .i64 s.unit, .int .i64 s.stub, .int .i64 s.roll, .int .i64 s.conv, .int .i64 s.lag, .int .i64 W, .slice p N c]] wx fun e w' => e = .returned (.tuple #[.slice none 0 0, .int .i64 E]) ∧ Below wx.heap.size wx w')) (HT : Hid (∀ wx, Below w.heap.size w wx → Calls Try.prog 14 #[.agg #[.int .i64 s.st, .int .i64 s.en, .int .i64 s.n, .int .i64 s.unit, .int .i64 s.stub, .int .i64 s.roll, .int .i64 s.conv, .int .i64 s.lag, .int .i64 W, .slice p N c], .int .i64 s.st, .int .i64 1] wx fun e w' => e = .returned (.tuple #[.int .i64 0, .bool false]) ∧ Below wx.heap.size wx w')) :
    Calls Try.prog 3 #[.agg #[.int .i64 s.st, .int .i64 s.en, .int .i64 s.n, .int .i64 s.unit, .int .i64 s.stub, .int .i64 s.roll, .int .i64 s.conv, .int .i64 s.lag, .int .i64 W, .slice p N c]] w fun e w' => e = .returned (.bool true) ∧ Below w.heap.size w w' := by
  have HB0 := hideS (SBox.zero w s W (.slice p N c))
  have hN : decide ((100 : Int) < (N : Int)) = false := decide_eq_false (by omega)
  have hE' : (E == 0) = false := beq_eq_false_iff_ne.2 hE
  clear hE
  obtain ⟨st, en, n, unit, stub, roll, conv, lag⟩ := s
  dsimp only at *
  obtain ⟨c0, c1, c2, c3, c4, c5, c6, c7, c8, c9⟩ := HB0.out.cells
  go_enter Try.func3, Try.ntmps3
  go_wp2_with fail
  refine (HC.out _ HB0.out.below).mono ?_
  rintro e w1 ⟨rfl, hb1⟩
  have HB1 := hideS (HB0.out.step hb1)
  clear hb1 c0 c1 c2 c3 c4 c5 c6 c7 c8 c9
  obtain ⟨c0, c1, c2, c3, c4, c5, c6, c7, c8, c9⟩ := HB1.out.cells
  go_wp2_with fail
  refine (HR.out _ HB1.out.below).mono ?_
  rintro e w2 ⟨rfl, hb2⟩
  have HB2 := hideS (HB1.out.step hb2)
  clear hb2 c0 c1 c2 c3 c4 c5 c6 c7 c8 c9
  obtain ⟨c0, c1, c2, c3, c4, c5, c6, c7, c8, c9⟩ := HB2.out.cells
  go_wp2_with fail
  refine (HD.out _ HB2.out.below).mono ?_
  rintro e w3 ⟨rfl, hb3⟩
  have HB3 := hideS (HB2.out.step hb3)
  clear hb3 c0 c1 c2 c3 c4 c5 c6 c7 c8 c9
  obtain ⟨c0, c1, c2, c3, c4, c5, c6, c7, c8, c9⟩ := HB3.out.cells
  go_wp2_with fail
  refine (HP.out _ HB3.out.below).mono ?_
  rintro e w4 ⟨rfl, hb4⟩
  have HB4 := hideS (HB3.out.step hb4)
  clear hb4 c0 c1 c2 c3 c4 c5 c6 c7 c8 c9
  obtain ⟨c0, c1, c2, c3, c4, c5, c6, c7, c8, c9⟩ := HB4.out.cells
  go_wp2_with fail
  refine (HT.out _ HB4.out.below).mono ?_
  rintro e w5 ⟨rfl, hb5⟩
  have HB5 := hideS (HB4.out.step hb5)
  clear hb5 c0 c1 c2 c3 c4 c5 c6 c7 c8 c9
  obtain ⟨c0, c1, c2, c3, c4, c5, c6, c7, c8, c9⟩ := HB5.out.cells
  go_wp2_with (go_at_call 9; refine (awake8 _).mono ?_; rintro e w9 ⟨rfl, hb9⟩)
  go_ret
  exact ⟨rfl, (HB5.out.step hb9).below⟩

theorem schedChecks_walk (s : Spc) (W : Int) (p : Option Addr) (b off c : Nat) (rs : List Rul) (w : World) (hs : RSrc w p b off rs) (hl : rs.length ≤ 9223372036854775807) (_ : SpcI s) (_ : I64 W) (_ : ∀ r ∈ rs, RulI r) :
    Calls Try.prog 3 #[.agg #[.int .i64 s.st, .int .i64 s.en, .int .i64 s.n, .int .i64 s.unit, .int .i64 s.stub, .int .i64 s.roll, .int .i64 s.conv, .int .i64 s.lag, .int .i64 W, .slice p rs.length c]] w fun e w' => e = .returned (.bool true) ∧ Below w.heap.size w w' := by
  by_cases h : rs.length ≤ 100
  · obtain ⟨A, B, hA⟩ := chk_ex W rs
    obtain ⟨E, hE⟩ := spc_ex s A
    have HC : ∀ wx, Below w.heap.size w wx → Calls Try.prog 10 #[.agg #[.int .i64 s.st, .int .i64 s.en, .int .i64 s.n, .int .i64 s.unit, .int .i64 s.stub, .int .i64 s.roll, .int .i64 s.conv, .int .i64 s.lag, .int .i64 W, .slice p rs.length c]] wx fun e w' => e = .returned (.int .i64 E) ∧ Below wx.heap.size wx w' := fun wx hb => schCheck_any s W A B E p b off c rs wx hA hE (hs.below hb) hl
    have HR : ∀ wx, Below w.heap.size w wx → Calls Try.prog 11 #[.agg #[.int .i64 s.st, .int .i64 s.en, .int .i64 s.n, .int .i64 s.unit, .int .i64 s.stub, .int .i64 s.roll, .int .i64 s.conv, .int .i64 s.lag, .int .i64 W, .slice p rs.length c]] wx fun e w' => e = .returned (.int .i64 E) ∧ Below wx.heap.size wx w' := fun wx hb => ref8Check_any s W A B E p b off c rs wx hA hE (hs.below hb) (by omega)
    by_cases h0 : E = 0
    · subst h0
      exact schedChecks_fine s W p rs.length c w h HC HR
    · exact schedChecks_wrong s W E p rs.length c w h h0 HC HR (fun wx hb => schDates_no s W A B E p b off c rs wx hA hE h0 (hs.below hb) hl) (fun wx hb => schPeriods_no s W A B E p b off c rs wx hA hE h0 (hs.below hb) hl) (fun wx hb => schPoint_not s W A B E s.st 1 p b off c rs wx hA hE h0 (hs.below hb) hl)
  · exact schedChecks_great s W p rs.length c w (by omega) hl
end Go.Proofs.Ythfipkcpajaifaa
