/- The walk of SchedPoints: any schedule, anchor and number of steps. -/
import Derived.Test.YthfipkcpajaifaaSpM
namespace Go.Proofs.Ythfipkcpajaifaa
open Go.RowKit

set_option maxHeartbeats 3200000 in
theorem schedPoints_great (s : Spc) (W a k : Int) (p : Option Addr) (N c : Nat) (w : World) (h1 : 100 < N) (h2 : N ≤ 9223372036854775807) :
    Calls Try.prog 4 #[.agg #[.int .i64 s.st, .int .i64 s.en, .int .i64 s.n, .int .i64 s.unit, .int .i64 s.stub, .int .i64 s.roll, .int .i64 s.conv, .int .i64 s.lag, .int .i64 W, .slice p N c], .int .i64 a, .int .i64 k] w fun e w' => e = .returned (.bool true) ∧ Below w.heap.size w w' := by
  have HB0 := hideS (SBox.zero w s W (.slice p N c))
  have hN : decide ((100 : Int) < (N : Int)) = true := decide_eq_true (by omega)
  clear h1
  obtain ⟨st, en, n, unit, stub, roll, conv, lag⟩ := s
  dsimp only at *
  go_enter Try.func4, Try.ntmps4
  go_wp2_with (go_at_call 9; refine (awake8 _).mono ?_; rintro e w9 ⟨rfl, hb9⟩)
  go_ret
  exact ⟨rfl, (HB0.out.step hb9).below⟩

set_option maxHeartbeats 3200000 in
theorem schedPoints_fine (s : Spc) (W a k X : Int) (B : Bool) (p : Option Addr) (N c : Nat) (w : World) (h1 : N ≤ 100) (HC : Hid (∀ wx, Below w.heap.size w wx → Calls Try.prog 14 #[.agg #[.int .i64 s.st, .int .i64 s.en, .int .i64 s.n, .int .i64 s.unit, .int .i64 s.stub, .int .i64 s.roll, .int .i64 s.conv, .int .i64 s.lag, .int .i64 W, .slice p N c], .int .i64 a, .int .i64 k] wx fun e w' => e = .returned (.tuple #[.int .i64 X, .bool B]) ∧ Below wx.heap.size wx w')) (HR : Hid (∀ wx, Below w.heap.size w wx → Calls Try.prog 15 #[.agg #[.int .i64 s.st, .int .i64 s.en, .int .i64 s.n, .int .i64 s.unit, .int .i64 s.stub, .int .i64 s.roll, .int .i64 s.conv, .int .i64 s.lag, .int .i64 W, .slice p N c], .int .i64 a, .int .i64 k] wx fun e w' => e = .returned (.tuple #[.int .i64 X, .bool B]) ∧ Below wx.heap.size wx w')) :
    Calls Try.prog 4 #[.agg #[.int .i64 s.st, .int .i64 s.en, .int .i64 s.n, .int .i64 s.unit, .int .i64 s.stub, .int .i64 s.roll, .int .i64 s.conv, .int .i64 s.lag, .int .i64 W, .slice p N c], .int .i64 a, .int .i64 k] w fun e w' => e = .returned (.bool true) ∧ Below w.heap.size w w' := by
  have HB0 := hideS (SBox.zero w s W (.slice p N c))
  have hN : decide ((100 : Int) < (N : Int)) = false := decide_eq_false (by omega)
  obtain ⟨st, en, n, unit, stub, roll, conv, lag⟩ := s
  dsimp only at *
  obtain ⟨c0, c1, c2, c3, c4, c5, c6, c7, c8, c9⟩ := HB0.out.cells
  go_enter Try.func4, Try.ntmps4
  go_wp2_with fail
  refine (HC.out _ HB0.out.below).mono ?_
  rintro e w1 ⟨rfl, hb1⟩
  have HB1 := hideS (HB0.out.step hb1)
  clear hb1 c0 c1 c2 c3 c4 c5 c6 c7 c8 c9
  obtain ⟨c0, c1, c2, c3, c4, c5, c6, c7, c8, c9⟩ := HB1.out.cells
  go_wp2_with fail
  refine (HR.out _ HB1.out.below).mono ?_
  rintro e w2 ⟨rfl, hb2⟩
  have HB2 := hideS (HB1.out.step hb2)
  clear hb2 c0 c1 c2 c3 c4 c5 c6 c7 c8 c9
  obtain ⟨c0, c1, c2, c3, c4, c5, c6, c7, c8, c9⟩ := HB2.out.cells
  go_wp2_with (go_at_call 9; refine (awake8 _).mono ?_; rintro e w9 ⟨rfl, hb9⟩)
  go_ret
  exact ⟨rfl, (HB2.out.step hb9).below⟩

theorem schedPoints_walk (s : Spc) (W a k : Int) (p : Option Addr) (b off c : Nat) (rs : List Rul) (w : World) (hs : RSrc w p b off rs) (hl : rs.length ≤ 9223372036854775807) (_ : SpcI s) (_ : I64 W) (_ : ∀ r ∈ rs, RulI r) (_ : I64 a) (_ : I64 k) :
    Calls Try.prog 4 #[.agg #[.int .i64 s.st, .int .i64 s.en, .int .i64 s.n, .int .i64 s.unit, .int .i64 s.stub, .int .i64 s.roll, .int .i64 s.conv, .int .i64 s.lag, .int .i64 W, .slice p rs.length c], .int .i64 a, .int .i64 k] w fun e w' => e = .returned (.bool true) ∧ Below w.heap.size w w' := by
  by_cases h : rs.length ≤ 100
  · obtain ⟨A, B, hA⟩ := chk_ex W rs
    obtain ⟨E, hE⟩ := spc_ex s A
    by_cases h0 : E = 0
    · subst h0
      obtain ⟨hok, rfl⟩ := spc_ok hE
      obtain ⟨hC, _⟩ := chk_ok hA
      exact schedPoints_fine s W a k _ _ p rs.length c w h (fun wx hb => schPoint_yes s W a k p b off c rs wx hok hC (hs.below hb)) (fun wx hb => ref8Point_yes s W a k p b off c rs wx hok hC (hs.below hb))
    · exact schedPoints_fine s W a k 0 false p rs.length c w h (fun wx hb => schPoint_not s W A B E a k p b off c rs wx hA hE h0 (hs.below hb) hl) (fun wx hb => ref8Point_not s W A B E a k p b off c rs wx hA hE h0 (hs.below hb) (by omega))
  · exact schedPoints_great s W a k p rs.length c w (by omega) hl
end Go.Proofs.Ythfipkcpajaifaa
