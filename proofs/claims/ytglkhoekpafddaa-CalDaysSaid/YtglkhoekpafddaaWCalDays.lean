/- The walk of CalDays: any calendar, any day. -/
import Derived.Test.YtglkhoekpafddaaQAwake
import Derived.Test.YtglkhoekpafddaaCRefG
import Derived.Test.YtglkhoekpafddaaFCal
namespace Go.Proofs.Ytglkhoekpafddaa
open Go.RowKit

/-- What is told of a day, by the program and by the document. -/
structure DaysH (w : World) (W : Int) (p : Option Addr) (c N : Nat) (n : Int) (B1 B2 : Bool) (E1 E2 : Int) : Prop where
  po : ∀ wx, Below w.heap.size w wx → Calls Try.prog 12 #[.agg #[.int .i64 W, .slice p N c], .int .i64 n] wx fun e w' => e = .returned (.tuple #[.bool B1, .int .i64 E1]) ∧ Below wx.heap.size wx w'
  ro : ∀ wx, Below w.heap.size w wx → Calls Try.prog 19 #[.agg #[.int .i64 W, .slice p N c], .int .i64 n] wx fun e w' => e = .returned (.tuple #[.bool B1, .int .i64 E1]) ∧ Below wx.heap.size wx w'
  ph : ∀ wx, Below w.heap.size w wx → Calls Try.prog 13 #[.agg #[.int .i64 W, .slice p N c], .int .i64 n] wx fun e w' => e = .returned (.tuple #[.bool B2, .int .i64 E2]) ∧ Below wx.heap.size wx w'
  rh : ∀ wx, Below w.heap.size w wx → Calls Try.prog 20 #[.agg #[.int .i64 W, .slice p N c], .int .i64 n] wx fun e w' => e = .returned (.tuple #[.bool B2, .int .i64 E2]) ∧ Below wx.heap.size wx w'
theorem daysH_of (w : World) (W n : Int) (p : Option Addr) (b off c : Nat) (rs : List Rul) (hs : RSrc w p b off rs) (hl : rs.length ≤ 1000000) : ∃ B1 B2 E1 E2, DaysH w W p c rs.length n B1 B2 E1 E2 := by
  obtain ⟨A, B, h⟩ := chk_ex W rs
  by_cases hbad : A ≠ 0 ∨ ¬ isDayP n
  · exact ⟨_, _, _, _, fun wx hb => openP_bad W n p b off c rs A B wx h (hs.below hb) (by omega) hbad, fun wx hb => refOpen_bad W n p b off c rs A B wx h (hs.below hb) hl hbad, fun wx hb => holP_bad W n p b off c rs A B wx h (hs.below hb) (by omega) hbad, fun wx hb => refHoliday_bad W n p b off c rs A B wx h (hs.below hb) hl hbad⟩
  · have hA : A = 0 := Classical.byContradiction fun a => hbad (Or.inl a)
    have hn : isDayP n := Classical.byContradiction fun a => hbad (Or.inr a)
    subst hA
    obtain ⟨hok, _⟩ := chk_ok h
    exact ⟨_, _, _, _, fun wx hb => openP_ok W n p b off c rs wx hok (hs.below hb) hn, fun wx hb => refOpen_ok W n p b off c rs wx hok (hs.below hb) hn, fun wx hb => holP_ok W n p b off c rs wx hok (hs.below hb) hn, fun wx hb => refHoliday_ok W n p b off c rs wx hok (hs.below hb) hn⟩

set_option maxHeartbeats 1600000 in
theorem calDays_great (W n : Int) (p : Option Addr) (N c : Nat) (w : World) (h1 : 64 < N) (h2 : N ≤ 9223372036854775807) :
    Calls Try.prog 4 #[.agg #[.int .i64 W, .slice p N c], .int .i64 n] w fun e w' => e = .returned (.bool true) ∧ Below w.heap.size w w' := by
  have HB0 : Hid (Below w.heap.size w (w.alloc (.cells #[.int .i64 W, .slice p N c] 24))) := (Below.refl w.heap.size w).alloc (Nat.le_refl _) _
  go_enter Try.func4, Try.ntmps4
  go_wp2_with (go_at_call 9; refine (awake6 _).mono ?_; rintro e w1 ⟨rfl, hb1⟩)
  go_ret
  exact ⟨rfl, HB0.out.trans (hb1.mono HB0.out.size)⟩

set_option maxHeartbeats 1600000 in
theorem calDays_small (W n : Int) (p : Option Addr) (b off c : Nat) (rs : List Rul) (w : World) (hs : RSrc w p b off rs) (hl : rs.length ≤ 64) :
    Calls Try.prog 4 #[.agg #[.int .i64 W, .slice p rs.length c], .int .i64 n] w fun e w' => e = .returned (.bool true) ∧ Below w.heap.size w w' := by
  obtain ⟨B1, B2, E1, E2, hH⟩ := daysH_of w W n p b off c rs hs (by omega)
  have H := hideS hH
  clear hH
  generalize rs.length = N at *
  clear hs
  have HB0 : Hid (Below w.heap.size w (w.alloc (.cells #[.int .i64 W, .slice p N c] 24))) := (Below.refl w.heap.size w).alloc (Nat.le_refl _) _
  have hl' : ¬ (64 : Int) < N := by omega
  go_enter Try.func4, Try.ntmps4
  go_wp2_with fail
  refine (H.out.po _ HB0.out).mono ?_
  rintro e w1 ⟨rfl, hb1⟩
  have X1 := hideS (CBoxP.first hb1)
  clear hb1 HB0
  obtain ⟨c0, c1⟩ := X1.out.cells
  go_wp2_with fail
  refine (H.out.ro _ X1.out.below).mono ?_
  rintro e w2 ⟨rfl, hb2⟩
  have X2 := hideS (X1.out.step hb2)
  clear hb2 X1 c0 c1
  obtain ⟨c0, c1⟩ := X2.out.cells
  go_wp2_with fail
  refine (H.out.ph _ X2.out.below).mono ?_
  rintro e w3 ⟨rfl, hb3⟩
  have X3 := hideS (X2.out.step hb3)
  clear hb3 X2 c0 c1
  obtain ⟨c0, c1⟩ := X3.out.cells
  go_wp2_with fail
  refine (H.out.rh _ X3.out.below).mono ?_
  rintro e w4 ⟨rfl, hb4⟩
  have X4 := hideS (X3.out.step hb4)
  clear hb4 X3 c0 c1
  go_wp2_with (go_at_call 9; refine (awake6 _).mono ?_; rintro e w5 ⟨rfl, hb5⟩)
  go_ret
  exact ⟨rfl, (X4.out.step hb5).below⟩

theorem calDays_walk (W n : Int) (p : Option Addr) (b off c : Nat) (rs : List Rul) (w : World) (hs : RSrc w p b off rs) (hl : rs.length ≤ 9223372036854775807) (_ : I64 W) (_ : ∀ r ∈ rs, RulI r) (_ : I64 n) :
    Calls Try.prog 4 #[.agg #[.int .i64 W, .slice p rs.length c], .int .i64 n] w fun e w' => e = .returned (.bool true) ∧ Below w.heap.size w w' := by
  by_cases h : rs.length ≤ 64
  · exact calDays_small W n p b off c rs w hs h
  · exact calDays_great W n p rs.length c w (by omega) hl
end Go.Proofs.Ytglkhoekpafddaa
