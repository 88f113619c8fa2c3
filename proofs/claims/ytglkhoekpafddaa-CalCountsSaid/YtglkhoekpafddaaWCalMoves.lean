/- The walk of CalMoves: any calendar, day and way. -/
import Derived.Test.YtglkhoekpafddaaQFew
import Derived.Test.YtglkhoekpafddaaCRefI
namespace Go.Proofs.Ytglkhoekpafddaa
open Go.RowKit

/-- What two calls tell alike. -/
structure TwoH (P R : Nat) (w : World) (W : Int) (p : Option Addr) (c N : Nat) (n k X E : Int) : Prop where
  prog : ∀ wx, Below w.heap.size w wx → Calls Try.prog P #[.agg #[.int .i64 W, .slice p N c], .int .i64 n, .int .i64 k] wx fun e w' => e = .returned (.tuple #[.int .i64 X, .int .i64 E]) ∧ Below wx.heap.size wx w'
  ref : ∀ wx, Below w.heap.size w wx → Calls Try.prog R #[.agg #[.int .i64 W, .slice p N c], .int .i64 n, .int .i64 k] wx fun e w' => e = .returned (.tuple #[.int .i64 X, .int .i64 E]) ∧ Below wx.heap.size wx w'

theorem adjust_two (w : World) (W n way : Int) (p : Option Addr) (b off c : Nat) (rs : List Rul) (hs : RSrc w p b off rs) (hl : rs.length ≤ 1000000) : ∃ X E, TwoH 14 22 w W p c rs.length n way X E := by
  obtain ⟨A, B, h⟩ := chk_ex W rs
  have bad : ∀ E, ((A ≠ 0 ∧ E = A) ∨ (A = 0 ∧ ¬ (0 ≤ way ∧ way ≤ 4) ∧ E = 90) ∨ (A = 0 ∧ (0 ≤ way ∧ way ≤ 4) ∧ ¬ isDayP n ∧ E = 51)) → ∃ X E, TwoH 14 22 w W p c rs.length n way X E := fun E hE =>
    ⟨_, _, fun wx hb => adjP_bad W n way p b off c rs A B E wx h (hs.below hb) (by omega) hE, fun wx hb => refAdjust_bad W n way p b off c rs A B E wx h (hs.below hb) hl hE⟩
  by_cases hA : A = 0
  · by_cases hw : 0 ≤ way ∧ way ≤ 4
    · by_cases hn : isDayP n
      · subst hA
        obtain ⟨hok, _⟩ := chk_ok h
        exact ⟨_, _, fun wx hb => adjP_ok W n way p b off c rs wx hok (hs.below hb) hw hn, fun wx hb => refAdjust_ok W n way p b off c rs wx hok (hs.below hb) hw hn⟩
      · exact bad 51 (Or.inr (Or.inr ⟨hA, hw, hn, rfl⟩))
    · exact bad 90 (Or.inr (Or.inl ⟨hA, hw, rfl⟩))
  · exact bad A (Or.inl ⟨hA, rfl⟩)

set_option maxHeartbeats 1600000 in
theorem calMoves_great (W n k : Int) (p : Option Addr) (N c : Nat) (w : World) (h1 : 12 < N) (h2 : N ≤ 9223372036854775807) :
    Calls Try.prog 5 #[.agg #[.int .i64 W, .slice p N c], .int .i64 n, .int .i64 k] w fun e w' => e = .returned (.bool true) ∧ Below w.heap.size w w' := by
  have HFw := hideS (fun wx => few_any W p N c wx h2)
  rw [decide_eq_false (show ¬ N ≤ 12 by omega)] at HFw
  go_enter Try.func5, Try.ntmps5
  go_wp2_with (first | (go_at_call 21; refine (HFw.out _).mono ?_; rintro e w1 ⟨rfl, hb1⟩) | (go_at_call 9; refine (awake6 _).mono ?_; rintro e w2 ⟨rfl, hb2⟩))
  go_ret
  exact ⟨rfl, ((CBoxP.first hb1).step hb2).below⟩

set_option maxHeartbeats 1600000 in
theorem calMoves_small (W n k X E : Int) (p : Option Addr) (N c : Nat) (w : World) (hl : N ≤ 12) (H : Hid (TwoH 14 22 w W p c N n k X E)) :
    Calls Try.prog 5 #[.agg #[.int .i64 W, .slice p N c], .int .i64 n, .int .i64 k] w fun e w' => e = .returned (.bool true) ∧ Below w.heap.size w w' := by
  have HFw := hideS (fun wx => few_any W p N c wx (by omega))
  rw [decide_eq_true hl] at HFw
  go_enter Try.func5, Try.ntmps5
  go_wp2_with fail
  refine (HFw.out _).mono ?_
  rintro e w1 ⟨rfl, hb1⟩
  have X1 := hideS (CBoxP.first hb1)
  clear hb1
  obtain ⟨c0, c1⟩ := X1.out.cells
  go_wp2_with fail
  refine (H.out.prog _ X1.out.below).mono ?_
  rintro e w2 ⟨rfl, hb2⟩
  have X2 := hideS (X1.out.step hb2)
  clear hb2 X1 c0 c1
  obtain ⟨c0, c1⟩ := X2.out.cells
  go_wp2_with fail
  refine (H.out.ref _ X2.out.below).mono ?_
  rintro e w3 ⟨rfl, hb3⟩
  have X3 := hideS (X2.out.step hb3)
  clear hb3 X2 c0 c1
  go_wp2_with (go_at_call 9; refine (awake6 _).mono ?_; rintro e w5 ⟨rfl, hb5⟩)
  go_ret
  exact ⟨rfl, (X3.out.step hb5).below⟩

theorem calMoves_walk (W n k : Int) (p : Option Addr) (b off c : Nat) (rs : List Rul) (w : World) (hs : RSrc w p b off rs) (hl : rs.length ≤ 9223372036854775807) (_ : I64 W) (_ : ∀ r ∈ rs, RulI r) (_ : I64 n) (_ : I64 k) :
    Calls Try.prog 5 #[.agg #[.int .i64 W, .slice p rs.length c], .int .i64 n, .int .i64 k] w fun e w' => e = .returned (.bool true) ∧ Below w.heap.size w w' := by
  by_cases h : rs.length ≤ 12
  · obtain ⟨X, E, H⟩ := adjust_two w W n k p b off c rs hs (by omega)
    exact calMoves_small W n k X E p rs.length c w h H
  · exact calMoves_great W n k p rs.length c w (by omega) hl
end Go.Proofs.Ytglkhoekpafddaa
