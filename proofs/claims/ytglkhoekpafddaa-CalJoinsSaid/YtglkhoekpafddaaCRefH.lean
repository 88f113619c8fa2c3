/- The contracts of the document's month and Adjust. -/
import Derived.Test.YtglkhoekpafddaaCRefG
namespace Go.Proofs.Ytglkhoekpafddaa
open Go.RowKit

set_option maxHeartbeats 400000 in
theorem refMonth6_any (n : Int) (w : World) (hn : isDayP n) :
    Calls Try.prog 44 #[.int .i64 n] w fun e w' => e = .returned (.int .i64 (moI n)) ∧ Below w.heap.size w w' := by
  obtain ⟨y, m, d, hd⟩ := isD_ex hn.1 hn.2
  rw [mo_eq hd]
  have HC := hideS (fun wx => refCiv_ok n y m d wx hd)
  unfold dateV at HC
  obtain ⟨y0, y1, m0, m1, _, _⟩ := hd.1
  clear hd
  go_enter Try.func44, Try.ntmps44
  go_wp2_with (go_at_call 54; refine (HC.out _).mono ?_; rintro e w1 ⟨rfl, hb1⟩)
  go_ret
  exact ⟨rfl, hb1.trans (((Below.refl _ w1).alloc (Nat.le_refl _) _).mono hb1.size)⟩

set_option maxHeartbeats 800000 in
theorem refAdjust_bad (W n way : Int) (p : Option Addr) (b off c : Nat) (rs : List Rul) (A B E : Int) (w : World) (h : ChkR W rs A B) (hs : RSrc w p b off rs) (hl : rs.length ≤ 1000000)
    (hE : (A ≠ 0 ∧ E = A) ∨ (A = 0 ∧ ¬ (0 ≤ way ∧ way ≤ 4) ∧ E = 90) ∨ (A = 0 ∧ (0 ≤ way ∧ way ≤ 4) ∧ ¬ isDayP n ∧ E = 51)) :
    Calls Try.prog 22 #[.agg #[.int .i64 W, .slice p rs.length c], .int .i64 n, .int .i64 way] w fun e w' => e = .returned (.tuple #[.int .i64 0, .int .i64 E]) ∧ Below w.heap.size w w' := by
  have HC : Hid (∀ wx, Below w.heap.size w wx → Calls Try.prog 11 #[.agg #[.int .i64 W, .slice p rs.length c]] wx fun e w' => e = .returned (.tuple #[.int .i64 A, .int .i64 B]) ∧ Below wx.heap.size wx w') := fun wx hb => refCheck_any W p b off c rs A B wx h (hs.below hb) hl
  generalize rs.length = N at *
  have HB0 : Hid (Below w.heap.size w (w.alloc (.cells #[.int .i64 W, .slice p N c] 24))) := (Below.refl w.heap.size w).alloc (Nat.le_refl _) _
  have hi := fun wx => refIn_any way 0 4 wx
  have hd := fun wx => refIsDay_any n wx
  clear h hs hl
  rcases hE with ⟨a, rfl⟩ | ⟨rfl, a, rfl⟩ | ⟨rfl, a, a2, rfl⟩
  · have a' : (E != 0) = true := bne_iff_ne.2 a
    clear hi hd a
    go_enter Try.func22, Try.ntmps22
    go_wp2_with (go_at_call 11; refine (HC.out _ HB0.out).mono ?_; rintro e w1 ⟨rfl, hb1⟩)
    go_ret2
    exact ⟨rfl, HB0.out.trans (hb1.mono HB0.out.size)⟩
  · rw [decide_eq_false a] at hi
    have HI := hideS hi
    clear hi hd a
    go_enter Try.func22, Try.ntmps22
    go_wp2_with (first | (go_at_call 11; refine (HC.out _ HB0.out).mono ?_; rintro e w1 ⟨rfl, hb1⟩) | (go_at_call 27; refine (HI.out _).mono ?_; rintro e w2 ⟨rfl, rfl⟩))
    go_ret2
    exact ⟨rfl, HB0.out.trans (hb1.mono HB0.out.size)⟩
  · rw [decide_eq_true a] at hi
    rw [decide_eq_false a2] at hd
    have HI := hideS hi
    have HD := hideS hd
    clear hi hd a a2
    go_enter Try.func22, Try.ntmps22
    go_wp2_with (first | (go_at_call 11; refine (HC.out _ HB0.out).mono ?_; rintro e w1 ⟨rfl, hb1⟩) | (go_at_call 27; refine (HI.out _).mono ?_; rintro e w2 ⟨rfl, rfl⟩) | (go_at_call 42; refine (HD.out _).mono ?_; rintro e w2 ⟨rfl, rfl⟩))
    go_ret2
    exact ⟨rfl, HB0.out.trans (hb1.mono HB0.out.size)⟩

/-- What Adjust has at hand behind its tests. -/
structure AdjH (w : World) (W : Int) (N : Nat) (p : Option Addr) (c : Nat) (n s : Int) (o1 o2 : Option Int) : Prop where
  chk : ∀ wx, Below w.heap.size w wx → Calls Try.prog 11 #[.agg #[.int .i64 W, .slice p N c]] wx fun e w' => e = .returned (.tuple #[.int .i64 0, .int .i64 0]) ∧ Below wx.heap.size wx w'
  one : ∀ wx, Below w.heap.size w wx → Calls Try.prog 43 #[.agg #[.int .i64 W, .slice p N c], .int .i64 n, .int .i64 s] wx fun e w' => e = .returned (.tuple #[.int .i64 (o1.getD 0), .bool o1.isSome]) ∧ Below wx.heap.size wx w'
  two : ∀ wx, Below w.heap.size w wx → Calls Try.prog 43 #[.agg #[.int .i64 W, .slice p N c], .int .i64 n, .int .i64 (-s)] wx fun e w' => e = .returned (.tuple #[.int .i64 (o2.getD 0), .bool o2.isSome]) ∧ Below wx.heap.size wx w'
  day : ∀ wx, Calls Try.prog 42 #[.int .i64 n] wx fun e w' => e = .returned (.bool true) ∧ w' = wx
  mon : ∀ wx, Calls Try.prog 44 #[.int .i64 n] wx fun e w' => e = .returned (.int .i64 (moI n)) ∧ Below wx.heap.size wx w'
  monx : ∀ x, o1 = some x → ∀ wx, Calls Try.prog 44 #[.int .i64 x] wx fun e w' => e = .returned (.int .i64 (moI x)) ∧ Below wx.heap.size wx w'
theorem adjH_of (W n s : Int) (p : Option Addr) (b off c : Nat) (rs : List Rul) (w : World) (h : OkC W rs) (hs : RSrc w p b off rs) (hst : s = 1 ∨ s = -1) (hn : isDayP n) :
    AdjH w W rs.length p c n s (srch (opB W rs) n s) (srch (opB W rs) n (-s)) := by
  have n0 := hn.1
  have n1 := hn.2
  have r1 := srch_is (opB W rs) n s hst (by omega) (by omega)
  have r2 := srch_is (opB W rs) n (-s) (by omega) (by omega) (by omega)
  refine ⟨fun wx hb => refCheck_any W p b off c rs 0 0 wx (.ok h) (hs.below hb) (by have := h.len; omega), fun wx hb => refSearch_any W n s p b off c rs _ wx h (hs.below hb) hst (by omega) (by omega) r1, fun wx hb => refSearch_any W n (-s) p b off c rs _ wx h (hs.below hb) (by omega) (by omega) (by omega) r2, fun wx => ?_, fun wx => refMonth6_any n wx hn, fun x hx wx => refMonth6_any x wx ?_⟩
  · have := refIsDay_any n wx
    rw [decide_eq_true hn] at this; exact this
  · rw [hx] at r1
    exact (srch_day r1).1

set_option maxHeartbeats 3200000 in
theorem refAdjust_plain (W n way s : Int) (p : Option Addr) (c N : Nat) (o1 o2 : Option Int) (w : World) (H : Hid (AdjH w W N p c n s o1 o2)) (hw : (way = 1 ∧ s = 1) ∨ (way = 2 ∧ s = -1)) :
    Calls Try.prog 22 #[.agg #[.int .i64 W, .slice p N c], .int .i64 n, .int .i64 way] w fun e w' => e = .returned (.tuple #[.int .i64 (o1.getD 0), .int .i64 (ansE o1)]) ∧ Below w.heap.size w w' := by
  have hi := fun wx => refIn_any way 0 4 wx
  rw [decide_eq_true (by omega)] at hi
  have HI := hideS hi
  clear hi
  have HB0 : Hid (Below w.heap.size w (w.alloc (.cells #[.int .i64 W, .slice p N c] 24))) := (Below.refl w.heap.size w).alloc (Nat.le_refl _) _
  unfold ansE
  rcases o1 with _ | x
  all_goals
    rcases hw with ⟨rfl, rfl⟩ | ⟨rfl, rfl⟩
    all_goals
      go_enter Try.func22, Try.ntmps22
      go_wp2_with fail
      refine (H.out.chk _ HB0.out).mono ?_
      rintro e w1 ⟨rfl, hb1⟩
      have HB1 := hideS (CBox.first hb1)
      obtain ⟨c0, c1⟩ := cal_cells HB1.out
      clear hb1
      go_wp2_with (first | (go_at_call 27; refine (HI.out _).mono ?_; rintro e w2 ⟨rfl, hw2⟩; obtain rfl := hw2.symm; clear hw2) | (go_at_call 42; refine (H.out.day _).mono ?_; rintro e w2 ⟨rfl, hw2⟩; obtain rfl := hw2.symm; clear hw2) | (go_at_call 43; refine (H.out.one _ HB1.out.below).mono ?_; rintro e w3 ⟨rfl, hb3⟩; have HB3 := hideS (HB1.out.step hb3); clear hb3))
      go_ret2
      exact ⟨rfl, HB3.out.below⟩
end Go.Proofs.Ytglkhoekpafddaa
