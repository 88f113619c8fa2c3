/- The contract of the document's Adjust at any calendar that may be. -/
import Derived.Test.YtglkhoekpafddaaCRefH
namespace Go.Proofs.Ytglkhoekpafddaa
open Go.RowKit

theorem refAdjust_none (W n s : Int) (p : Option Addr) (c N : Nat) (o1 o2 : Option Int) (w : World) (H : Hid (AdjH w W N p c n s o1 o2)) :
    Calls Try.prog 22 #[.agg #[.int .i64 W, .slice p N c], .int .i64 n, .int .i64 0] w fun e w' => e = .returned (.tuple #[.int .i64 n, .int .i64 0]) ∧ Below w.heap.size w w' := by
  have hi := fun wx => refIn_any 0 0 4 wx
  rw [decide_eq_true (by omega)] at hi
  have HI := hideS hi
  clear hi
  have HB0 : Hid (Below w.heap.size w (w.alloc (.cells #[.int .i64 W, .slice p N c] 24))) := (Below.refl w.heap.size w).alloc (Nat.le_refl _) _
  go_enter Try.func22, Try.ntmps22
  go_wp2_with (first | (go_at_call 11; refine (H.out.chk _ HB0.out).mono ?_; rintro e w1 ⟨rfl, hb1⟩) | (go_at_call 27; refine (HI.out _).mono ?_; rintro e w2 ⟨rfl, rfl⟩) | (go_at_call 42; refine (H.out.day _).mono ?_; rintro e w2 ⟨rfl, rfl⟩))
  go_ret2
  exact ⟨rfl, HB0.out.trans (hb1.mono HB0.out.size)⟩

set_option maxHeartbeats 3200000 in
theorem refAdjust_turn (W n way s : Int) (p : Option Addr) (c N : Nat) (o2 : Option Int) (w : World) (H : Hid (AdjH w W N p c n s none o2)) (hw : (way = 3 ∧ s = 1) ∨ (way = 4 ∧ s = -1)) :
    Calls Try.prog 22 #[.agg #[.int .i64 W, .slice p N c], .int .i64 n, .int .i64 way] w fun e w' => e = .returned (.tuple #[.int .i64 (o2.getD 0), .int .i64 (ansE o2)]) ∧ Below w.heap.size w w' := by
  have hi := fun wx => refIn_any way 0 4 wx
  rw [decide_eq_true (by omega)] at hi
  have HI := hideS hi
  clear hi
  have HB0 : Hid (Below w.heap.size w (w.alloc (.cells #[.int .i64 W, .slice p N c] 24))) := (Below.refl w.heap.size w).alloc (Nat.le_refl _) _
  unfold ansE
  rcases o2 with _ | x
  all_goals
    rcases hw with ⟨rfl, rfl⟩ | ⟨rfl, rfl⟩
    all_goals
      go_enter Try.func22, Try.ntmps22
      go_wp2_with fail
      refine (H.out.chk _ HB0.out).mono ?_
      rintro e w1 ⟨rfl, hb1⟩
      have HB1 := hideS (CBox.first hb1)
      obtain ⟨c0, c1⟩ := cal_cells HB1.out
      clear hb1
      go_wp2_with (first | (go_at_call 27; refine (HI.out _).mono ?_; rintro e w2 ⟨rfl, hw2⟩; obtain rfl := hw2.symm; clear hw2) | (go_at_call 42; refine (H.out.day _).mono ?_; rintro e w2 ⟨rfl, hw2⟩; obtain rfl := hw2.symm; clear hw2) | fail)
      refine (H.out.one _ HB1.out.below).mono ?_
      rintro e w3 ⟨rfl, hb3⟩
      have HB3 := hideS (HB1.out.step hb3)
      obtain ⟨e0, e1⟩ := cal_cells HB3.out
      clear hb3
      go_wp2_with (go_at_call 43; refine (H.out.two _ HB3.out.below).mono ?_; rintro e w4 ⟨rfl, hb4⟩; have HB4 := hideS (HB3.out.step hb4); clear hb4)
      go_ret2
      exact ⟨rfl, HB4.out.below⟩

set_option maxHeartbeats 3200000 in
theorem refAdjust_stay (W n way s x : Int) (p : Option Addr) (c N : Nat) (o2 : Option Int) (w : World) (H : Hid (AdjH w W N p c n s (some x) o2)) (hw : (way = 3 ∧ s = 1) ∨ (way = 4 ∧ s = -1)) (hm : moI x = moI n) :
    Calls Try.prog 22 #[.agg #[.int .i64 W, .slice p N c], .int .i64 n, .int .i64 way] w fun e w' => e = .returned (.tuple #[.int .i64 x, .int .i64 0]) ∧ Below w.heap.size w w' := by
  have hi := fun wx => refIn_any way 0 4 wx
  rw [decide_eq_true (by omega)] at hi
  have HI := hideS hi
  have HM := hideS H.out.mon
  have hmx := H.out.monx x rfl
  rw [hm] at hmx
  have HX := hideS hmx
  clear hi hmx hm
  generalize moI n = m at *
  have HB0 : Hid (Below w.heap.size w (w.alloc (.cells #[.int .i64 W, .slice p N c] 24))) := (Below.refl w.heap.size w).alloc (Nat.le_refl _) _
  rcases hw with ⟨rfl, rfl⟩ | ⟨rfl, rfl⟩
  all_goals
    go_enter Try.func22, Try.ntmps22
    go_wp2_with fail
    refine (H.out.chk _ HB0.out).mono ?_
    rintro e w1 ⟨rfl, hb1⟩
    have HB1 := hideS (CBox.first hb1)
    obtain ⟨c0, c1⟩ := cal_cells HB1.out
    clear hb1
    go_wp2_with (first | (go_at_call 27; refine (HI.out _).mono ?_; rintro e w2 ⟨rfl, hw2⟩; obtain rfl := hw2.symm; clear hw2) | (go_at_call 42; refine (H.out.day _).mono ?_; rintro e w2 ⟨rfl, hw2⟩; obtain rfl := hw2.symm; clear hw2) | fail)
    refine (H.out.one _ HB1.out.below).mono ?_
    rintro e w3 ⟨rfl, hb3⟩
    have HB3 := hideS (HB1.out.step hb3)
    clear hb3
    go_wp2_with fail
    refine (HX.out _).mono ?_
    rintro e w4 ⟨rfl, hb4⟩
    have HB4 := hideS (HB3.out.step hb4)
    clear hb4
    go_wp2_with fail
    refine (HM.out _).mono ?_
    rintro e w5 ⟨rfl, hb5⟩
    have HB5 := hideS (HB4.out.step hb5)
    clear hb5
    go_wp2_with fail
    go_ret2
    exact ⟨rfl, HB5.out.below⟩

set_option maxHeartbeats 3200000 in
theorem refAdjust_back (W n way s x : Int) (p : Option Addr) (c N : Nat) (o2 : Option Int) (w : World) (H : Hid (AdjH w W N p c n s (some x) o2)) (hw : (way = 3 ∧ s = 1) ∨ (way = 4 ∧ s = -1)) (hm : moI x ≠ moI n) :
    Calls Try.prog 22 #[.agg #[.int .i64 W, .slice p N c], .int .i64 n, .int .i64 way] w fun e w' => e = .returned (.tuple #[.int .i64 (o2.getD 0), .int .i64 (ansE o2)]) ∧ Below w.heap.size w w' := by
  have hi := fun wx => refIn_any way 0 4 wx
  rw [decide_eq_true (by omega)] at hi
  have HI := hideS hi
  have HM := hideS H.out.mon
  have HX := hideS (H.out.monx x rfl)
  have hm' : (moI x != moI n) = true := bne_iff_ne.2 hm
  clear hi hm
  generalize moI n = m at *
  generalize moI x = mx at *
  have HB0 : Hid (Below w.heap.size w (w.alloc (.cells #[.int .i64 W, .slice p N c] 24))) := (Below.refl w.heap.size w).alloc (Nat.le_refl _) _
  unfold ansE
  rcases o2 with _ | x2
  all_goals
    rcases hw with ⟨rfl, rfl⟩ | ⟨rfl, rfl⟩
    all_goals
      go_enter Try.func22, Try.ntmps22
      go_wp2_with fail
      refine (H.out.chk _ HB0.out).mono ?_
      rintro e w1 ⟨rfl, hb1⟩
      have HB1 := hideS (CBox.first hb1)
      obtain ⟨c0, c1⟩ := cal_cells HB1.out
      clear hb1
      go_wp2_with (first | (go_at_call 27; refine (HI.out _).mono ?_; rintro e w2 ⟨rfl, hw2⟩; obtain rfl := hw2.symm; clear hw2) | (go_at_call 42; refine (H.out.day _).mono ?_; rintro e w2 ⟨rfl, hw2⟩; obtain rfl := hw2.symm; clear hw2) | fail)
      refine (H.out.one _ HB1.out.below).mono ?_
      rintro e w3 ⟨rfl, hb3⟩
      have HB3 := hideS (HB1.out.step hb3)
      clear hb3
      go_wp2_with fail
      refine (HX.out _).mono ?_
      rintro e w4 ⟨rfl, hb4⟩
      have HB4 := hideS (HB3.out.step hb4)
      clear hb4
      go_wp2_with fail
      refine (HM.out _).mono ?_
      rintro e w5 ⟨rfl, hb5⟩
      have HB5 := hideS (HB4.out.step hb5)
      obtain ⟨e0, e1⟩ := cal_cells HB5.out
      clear hb5
      go_wp2_with (go_at_call 43; refine (H.out.two _ HB5.out.below).mono ?_; rintro e w6 ⟨rfl, hb6⟩; have HB6 := hideS (HB5.out.step hb6); clear hb6)
      go_ret2
      exact ⟨rfl, HB6.out.below⟩

theorem refAdjust_ok (W n way : Int) (p : Option Addr) (b off c : Nat) (rs : List Rul) (w : World) (h : OkC W rs) (hs : RSrc w p b off rs) (hw : 0 ≤ way ∧ way ≤ 4) (hn : isDayP n) :
    Calls Try.prog 22 #[.agg #[.int .i64 W, .slice p rs.length c], .int .i64 n, .int .i64 way] w fun e w' => e = .returned (.tuple #[.int .i64 ((adjO (opB W rs) n way).getD 0), .int .i64 (ansE (adjO (opB W rs) n way))]) ∧ Below w.heap.size w w' := by
  have H := hideS (adjH_of W n (stepI way) p b off c rs w h hs (step_or way) hn)
  unfold adjO
  by_cases w0 : way = 0
  · rw [if_pos w0]
    subst w0
    exact refAdjust_none _ _ _ _ _ _ _ _ _ H
  · rw [if_neg w0]
    by_cases w3 : way = 3 ∨ way = 4
    · have hws : (way = 3 ∧ stepI way = 1) ∨ (way = 4 ∧ stepI way = -1) := by
        rcases w3 with rfl | rfl
        · exact Or.inl ⟨rfl, rfl⟩
        · exact Or.inr ⟨rfl, rfl⟩
      by_cases hx : ∀ x, srch (opB W rs) n (stepI way) = some x → moI x ≠ moI n
      · rw [if_pos ⟨w3, hx⟩]
        cases ho : srch (opB W rs) n (stepI way) with
        | none => rw [ho] at H; exact refAdjust_turn _ _ _ _ _ _ _ _ _ H hws
        | some x => rw [ho] at H; exact refAdjust_back _ _ _ _ _ _ _ _ _ _ H hws (hx x ho)
      · rw [if_neg (fun a => hx a.2)]
        cases ho : srch (opB W rs) n (stepI way) with
        | none => exact absurd (fun x e => by rw [ho] at e; cases e) hx
        | some x =>
          rw [ho] at H
          refine refAdjust_stay _ _ _ _ x _ _ _ _ _ H hws ?_
          by_cases e : moI x = moI n
          · exact e
          · exact absurd (fun y hy => by rw [ho] at hy; cases hy; exact e) hx
    · rw [if_neg (fun a => w3 a.1)]
      refine refAdjust_plain _ _ _ _ _ _ _ _ _ _ H ?_
      rcases (show way = 1 ∨ way = 2 by omega) with rfl | rfl
      · exact Or.inl ⟨rfl, rfl⟩
      · exact Or.inr ⟨rfl, rfl⟩
end Go.Proofs.Ytglkhoekpafddaa
