/- The walk of SchedSteps: all cuts but the stub's lie at the anchor's points. -/
import Derived.Test.YtelghkhcplmnmaaSpM
import Derived.Test.YtelghkhcplmnmaaHas
namespace Go.Proofs.Ytelghkhcplmnmaa
open Go.RowKit

set_option maxRecDepth 10000 in
set_option maxHeartbeats 3200000 in
theorem schedSteps_wrong (s : Spc) (W E : Int) (p : Option Addr) (Nr c : Nat) (w : World) (hE : E ≠ 0) (HD : Hid (∀ wx, Below w.heap.size w wx → Calls Try.prog 8 #[.agg #[.int .i64 s.st, .int .i64 s.en, .int .i64 s.n, .int .i64 s.unit, .int .i64 s.stub, .int .i64 s.roll, .int .i64 s.conv, .int .i64 s.lag, .int .i64 W, .slice p Nr c]] wx fun e w' => e = .returned (.tuple #[.slice none 0 0, .int .i64 E]) ∧ Below wx.heap.size wx w')) :
    Calls Try.prog 4 #[.agg #[.int .i64 s.st, .int .i64 s.en, .int .i64 s.n, .int .i64 s.unit, .int .i64 s.stub, .int .i64 s.roll, .int .i64 s.conv, .int .i64 s.lag, .int .i64 W, .slice p Nr c]] w fun e w' => e = .returned (.bool true) ∧ Below w.heap.size w w' := by
  have HB0 := hideS (SBox.zero w s W (.slice p Nr c))
  have hE' : (E != 0) = true := bne_iff_ne.2 hE
  clear hE
  obtain ⟨st, en, n, unit, stub, roll, conv, lag⟩ := s
  dsimp only at *
  go_enter Try.func4, Try.ntmps4
  go_wp2_with (first | (go_at_call 8; refine (HD.out _ HB0.out.below).mono ?_; rintro e w1 ⟨rfl, hb1⟩) | (go_at_call 7; refine (awake8 _).mono ?_; rintro e w9 ⟨rfl, hb9⟩))
  go_ret
  exact ⟨rfl, ((HB0.out.step hb1).step hb9).below⟩

set_option maxRecDepth 10000 in
set_option maxHeartbeats 3200000 in
theorem schedSteps_many (s : Spc) (W : Int) (p : Option Addr) (Nr c M : Nat) (l : List Int) (w : World) (hM : l.length = M) (h : 300 < M) (h2 : M ≤ 2000) (HD : Hid (∀ wx, Below w.heap.size w wx → Calls Try.prog 8 #[.agg #[.int .i64 s.st, .int .i64 s.en, .int .i64 s.n, .int .i64 s.unit, .int .i64 s.stub, .int .i64 s.roll, .int .i64 s.conv, .int .i64 s.lag, .int .i64 W, .slice p Nr c]] wx fun e w' => IntsOut l 0 wx e w' ∧ Below wx.heap.size wx w')) :
    Calls Try.prog 4 #[.agg #[.int .i64 s.st, .int .i64 s.en, .int .i64 s.n, .int .i64 s.unit, .int .i64 s.stub, .int .i64 s.roll, .int .i64 s.conv, .int .i64 s.lag, .int .i64 W, .slice p Nr c]] w fun e w' => e = .returned (.bool true) ∧ Below w.heap.size w w' := by
  have HB0 := hideS (SBox.zero w s W (.slice p Nr c))
  unfold IntsOut at HD
  rw [hM] at HD
  have hd : decide ((300 : Int) < (M : Int)) = true := decide_eq_true (by omega)
  clear h hM
  obtain ⟨st, en, n, unit, stub, roll, conv, lag⟩ := s
  dsimp only at *
  go_enter Try.func4, Try.ntmps4
  go_wp2_with (first | (go_at_call 8; refine (HD.out _ HB0.out.below).mono ?_; rintro e w1 ⟨⟨q1, g1, k1, rfl, _, hk1, _⟩, hb1⟩) | (go_at_call 7; refine (awake8 _).mono ?_; rintro e w9 ⟨rfl, hb9⟩))
  go_ret
  exact ⟨rfl, ((HB0.out.step hb1).step hb9).below⟩

set_option maxRecDepth 10000 in
set_option maxHeartbeats 16000000 in
theorem schedSteps_1 (st en n unit roll conv lag W : Int) (p : Option Addr) (Nr c C D : Nat) (l ys : List Int) (w : World) (hl : l.length = C + 2) (hC : C + 2 ≤ 300) (hy : ys.length = D) (hD : D = C + 2 ∨ D + 1 = C + 2)
    (HD : Hid (∀ wx, Below w.heap.size w wx → Calls Try.prog 8 #[.agg #[.int .i64 st, .int .i64 en, .int .i64 n, .int .i64 unit, .int .i64 1, .int .i64 roll, .int .i64 conv, .int .i64 lag, .int .i64 W, .slice p Nr c]] wx fun e w' => IntsOut l 0 wx e w' ∧ Below wx.heap.size wx w'))
    (HP : Hid (∀ i : Nat, 1 ≤ i → i ≤ C → ∀ wx, Below w.heap.size w wx → Calls Try.prog 10 #[.agg #[.int .i64 st, .int .i64 en, .int .i64 n, .int .i64 unit, .int .i64 1, .int .i64 roll, .int .i64 conv, .int .i64 lag, .int .i64 W, .slice p Nr c], .int .i64 en, .int .i64 ((i : Int) + 1 - ((C : Int) + 2))] wx fun e w' => e = .returned (.tuple #[.int .i64 (l.getD i 0), .bool true]) ∧ Below wx.heap.size wx w'))
    (HT : Hid (∀ wx, Below w.heap.size w wx → Calls Try.prog 8 #[.agg #[.int .i64 st, .int .i64 en, .int .i64 n, .int .i64 unit, .int .i64 2, .int .i64 roll, .int .i64 conv, .int .i64 lag, .int .i64 W, .slice p Nr c]] wx fun e w' => IntsOut ys 0 wx e w' ∧ Below wx.heap.size wx w')) :
    Calls Try.prog 4 #[.agg #[.int .i64 st, .int .i64 en, .int .i64 n, .int .i64 unit, .int .i64 1, .int .i64 roll, .int .i64 conv, .int .i64 lag, .int .i64 W, .slice p Nr c]] w fun e w' => e = .returned (.bool true) ∧ Below w.heap.size w w' := by
  have HB0 := hideS (SBox.zero w ⟨st, en, n, unit, 1, roll, conv, lag⟩ W (.slice p Nr c))
  dsimp only at HB0
  have HLen := hideS hl
  unfold IntsOut at HD HT
  rw [hl] at HD
  rw [hy] at HT
  clear hl hy
  obtain ⟨M, hM⟩ : ∃ M : Nat, M = C + 2 := ⟨_, rfl⟩
  rw [← hM] at HD
  have hd : decide ((300 : Int) < (M : Int)) = false := decide_eq_false (by omega)
  go_enter Try.func4, Try.ntmps4
  go_wp2_with fail
  refine (HD.out _ HB0.out.below).mono ?_
  rintro e w1 ⟨⟨q, g, k1, rfl, hs, hk1, _⟩, hb1⟩
  have hq := hs.at_ (by have := HLen.out; omega)
  subst hq
  have HB1 := hideS (HB0.out.step hb1)
  have HS1 := hideS hs
  clear hb1 hs
  obtain ⟨c0, c1, c2, c3, c4, c5, c6, c7, c8, c9⟩ := HB1.out.cells
  go_wp2_with fail
  clear c0 c1 c2 c3 c4 c5 c6 c7 c8 c9
  go_loopw [6] (fun t wr => ∃ (i : Nat), 1 ≤ i ∧ i ≤ C + 1 ∧ t = .int .i64 (i : Int) ∧ Hid (SBox w ⟨st, en, n, unit, 1, roll, conv, lag⟩ W (.slice p Nr c) wr) ∧ Hid (ISrc wr (some ⟨g, 0, none⟩) g 0 l)) (fun t _ => C + 1 - (intOf t).toNat)
  case atStart => exact ⟨1, by omega, by omega, rfl, HB1, HS1⟩
  case round =>
    clear HB1 HS1 HB0
    obtain ⟨i, i0, i1, rfl, HB, HS⟩ := hrel
    obtain ⟨c0, c1, c2, c3, c4, c5, c6, c7, c8, c9⟩ := HB.out.cells
    dsimp only at c0 c1 c2 c3 c4 c5 c6 c7 c8 c9
    have hw1 : IntKind.i64.wrap ((i : Int) + 1) = (i : Int) + 1 := by rw [IntKind.wrap_i64]; omega
    by_cases hlt : i ≤ C
    · have hi : decide ((i : Int) + 1 < (M : Int)) = true := decide_eq_true (by omega)
      have HP1 := hideS (HP.out i i0 hlt)
      have hm2 : (i : Int) < (M : Int) := by omega
      go_wp2_with fail
      refine (HP1.out _ HB.out.below).mono ?_
      rintro e w2 ⟨rfl, hb2⟩
      have HB2 := hideS (HB.out.step hb2)
      have HS2 := hideS (HS.out.below hb2)
      have hx := HS2.out.cell i (by have := HLen.out; omega)
      rw [Nat.zero_add] at hx
      generalize l.getD i 0 = x at *
      clear hb2 c0 c1 c2 c3 c4 c5 c6 c7 c8 c9
      go_wp2_with fail
      go_roundw
      case rel => exact ⟨i + 1, by omega, by omega, by go_num, HB2, HS2⟩
      case measure => simp [intOf]; omega
    · have hi : decide ((i : Int) + 1 < (M : Int)) = false := decide_eq_false (by omega)
      have hlt3 : w.heap.size < wr.heap.size := by have := Below.size HB.out; simp at this; omega
      have hne3 : w.heap.size ≠ wr.heap.size := Nat.ne_of_lt hlt3
      have HBa : Hid (∀ o, SBox w ⟨st, en, n, unit, 1, roll, conv, lag⟩ W (.slice p Nr c) (wr.alloc o)) := fun o => HB.out.step ((Below.refl _ wr).alloc (Nat.le_refl _) o)
      go_wp2_with fail
      refine (HT.out _ (HBa.out _).below).mono ?_
      rintro e w3 ⟨⟨q3, g3, k3, rfl, _, hk3, _⟩, hb3⟩
      have HB3 := hideS ((HBa.out _).step hb3)
      clear hb3 c0 c1 c2 c3 c4 c5 c6 c7 c8 c9
      rcases hD with hD | hD
      · have t1 : ((D : Int) == (M : Int)) = true := beq_iff_eq.2 (by omega)
        go_wp2_with (go_at_call 7; refine (awake8 _).mono ?_; rintro e w9 ⟨rfl, hb9⟩)
        go_ret
        exact ⟨rfl, (HB3.out.step hb9).below⟩
      · have t1 : ((D : Int) == (M : Int)) = false := beq_eq_false_iff_ne.2 (by omega)
        have t2 : ((D : Int) == (M : Int) - 1) = true := beq_iff_eq.2 (by omega)
        go_wp2_with (go_at_call 7; refine (awake8 _).mono ?_; rintro e w9 ⟨rfl, hb9⟩)
        go_ret
        exact ⟨rfl, (HB3.out.step hb9).below⟩

set_option maxRecDepth 10000 in
set_option maxHeartbeats 16000000 in
theorem schedSteps_2 (st en n unit roll conv lag W : Int) (p : Option Addr) (Nr c C : Nat) (l : List Int) (w : World) (hl : l.length = C + 2) (hC : C + 2 ≤ 300) 
    (HD : Hid (∀ wx, Below w.heap.size w wx → Calls Try.prog 8 #[.agg #[.int .i64 st, .int .i64 en, .int .i64 n, .int .i64 unit, .int .i64 2, .int .i64 roll, .int .i64 conv, .int .i64 lag, .int .i64 W, .slice p Nr c]] wx fun e w' => IntsOut l 0 wx e w' ∧ Below wx.heap.size wx w'))
    (HP : Hid (∀ i : Nat, 1 ≤ i → i ≤ C → ∀ wx, Below w.heap.size w wx → Calls Try.prog 10 #[.agg #[.int .i64 st, .int .i64 en, .int .i64 n, .int .i64 unit, .int .i64 2, .int .i64 roll, .int .i64 conv, .int .i64 lag, .int .i64 W, .slice p Nr c], .int .i64 en, .int .i64 ((i : Int) + 1 - ((C : Int) + 2))] wx fun e w' => e = .returned (.tuple #[.int .i64 (l.getD i 0), .bool true]) ∧ Below wx.heap.size wx w')) :
    Calls Try.prog 4 #[.agg #[.int .i64 st, .int .i64 en, .int .i64 n, .int .i64 unit, .int .i64 2, .int .i64 roll, .int .i64 conv, .int .i64 lag, .int .i64 W, .slice p Nr c]] w fun e w' => e = .returned (.bool true) ∧ Below w.heap.size w w' := by
  have HB0 := hideS (SBox.zero w ⟨st, en, n, unit, 2, roll, conv, lag⟩ W (.slice p Nr c))
  dsimp only at HB0
  have HLen := hideS hl
  unfold IntsOut at HD
  rw [hl] at HD
  clear hl
  obtain ⟨M, hM⟩ : ∃ M : Nat, M = C + 2 := ⟨_, rfl⟩
  rw [← hM] at HD
  have hd : decide ((300 : Int) < (M : Int)) = false := decide_eq_false (by omega)
  go_enter Try.func4, Try.ntmps4
  go_wp2_with fail
  refine (HD.out _ HB0.out.below).mono ?_
  rintro e w1 ⟨⟨q, g, k1, rfl, hs, hk1, _⟩, hb1⟩
  have hq := hs.at_ (by have := HLen.out; omega)
  subst hq
  have HB1 := hideS (HB0.out.step hb1)
  have HS1 := hideS hs
  clear hb1 hs
  obtain ⟨c0, c1, c2, c3, c4, c5, c6, c7, c8, c9⟩ := HB1.out.cells
  go_wp2_with fail
  clear c0 c1 c2 c3 c4 c5 c6 c7 c8 c9
  go_loopw [6] (fun t wr => ∃ (i : Nat), 1 ≤ i ∧ i ≤ C + 1 ∧ t = .int .i64 (i : Int) ∧ Hid (SBox w ⟨st, en, n, unit, 2, roll, conv, lag⟩ W (.slice p Nr c) wr) ∧ Hid (ISrc wr (some ⟨g, 0, none⟩) g 0 l)) (fun t _ => C + 1 - (intOf t).toNat)
  case atStart => exact ⟨1, by omega, by omega, rfl, HB1, HS1⟩
  case round =>
    clear HB1 HS1 HB0
    obtain ⟨i, i0, i1, rfl, HB, HS⟩ := hrel
    obtain ⟨c0, c1, c2, c3, c4, c5, c6, c7, c8, c9⟩ := HB.out.cells
    dsimp only at c0 c1 c2 c3 c4 c5 c6 c7 c8 c9
    have hw1 : IntKind.i64.wrap ((i : Int) + 1) = (i : Int) + 1 := by rw [IntKind.wrap_i64]; omega
    by_cases hlt : i ≤ C
    · have hi : decide ((i : Int) + 1 < (M : Int)) = true := decide_eq_true (by omega)
      have HP1 := hideS (HP.out i i0 hlt)
      have hm2 : (i : Int) < (M : Int) := by omega
      go_wp2_with fail
      refine (HP1.out _ HB.out.below).mono ?_
      rintro e w2 ⟨rfl, hb2⟩
      have HB2 := hideS (HB.out.step hb2)
      have HS2 := hideS (HS.out.below hb2)
      have hx := HS2.out.cell i (by have := HLen.out; omega)
      rw [Nat.zero_add] at hx
      generalize l.getD i 0 = x at *
      clear hb2 c0 c1 c2 c3 c4 c5 c6 c7 c8 c9
      go_wp2_with fail
      go_roundw
      case rel => exact ⟨i + 1, by omega, by omega, by go_num, HB2, HS2⟩
      case measure => simp [intOf]; omega
    · have hi : decide ((i : Int) + 1 < (M : Int)) = false := decide_eq_false (by omega)
      have hlt3 : w.heap.size < wr.heap.size := by have := Below.size HB.out; simp at this; omega
      have hne3 : w.heap.size ≠ wr.heap.size := Nat.ne_of_lt hlt3
      go_wp2_with (go_at_call 7; refine (awake8 _).mono ?_; rintro e w9 ⟨rfl, hb9⟩)
      go_ret
      exact ⟨rfl, ((HB.out.step ((Below.refl _ wr).alloc (Nat.le_refl _) _)).step hb9).below⟩

set_option maxRecDepth 10000 in
set_option maxHeartbeats 16000000 in
theorem schedSteps_3 (st en n unit roll conv lag W : Int) (p : Option Addr) (Nr c C D : Nat) (l ys : List Int) (w : World) (hl : l.length = C + 2) (hC : C + 2 ≤ 300) (hy : ys.length = D) (hD : D = C + 2 ∨ D + 1 = C + 2)
    (HD : Hid (∀ wx, Below w.heap.size w wx → Calls Try.prog 8 #[.agg #[.int .i64 st, .int .i64 en, .int .i64 n, .int .i64 unit, .int .i64 3, .int .i64 roll, .int .i64 conv, .int .i64 lag, .int .i64 W, .slice p Nr c]] wx fun e w' => IntsOut l 0 wx e w' ∧ Below wx.heap.size wx w'))
    (HP : Hid (∀ i : Nat, 1 ≤ i → i ≤ C → ∀ wx, Below w.heap.size w wx → Calls Try.prog 10 #[.agg #[.int .i64 st, .int .i64 en, .int .i64 n, .int .i64 unit, .int .i64 3, .int .i64 roll, .int .i64 conv, .int .i64 lag, .int .i64 W, .slice p Nr c], .int .i64 st, .int .i64 (i : Int)] wx fun e w' => e = .returned (.tuple #[.int .i64 (l.getD i 0), .bool true]) ∧ Below wx.heap.size wx w'))
    (HT : Hid (∀ wx, Below w.heap.size w wx → Calls Try.prog 8 #[.agg #[.int .i64 st, .int .i64 en, .int .i64 n, .int .i64 unit, .int .i64 4, .int .i64 roll, .int .i64 conv, .int .i64 lag, .int .i64 W, .slice p Nr c]] wx fun e w' => IntsOut ys 0 wx e w' ∧ Below wx.heap.size wx w')) :
    Calls Try.prog 4 #[.agg #[.int .i64 st, .int .i64 en, .int .i64 n, .int .i64 unit, .int .i64 3, .int .i64 roll, .int .i64 conv, .int .i64 lag, .int .i64 W, .slice p Nr c]] w fun e w' => e = .returned (.bool true) ∧ Below w.heap.size w w' := by
  have HB0 := hideS (SBox.zero w ⟨st, en, n, unit, 3, roll, conv, lag⟩ W (.slice p Nr c))
  dsimp only at HB0
  have HLen := hideS hl
  unfold IntsOut at HD HT
  rw [hl] at HD
  rw [hy] at HT
  clear hl hy
  obtain ⟨M, hM⟩ : ∃ M : Nat, M = C + 2 := ⟨_, rfl⟩
  rw [← hM] at HD
  have hd : decide ((300 : Int) < (M : Int)) = false := decide_eq_false (by omega)
  go_enter Try.func4, Try.ntmps4
  go_wp2_with fail
  refine (HD.out _ HB0.out.below).mono ?_
  rintro e w1 ⟨⟨q, g, k1, rfl, hs, hk1, _⟩, hb1⟩
  have hq := hs.at_ (by have := HLen.out; omega)
  subst hq
  have HB1 := hideS (HB0.out.step hb1)
  have HS1 := hideS hs
  clear hb1 hs
  obtain ⟨c0, c1, c2, c3, c4, c5, c6, c7, c8, c9⟩ := HB1.out.cells
  go_wp2_with fail
  clear c0 c1 c2 c3 c4 c5 c6 c7 c8 c9
  go_loopw [6] (fun t wr => ∃ (i : Nat), 1 ≤ i ∧ i ≤ C + 1 ∧ t = .int .i64 (i : Int) ∧ Hid (SBox w ⟨st, en, n, unit, 3, roll, conv, lag⟩ W (.slice p Nr c) wr) ∧ Hid (ISrc wr (some ⟨g, 0, none⟩) g 0 l)) (fun t _ => C + 1 - (intOf t).toNat)
  case atStart => exact ⟨1, by omega, by omega, rfl, HB1, HS1⟩
  case round =>
    clear HB1 HS1 HB0
    obtain ⟨i, i0, i1, rfl, HB, HS⟩ := hrel
    obtain ⟨c0, c1, c2, c3, c4, c5, c6, c7, c8, c9⟩ := HB.out.cells
    dsimp only at c0 c1 c2 c3 c4 c5 c6 c7 c8 c9
    have hw1 : IntKind.i64.wrap ((i : Int) + 1) = (i : Int) + 1 := by rw [IntKind.wrap_i64]; omega
    by_cases hlt : i ≤ C
    · have hi : decide ((i : Int) + 1 < (M : Int)) = true := decide_eq_true (by omega)
      have HP1 := hideS (HP.out i i0 hlt)
      have hm2 : (i : Int) < (M : Int) := by omega
      go_wp2_with fail
      refine (HP1.out _ HB.out.below).mono ?_
      rintro e w2 ⟨rfl, hb2⟩
      have HB2 := hideS (HB.out.step hb2)
      have HS2 := hideS (HS.out.below hb2)
      have hx := HS2.out.cell i (by have := HLen.out; omega)
      rw [Nat.zero_add] at hx
      generalize l.getD i 0 = x at *
      clear hb2 c0 c1 c2 c3 c4 c5 c6 c7 c8 c9
      go_wp2_with fail
      go_roundw
      case rel => exact ⟨i + 1, by omega, by omega, by go_num, HB2, HS2⟩
      case measure => simp [intOf]; omega
    · have hi : decide ((i : Int) + 1 < (M : Int)) = false := decide_eq_false (by omega)
      have hlt3 : w.heap.size < wr.heap.size := by have := Below.size HB.out; simp at this; omega
      have hne3 : w.heap.size ≠ wr.heap.size := Nat.ne_of_lt hlt3
      have HBa : Hid (∀ o, SBox w ⟨st, en, n, unit, 3, roll, conv, lag⟩ W (.slice p Nr c) (wr.alloc o)) := fun o => HB.out.step ((Below.refl _ wr).alloc (Nat.le_refl _) o)
      go_wp2_with fail
      refine (HT.out _ (HBa.out _).below).mono ?_
      rintro e w3 ⟨⟨q3, g3, k3, rfl, _, hk3, _⟩, hb3⟩
      have HB3 := hideS ((HBa.out _).step hb3)
      clear hb3 c0 c1 c2 c3 c4 c5 c6 c7 c8 c9
      rcases hD with hD | hD
      · have t1 : ((D : Int) == (M : Int)) = true := beq_iff_eq.2 (by omega)
        go_wp2_with (go_at_call 7; refine (awake8 _).mono ?_; rintro e w9 ⟨rfl, hb9⟩)
        go_ret
        exact ⟨rfl, (HB3.out.step hb9).below⟩
      · have t1 : ((D : Int) == (M : Int)) = false := beq_eq_false_iff_ne.2 (by omega)
        have t2 : ((D : Int) == (M : Int) - 1) = true := beq_iff_eq.2 (by omega)
        go_wp2_with (go_at_call 7; refine (awake8 _).mono ?_; rintro e w9 ⟨rfl, hb9⟩)
        go_ret
        exact ⟨rfl, (HB3.out.step hb9).below⟩

set_option maxRecDepth 10000 in
set_option maxHeartbeats 16000000 in
theorem schedSteps_4 (st en n unit roll conv lag W : Int) (p : Option Addr) (Nr c C : Nat) (l : List Int) (w : World) (hl : l.length = C + 2) (hC : C + 2 ≤ 300) 
    (HD : Hid (∀ wx, Below w.heap.size w wx → Calls Try.prog 8 #[.agg #[.int .i64 st, .int .i64 en, .int .i64 n, .int .i64 unit, .int .i64 4, .int .i64 roll, .int .i64 conv, .int .i64 lag, .int .i64 W, .slice p Nr c]] wx fun e w' => IntsOut l 0 wx e w' ∧ Below wx.heap.size wx w'))
    (HP : Hid (∀ i : Nat, 1 ≤ i → i ≤ C → ∀ wx, Below w.heap.size w wx → Calls Try.prog 10 #[.agg #[.int .i64 st, .int .i64 en, .int .i64 n, .int .i64 unit, .int .i64 4, .int .i64 roll, .int .i64 conv, .int .i64 lag, .int .i64 W, .slice p Nr c], .int .i64 st, .int .i64 (i : Int)] wx fun e w' => e = .returned (.tuple #[.int .i64 (l.getD i 0), .bool true]) ∧ Below wx.heap.size wx w')) :
    Calls Try.prog 4 #[.agg #[.int .i64 st, .int .i64 en, .int .i64 n, .int .i64 unit, .int .i64 4, .int .i64 roll, .int .i64 conv, .int .i64 lag, .int .i64 W, .slice p Nr c]] w fun e w' => e = .returned (.bool true) ∧ Below w.heap.size w w' := by
  have HB0 := hideS (SBox.zero w ⟨st, en, n, unit, 4, roll, conv, lag⟩ W (.slice p Nr c))
  dsimp only at HB0
  have HLen := hideS hl
  unfold IntsOut at HD
  rw [hl] at HD
  clear hl
  obtain ⟨M, hM⟩ : ∃ M : Nat, M = C + 2 := ⟨_, rfl⟩
  rw [← hM] at HD
  have hd : decide ((300 : Int) < (M : Int)) = false := decide_eq_false (by omega)
  go_enter Try.func4, Try.ntmps4
  go_wp2_with fail
  refine (HD.out _ HB0.out.below).mono ?_
  rintro e w1 ⟨⟨q, g, k1, rfl, hs, hk1, _⟩, hb1⟩
  have hq := hs.at_ (by have := HLen.out; omega)
  subst hq
  have HB1 := hideS (HB0.out.step hb1)
  have HS1 := hideS hs
  clear hb1 hs
  obtain ⟨c0, c1, c2, c3, c4, c5, c6, c7, c8, c9⟩ := HB1.out.cells
  go_wp2_with fail
  clear c0 c1 c2 c3 c4 c5 c6 c7 c8 c9
  go_loopw [6] (fun t wr => ∃ (i : Nat), 1 ≤ i ∧ i ≤ C + 1 ∧ t = .int .i64 (i : Int) ∧ Hid (SBox w ⟨st, en, n, unit, 4, roll, conv, lag⟩ W (.slice p Nr c) wr) ∧ Hid (ISrc wr (some ⟨g, 0, none⟩) g 0 l)) (fun t _ => C + 1 - (intOf t).toNat)
  case atStart => exact ⟨1, by omega, by omega, rfl, HB1, HS1⟩
  case round =>
    clear HB1 HS1 HB0
    obtain ⟨i, i0, i1, rfl, HB, HS⟩ := hrel
    obtain ⟨c0, c1, c2, c3, c4, c5, c6, c7, c8, c9⟩ := HB.out.cells
    dsimp only at c0 c1 c2 c3 c4 c5 c6 c7 c8 c9
    have hw1 : IntKind.i64.wrap ((i : Int) + 1) = (i : Int) + 1 := by rw [IntKind.wrap_i64]; omega
    by_cases hlt : i ≤ C
    · have hi : decide ((i : Int) + 1 < (M : Int)) = true := decide_eq_true (by omega)
      have HP1 := hideS (HP.out i i0 hlt)
      have hm2 : (i : Int) < (M : Int) := by omega
      go_wp2_with fail
      refine (HP1.out _ HB.out.below).mono ?_
      rintro e w2 ⟨rfl, hb2⟩
      have HB2 := hideS (HB.out.step hb2)
      have HS2 := hideS (HS.out.below hb2)
      have hx := HS2.out.cell i (by have := HLen.out; omega)
      rw [Nat.zero_add] at hx
      generalize l.getD i 0 = x at *
      clear hb2 c0 c1 c2 c3 c4 c5 c6 c7 c8 c9
      go_wp2_with fail
      go_roundw
      case rel => exact ⟨i + 1, by omega, by omega, by go_num, HB2, HS2⟩
      case measure => simp [intOf]; omega
    · have hi : decide ((i : Int) + 1 < (M : Int)) = false := decide_eq_false (by omega)
      have hlt3 : w.heap.size < wr.heap.size := by have := Below.size HB.out; simp at this; omega
      have hne3 : w.heap.size ≠ wr.heap.size := Nat.ne_of_lt hlt3
      go_wp2_with (go_at_call 7; refine (awake8 _).mono ?_; rintro e w9 ⟨rfl, hb9⟩)
      go_ret
      exact ⟨rfl, ((HB.out.step ((Below.refl _ wr).alloc (Nat.le_refl _) _)).step hb9).below⟩

end Go.Proofs.Ytelghkhcplmnmaa
