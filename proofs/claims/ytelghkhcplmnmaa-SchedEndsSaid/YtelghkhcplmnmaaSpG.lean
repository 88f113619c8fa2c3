/- The contract of sched's Dates, forth. -/
import Derived.Test.YtelghkhcplmnmaaSpE
namespace Go.Proofs.Ytelghkhcplmnmaa
open Go.RowKit

set_option maxRecDepth 10000 in
set_option maxHeartbeats 16000000 in
theorem schDates_fore (s : Spc) (W : Int) (v : Value) (K C : Nat) (il : Nat → List Int) (ev : Bool) (L : List Int) (w : World) (H : Hid (DatP s W v K C il ev false L w)) (hK : K < 1200)
    (hst : (s.stub = 3 ∧ C = K) ∨ (s.stub = 4 ∧ ev = true ∧ C = K) ∨ (s.stub = 4 ∧ ev = false ∧ K = 0 ∧ C = K) ∨ (s.stub = 4 ∧ ev = false ∧ 0 < K ∧ K = C + 1)) :
    Calls Try.prog 8 #[.agg #[.int .i64 s.st, .int .i64 s.en, .int .i64 s.n, .int .i64 s.unit, .int .i64 s.stub, .int .i64 s.roll, .int .i64 s.conv, .int .i64 s.lag, .int .i64 W, v]] w fun e w' => DatQ s.st s.en K C L w e w' ∧ Below w.heap.size w w' := by
  have HB0 := hideS (SBox.zero w s W v)
  have HCh := hideS H.out.chk
  have HBt : Hid (∀ wx, Calls Try.prog 16 #[.agg #[.int .i64 s.st, .int .i64 s.en, .int .i64 s.n, .int .i64 s.unit, .int .i64 s.stub, .int .i64 s.roll, .int .i64 s.conv, .int .i64 s.lag, .int .i64 W, v]] wx fun e w' => (∃ q c, e = .returned (.tuple #[.slice q K c, .bool ev, .int .i64 0]) ∧ w'.ownsRow (wx.heap.size + 1) 3 1 (.slice q K c) K ((il K).map iV)) ∧ Below wx.heap.size wx w') := fun wx => (H.out.bet wx).mono fun e w' ⟨a, b⟩ => ⟨by rcases a with ⟨a, _⟩ | ⟨_, a⟩; omega; exact a, b⟩
  have HSF := hideS H.out.stf
  have HLn := hideS H.out.len
  have hCK : C ≤ K := by omega
  have HPre := hideS (H.out.pre hCK)
  have HLs := hideS H.out.lst
  have HLL : Hid (L.length = C) := by
    show _ = _
    rw [HLs.out]
    simp [HLn.out C]
  have HKl := hideS hK
  clear H
  obtain ⟨st, en, n, unit, stub, roll, conv, lag⟩ := s
  dsimp only at *
  have HTail : Hid (∀ (wE : World) (b0 : Nat) (u : Value), wE.ownsRow b0 3 1 u (C + 2) ((st :: (L ++ [en])).map iV) → w.heap.size ≤ b0 → DatQ st en K C L w (.returned (.tuple #[u, .int .i64 0])) wE) := fun wE b0 u ho hb => Or.inr ⟨HKl.out, u, rfl, iown_mono ho hb⟩
  rcases hst with ⟨rfl, hC⟩ | ⟨rfl, rfl, hC⟩ | ⟨rfl, rfl, hK0, hC⟩ | ⟨rfl, rfl, hK0, hC⟩
  all_goals
    first | (have hC' := hC.symm; clear hC; subst hC') | subst hC
    go_enter Try.func8, Try.ntmps8
    go_wp2_with fail
    refine (HCh.out _ HB0.out.below).mono ?_
    rintro e w1 ⟨rfl, hb1⟩
    have HB1 := hideS (HB0.out.step hb1)
    clear hb1
    obtain ⟨c0, c1, c2, c3, c4, c5, c6, c7, c8, c9⟩ := HB1.out.cells
    go_wp2_with fail
    refine (HBt.out _).mono ?_
    rintro e w2 ⟨⟨q, c, rfl, ho⟩, hb2⟩
    have HB2 := hideS (HB1.out.step hb2)
    have hs1 : w.heap.size + 1 ≤ w1.heap.size := by have := Below.size HB1.out; simp at this; omega
    clear hb2 c0 c1 c2 c3 c4 c5 c6 c7 c8 c9
    have hk := iown_kinds ho (HLn.out _)
    clear ho HB1 HB0
    obtain ⟨c0, c1, c2, c3, c4, c5, c6, c7, c8, c9⟩ := HB2.out.cells
    rcases hk with ⟨rfl, hk0, rfl⟩ | ⟨g, rfl, hg0, hg1, hKc, hc, hrow⟩
    all_goals first | (exfalso; omega) | skip
  · subst hk0
    go_wp2_with fail
    refine (HSF.out _).mono ?_
    rintro e w3 ⟨rfl, hb3⟩
    have HB3 := hideS (HB2.out.step hb3)
    have hz2 := HB2.out.below.size
    have hz3 := Below.size HB3.out
    have hlt3 : w.heap.size < w3.heap.size := by simp at hz3; omega
    have hne3 : w.heap.size ≠ w3.heap.size := Nat.ne_of_lt hlt3
    clear hz3 hb3 c0 c1 c2 c3 c4 c5 c6 c7 c8 c9
    obtain ⟨c0, c1, c2, c3, c4, c5, c6, c7, c8, c9⟩ := HB3.out.cells
    have HSr : Hid (ISrc w3 none 0 0 L) := ⟨fun h => by have := HLL.out; omega, fun h => by have := HLL.out; omega, fun j hj => by have := HLL.out; omega⟩
    have HW4 := hideS HB3.out
    go_wp2_with fail
    refine (concat_three _ _ _ 0 none 0 0 st en L _ (concS_new w3 st en none 0 0 0 L HSr.out) HLL.out (fun _ => ⟨rfl, rfl⟩) (by omega)).mono ?_
    rintro e w5 ⟨⟨u, rfl, ho5⟩, hb5⟩
    have HO5 := hideS ho5
    have HB5 : Hid (Below w.heap.size w w5) := ((HW4.out.step (three_below _ _ _ _)).step hb5).below
    clear ho5 hb5 c0 c1 c2 c3 c4 c5 c6 c7 c8 c9
    go_wp2_with fail
    go_ret2
    exact ⟨HTail.out _ _ _ HO5.out (by simp; omega), HB5.out⟩
  · go_wp2_with fail
    refine (HSF.out _).mono ?_
    rintro e w3 ⟨rfl, hb3⟩
    have HB3 := hideS (HB2.out.step hb3)
    have HR3 : Hid (RowR w3 g (il K)) := hrow.stay hb3 hg1
    have hz2 := HB2.out.below.size
    have hz3 := Below.size HB3.out
    have hlt3 : w.heap.size < w3.heap.size := by simp at hz3; omega
    have hne3 : w.heap.size ≠ w3.heap.size := Nat.ne_of_lt hlt3
    clear hz3 hb3 c0 c1 c2 c3 c4 c5 c6 c7 c8 c9
    clear hrow
    obtain ⟨c0, c1, c2, c3, c4, c5, c6, c7, c8, c9⟩ := HB3.out.cells
    have HW4 := hideS HB3.out
    have HSr : Hid (ISrc w3 (some ⟨g, 0, none⟩) g 0 L) := by show ISrc _ _ _ _ _; rw [HLs.out]; exact HR3.out.src
    go_wp2_with fail
    refine (concat_three _ _ _ g (some ⟨g, 0, none⟩) K c st en L _ (concS_new w3 st en (some ⟨g, 0, none⟩) g K c L HSr.out) HLL.out (fun e => by cases e) (by omega)).mono ?_
    rintro e w5 ⟨⟨u, rfl, ho5⟩, hb5⟩
    have HO5 := hideS ho5
    have HB5 : Hid (Below w.heap.size w w5) := ((HW4.out.step (three_below _ _ _ _)).step hb5).below
    clear ho5 hb5 c0 c1 c2 c3 c4 c5 c6 c7 c8 c9
    go_wp2_with fail
    go_ret2
    exact ⟨HTail.out _ _ _ HO5.out (by simp; omega), HB5.out⟩
  · subst hk0
    go_wp2_with fail
    refine (HSF.out _).mono ?_
    rintro e w3 ⟨rfl, hb3⟩
    have HB3 := hideS (HB2.out.step hb3)
    have hz2 := HB2.out.below.size
    have hz3 := Below.size HB3.out
    have hlt3 : w.heap.size < w3.heap.size := by simp at hz3; omega
    have hne3 : w.heap.size ≠ w3.heap.size := Nat.ne_of_lt hlt3
    clear hz3 hb3 c0 c1 c2 c3 c4 c5 c6 c7 c8 c9
    obtain ⟨c0, c1, c2, c3, c4, c5, c6, c7, c8, c9⟩ := HB3.out.cells
    have HSr : Hid (ISrc w3 none 0 0 L) := ⟨fun h => by have := HLL.out; omega, fun h => by have := HLL.out; omega, fun j hj => by have := HLL.out; omega⟩
    have HW4 := hideS HB3.out
    go_wp2_with fail
    refine (concat_three _ _ _ 0 none 0 0 st en L _ (concS_new w3 st en none 0 0 0 L HSr.out) HLL.out (fun _ => ⟨rfl, rfl⟩) (by omega)).mono ?_
    rintro e w5 ⟨⟨u, rfl, ho5⟩, hb5⟩
    have HO5 := hideS ho5
    have HB5 : Hid (Below w.heap.size w w5) := ((HW4.out.step (three_below _ _ _ _)).step hb5).below
    clear ho5 hb5 c0 c1 c2 c3 c4 c5 c6 c7 c8 c9
    go_wp2_with fail
    go_ret2
    exact ⟨HTail.out _ _ _ HO5.out (by simp; omega), HB5.out⟩
  · go_wp2_with fail
    refine (HSF.out _).mono ?_
    rintro e w3 ⟨rfl, hb3⟩
    have HB3 := hideS (HB2.out.step hb3)
    have HR3 : Hid (RowR w3 g (il K)) := hrow.stay hb3 hg1
    have hz2 := HB2.out.below.size
    have hz3 := Below.size HB3.out
    have hlt3 : w.heap.size < w3.heap.size := by simp at hz3; omega
    have hne3 : w.heap.size ≠ w3.heap.size := Nat.ne_of_lt hlt3
    clear hz3 hb3 c0 c1 c2 c3 c4 c5 c6 c7 c8 c9
    clear hrow
    obtain ⟨c0, c1, c2, c3, c4, c5, c6, c7, c8, c9⟩ := HB3.out.cells
    have HW4 := hideS HB3.out
    have HSr : Hid (ISrc w3 (some ⟨g, 0, none⟩) g 0 L) := by show ISrc _ _ _ _ _; rw [HLs.out]; exact HR3.out.src
    go_wp2_with fail
    refine (concat_three _ _ _ g (some ⟨g, 0, none⟩) K c st en L _ (concS_new w3 st en (some ⟨g, 0, none⟩) g K c L HSr.out) HLL.out (fun e => by cases e) (by omega)).mono ?_
    rintro e w5 ⟨⟨u, rfl, ho5⟩, hb5⟩
    have HO5 := hideS ho5
    have HB5 : Hid (Below w.heap.size w w5) := ((HW4.out.step (three_below _ _ _ _)).step hb5).below
    clear ho5 hb5 c0 c1 c2 c3 c4 c5 c6 c7 c8 c9
    go_wp2_with fail
    go_ret2
    exact ⟨HTail.out _ _ _ HO5.out (by simp; omega), HB5.out⟩
  · subst hk0
    go_wp2_with fail
    refine (HSF.out _).mono ?_
    rintro e w3 ⟨rfl, hb3⟩
    have HB3 := hideS (HB2.out.step hb3)
    have hz2 := HB2.out.below.size
    have hz3 := Below.size HB3.out
    have hlt3 : w.heap.size < w3.heap.size := by simp at hz3; omega
    have hne3 : w.heap.size ≠ w3.heap.size := Nat.ne_of_lt hlt3
    clear hz3 hb3 c0 c1 c2 c3 c4 c5 c6 c7 c8 c9
    obtain ⟨c0, c1, c2, c3, c4, c5, c6, c7, c8, c9⟩ := HB3.out.cells
    have HSr : Hid (ISrc w3 none 0 0 L) := ⟨fun h => by have := HLL.out; omega, fun h => by have := HLL.out; omega, fun j hj => by have := HLL.out; omega⟩
    have HW4 := hideS HB3.out
    go_wp2_with fail
    refine (concat_three _ _ _ 0 none 0 0 st en L _ (concS_new w3 st en none 0 0 0 L HSr.out) HLL.out (fun _ => ⟨rfl, rfl⟩) (by omega)).mono ?_
    rintro e w5 ⟨⟨u, rfl, ho5⟩, hb5⟩
    have HO5 := hideS ho5
    have HB5 : Hid (Below w.heap.size w w5) := ((HW4.out.step (three_below _ _ _ _)).step hb5).below
    clear ho5 hb5 c0 c1 c2 c3 c4 c5 c6 c7 c8 c9
    go_wp2_with fail
    go_ret2
    exact ⟨HTail.out _ _ _ HO5.out (by simp; omega), HB5.out⟩
  · subst hK0
    go_wp2_with fail
    refine (HSF.out _).mono ?_
    rintro e w3 ⟨rfl, hb3⟩
    have HB3 := hideS (HB2.out.step hb3)
    have HR3 : Hid (RowR w3 g (il 0)) := hrow.stay hb3 hg1
    have hz2 := HB2.out.below.size
    have hz3 := Below.size HB3.out
    have hlt3 : w.heap.size < w3.heap.size := by simp at hz3; omega
    have hne3 : w.heap.size ≠ w3.heap.size := Nat.ne_of_lt hlt3
    clear hz3 hb3 c0 c1 c2 c3 c4 c5 c6 c7 c8 c9
    clear hrow
    obtain ⟨c0, c1, c2, c3, c4, c5, c6, c7, c8, c9⟩ := HB3.out.cells
    have HW4 := hideS HB3.out
    have HSr : Hid (ISrc w3 (some ⟨g, 0, none⟩) g 0 L) := by show ISrc _ _ _ _ _; rw [HLs.out]; exact HR3.out.src
    go_wp2_with fail
    refine (concat_three _ _ _ g (some ⟨g, 0, none⟩) 0 c st en L _ (concS_new w3 st en (some ⟨g, 0, none⟩) g 0 c L HSr.out) HLL.out (fun e => by cases e) (by omega)).mono ?_
    rintro e w5 ⟨⟨u, rfl, ho5⟩, hb5⟩
    have HO5 := hideS ho5
    have HB5 : Hid (Below w.heap.size w w5) := ((HW4.out.step (three_below _ _ _ _)).step hb5).below
    clear ho5 hb5 c0 c1 c2 c3 c4 c5 c6 c7 c8 c9
    go_wp2_with fail
    go_ret2
    exact ⟨HTail.out _ _ _ HO5.out (by simp; omega), HB5.out⟩
  · have hpos : decide ((0 : Int) < ((C + 1 : Nat) : Int)) = true := decide_eq_true (by omega)
    go_wp2_with fail
    refine (HSF.out _).mono ?_
    rintro e w3 ⟨rfl, hb3⟩
    have HB3 := hideS (HB2.out.step hb3)
    have HR3 : Hid (RowR w3 g (il C)) := (hrow.pre (by have a1 := HLn.out C; have a2 := HLn.out (C + 1); omega) (fun j hj => HPre.out j (by rw [HLn.out] at hj; exact hj))).stay hb3 hg1
    have hz2 := HB2.out.below.size
    have hz3 := Below.size HB3.out
    have hlt3 : w.heap.size < w3.heap.size := by simp at hz3; omega
    have hne3 : w.heap.size ≠ w3.heap.size := Nat.ne_of_lt hlt3
    clear hz3 hb3 c0 c1 c2 c3 c4 c5 c6 c7 c8 c9
    clear hrow
    obtain ⟨c0, c1, c2, c3, c4, c5, c6, c7, c8, c9⟩ := HB3.out.cells
    have HW4 := hideS HB3.out
    have HSr : Hid (ISrc w3 (some ⟨g, 0, none⟩) g 0 L) := by show ISrc _ _ _ _ _; rw [HLs.out]; exact HR3.out.src
    go_wp2_with fail
    refine (concat_three _ _ _ g (some ⟨g, 0, none⟩) C c st en L _ (concS_new w3 st en (some ⟨g, 0, none⟩) g C c L HSr.out) HLL.out (fun e => by cases e) (by omega)).mono ?_
    rintro e w5 ⟨⟨u, rfl, ho5⟩, hb5⟩
    have HO5 := hideS ho5
    have HB5 : Hid (Below w.heap.size w w5) := ((HW4.out.step (three_below _ _ _ _)).step hb5).below
    clear ho5 hb5 c0 c1 c2 c3 c4 c5 c6 c7 c8 c9
    go_wp2_with fail
    go_ret2
    exact ⟨HTail.out _ _ _ HO5.out (by simp; omega), HB5.out⟩
end Go.Proofs.Ytelghkhcplmnmaa
