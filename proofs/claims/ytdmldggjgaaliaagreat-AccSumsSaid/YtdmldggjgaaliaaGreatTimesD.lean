/- The contract of the document's Times. -/
import Derived.Test.YtdmldggjgaaliaaGreatPlusF
import Derived.Test.YtdmldggjgaaliaaGreatMulD
namespace Go.Proofs.YtdmldggjgaaliaaGreat
open Go.RowKit

theorem sg_mul (nx ny : Bool) (X Y : Nat) : sg (nx != ny) (X * Y) = sg nx X * sg ny Y := by
  cases nx <;> cases ny <;> simp [sg, Int.natCast_mul, Int.neg_mul, Int.mul_neg]
theorem six_set {w : World} {B : Nat} {nx ny : Bool} {vx vy : Value} {ex ey : Int} (h : Six w B nx vx ex ny vy ey) (i : Nat) (x : Value) : Six (w.setCell ⟨B + 1 + 1, i, none⟩ x) B nx vx ex ny vy ey := by
  obtain ⟨a, b, c, d, e, f⟩ := h
  have n0 : B + 1 + 1 ≠ B := by omega
  have n1 : B + 1 + 1 ≠ B + 1 := by omega
  exact ⟨(World.cell?_setCell_far w ⟨B + 1 + 1, i, none⟩ ⟨B, 0, none⟩ x n0).trans a, (World.cell?_setCell_far w ⟨B + 1 + 1, i, none⟩ ⟨B, 1, none⟩ x n0).trans b, (World.cell?_setCell_far w ⟨B + 1 + 1, i, none⟩ ⟨B, 2, none⟩ x n0).trans c, (World.cell?_setCell_far w ⟨B + 1 + 1, i, none⟩ ⟨B + 1, 0, none⟩ x n1).trans d, (World.cell?_setCell_far w ⟨B + 1 + 1, i, none⟩ ⟨B + 1, 1, none⟩ x n1).trans e, (World.cell?_setCell_far w ⟨B + 1 + 1, i, none⟩ ⟨B + 1, 2, none⟩ x n1).trans f⟩

set_option maxHeartbeats 1600000 in
theorem times_none (nx ny : Bool) (vx vy : Value) (ex ey : Int) (X Y : Nat) (w : World) (hX : DN w vx X) (hY : DN w vy Y) (h0 : X = 0 ∨ Y = 0) :
    Calls Tryz.prog 48 #[.agg #[.bool nx, vx, .int .i64 ex], .agg #[.bool ny, vy, .int .i64 ey]] w (PlusEnd w (ex + ey) 0) := by
  have HB0 := hide (pbox_below w nx vx ex ny vy ey)
  have HZ := hide (pbox_size w nx vx ex ny vy ey)
  have H60 := hide (pbox_six w nx vx ex ny vy ey)
  have HX0 := hide (hX.below HB0.out)
  have HY0 := hide (hY.below HB0.out)
  have HC := hide h0
  clear hX hY h0
  by_cases h0 : X = 0
  · subst h0
    clear HC
    go_enter Tryz.func48, Tryz.ntmps48
    go_wp2_with fail
    refine (zero_at _ _ _ 0 true _ HX0.out rfl).mono ?_
    rintro x w1 ⟨rfl, hb1⟩
    have HB1 : Hid (Below (w.heap.size + 3) (pbox w nx vx ex ny vy ey) w1) := hb1.mono (by rw [HZ.out]; omega)
    obtain ⟨⟨r0, r1, r2⟩, f0, f1, f2⟩ := pbox_res HB1.out
    clear hb1
    go_wp2_with fail
    exact bodyPost_ret (v := .agg #[.bool false, .slice none 0 0, .int .i64 0]) (by simp [results, Tryz.results48, go_sem, r0, r1, r2]) rfl (plus_none HB1.out rfl)
  · have hy : Y = 0 := by
      rcases HC.out with h | h
      · exact absurd h h0
      · exact h
    subst hy
    have HX := hide h0
    clear HC h0
    go_enter Tryz.func48, Tryz.ntmps48
    go_wp2_with fail
    refine (zero_at _ _ _ X false _ HX0.out (decide_eq_false HX.out)).mono ?_
    rintro x w1 ⟨rfl, hb1⟩
    have HB1 : Hid (Below (w.heap.size + 3) (pbox w nx vx ex ny vy ey) w1) := hb1.mono (by rw [HZ.out]; omega)
    have hz1 : w.heap.size + 3 ≤ w1.heap.size := by have h9 := hb1.size; rw [HZ.out] at h9; exact h9
    have HY1 := hide (HY0.out.below hb1)
    obtain ⟨c0, c1, c2, c3, c4, c5⟩ := H60.out.below hb1 (by rw [HZ.out]; omega)
    clear hb1
    go_wp2_with fail
    refine (zero_at _ _ _ 0 true _ HY1.out rfl).mono ?_
    rintro x w2 ⟨rfl, hb2⟩
    have HB2 := hide (HB1.out.trans (hb2.mono hz1))
    obtain ⟨⟨r0, r1, r2⟩, f0, f1, f2⟩ := pbox_res HB2.out
    clear hb2 c0 c1 c2 c3 c4 c5
    go_wp2_with fail
    exact bodyPost_ret (v := .agg #[.bool false, .slice none 0 0, .int .i64 0]) (by simp [results, Tryz.results48, go_sem, r0, r1, r2]) rfl (plus_none HB2.out rfl)

set_option maxHeartbeats 1600000 in
theorem times_some (nx ny : Bool) (g f c d : Nat) (ex ey : Int) (m n X Y : Nat) (w : World) (hX0 : X ≠ 0) (hY0 : Y ≠ 0)
    (hX : DN w (.slice (some ⟨g, 0, none⟩) m c) X) (hY : DN w (.slice (some ⟨f, 0, none⟩) n d) Y) (hrX : Hid (RowIs w g m X)) (hrY : Hid (RowIs w f n Y)) (hg : g < w.heap.size) (hf : f < w.heap.size) (hm : m ≤ 1000000) (hn : n ≤ 1000000) (hX1 : Hid (X < 2 ^ (32 * m))) (hY1 : Hid (Y < 2 ^ (32 * n)))
    (he : -10000000 ≤ ex) (he' : ex ≤ 10000000) (hf1 : -10000000 ≤ ey) (hf' : ey ≤ 10000000) :
    Calls Tryz.prog 48 #[.agg #[.bool nx, .slice (some ⟨g, 0, none⟩) m c, .int .i64 ex], .agg #[.bool ny, .slice (some ⟨f, 0, none⟩) n d, .int .i64 ey]] w (PlusEnd w (ex + ey) (sg nx X * sg ny Y)) := by
  have HMul := hide fun w' (hb' : Below w.heap.size w w') => mulDigits_row g f c d m n X Y w' (hrX.out.below hg hb') (hrY.out.below hf hb') (Nat.lt_of_lt_of_le hg hb'.size) (Nat.lt_of_lt_of_le hf hb'.size) hm hn hX1 hY1
  clear hrX hrY hX1 hY1 hg hf
  generalize hvx : Value.slice (some ⟨g, 0, none⟩) m c = vx at *
  generalize hvy : Value.slice (some ⟨f, 0, none⟩) n d = vy at *
  clear hvx hvy
  have HB0 := hide (pbox_below w nx vx ex ny vy ey)
  have HZ := hide (pbox_size w nx vx ex ny vy ey)
  have H60 := hide (pbox_six w nx vx ex ny vy ey)
  have HX0 := hide (hX.below HB0.out)
  have HY0 := hide (hY.below HB0.out)
  have HXn := hide hX0
  have HYn := hide hY0
  have w1 : IntKind.i64.wrap (ex + ey) = ex + ey := by rw [IntKind.wrap_i64]; omega
  clear hX hY hX0 hY0
  go_enter Tryz.func48, Tryz.ntmps48
  go_wp2_with fail
  refine (zero_at _ _ _ X false _ HX0.out (decide_eq_false HXn.out)).mono ?_
  rintro x w1 ⟨rfl, hb1⟩
  have HB1 : Hid (Below (w.heap.size + 3) (pbox w nx vx ex ny vy ey) w1) := hb1.mono (by rw [HZ.out]; omega)
  have hz1 : w.heap.size + 3 ≤ w1.heap.size := by have h9 := hb1.size; rw [HZ.out] at h9; exact h9
  have HY1 := hide (HY0.out.below hb1)
  have H61 := hide (H60.out.below hb1 (by rw [HZ.out]; omega))
  obtain ⟨c0, c1, c2, c3, c4, c5⟩ := H61.out
  clear hb1
  go_wp2_with fail
  refine (zero_at _ _ _ Y false _ HY1.out (decide_eq_false HYn.out)).mono ?_
  rintro x w2 ⟨rfl, hb2⟩
  have HB2 := hide (HB1.out.trans (hb2.mono hz1))
  have hz2 : w.heap.size + 3 ≤ w2.heap.size := by have h9 := hb2.size; omega
  have H62 := hide (H61.out.below hb2 (by omega))
  have HW2 := hide (HB0.out.trans (HB2.out.mono (by omega)))
  clear hb2 c0 c1 c2 c3 c4 c5
  obtain ⟨c0, c1, c2, c3, c4, c5⟩ := H62.out
  go_wp2_with fail
  go_region_held3 (fun w' => w'.cell? ⟨w.heap.size, 0, none⟩ = some (.bool nx) ∧ w'.cell? ⟨w.heap.size, 1, none⟩ = some vx ∧ w'.cell? ⟨w.heap.size, 2, none⟩ = some (.int .i64 ex) ∧ w'.cell? ⟨w.heap.size + 1, 0, none⟩ = some (.bool ny) ∧ w'.cell? ⟨w.heap.size + 1, 1, none⟩ = some vy ∧ w'.cell? ⟨w.heap.size + 1, 2, none⟩ = some (.int .i64 ey)) (first | exact H62.out | exact H64.out | exact six_set (six_set (six_set H64.out 0 _) 1 _) 2 _ | go_keep) ((go_at_call 78; refine (HMul.out _ (HW2.out.drew)).mono ?_; rintro x w4 ⟨v4, rfl, hd4, hf4, hb4⟩; obtain ⟨p4, q4, rfl⟩ := hd4.form; have HB4 := hide (HB2.out.drew.trans (hb4.mono hz2)); have H64 := hide (Six.below (w := w2.drew) H62.out hb4 (show w.heap.size + 1 < w2.heap.size by omega)); obtain ⟨⟨r0, r1, r2⟩, f0, f1, f2⟩ := pbox_res HB4.out; have HD4 := hide hd4; have HF4 := hide (hf4.mono (show w.heap.size + 3 ≤ _ from hz2)); clear hd4 hf4 hb4))
  all_goals
    go_wp2_with fail
    exact bodyPost_ret (v := .agg #[.bool _, .slice p4 _ q4, .int .i64 (ex + ey)]) (by simp [results, Tryz.results48, go_sem, r0, r1, r2]) rfl (plus_tail HB4.out HD4.out HF4.out (sg_mul nx ny X Y))

theorem times_any (nx ny : Bool) (vx vy : Value) (ex ey : Int) (X Y : Nat) (w : World) (hX : DN w vx X) (hY : DN w vy Y) (hm : nd X ≤ 1000000) (hn : nd Y ≤ 1000000)
    (he : -10000000 ≤ ex) (he' : ex ≤ 10000000) (hf1 : -10000000 ≤ ey) (hf' : ey ≤ 10000000) :
    Calls Tryz.prog 48 #[.agg #[.bool nx, vx, .int .i64 ex], .agg #[.bool ny, vy, .int .i64 ey]] w (PlusEnd w (ex + ey) (sg nx X * sg ny Y)) := by
  by_cases h0 : X = 0 ∨ Y = 0
  · have e : sg nx X * sg ny Y = 0 := by
      rw [← sg_mul]
      rcases h0 with h | h
      · rw [h, Nat.zero_mul]; cases (nx != ny) <;> rfl
      · rw [h, Nat.mul_zero]; cases (nx != ny) <;> rfl
    rw [e]
    exact times_none nx ny vx vy ex ey X Y w hX hY h0
  · have hX' := hX
    have hY' := hY
    rcases hX with ⟨h1, _⟩ | ⟨h1, g, c, rfl, _, hg, hrX⟩
    · exact absurd (Or.inl h1) h0
    · rcases hY with ⟨h2, _⟩ | ⟨h2, f, d, rfl, _, hf, hrY⟩
      · exact absurd (Or.inr h2) h0
      · exact times_some nx ny g f c d ex ey (nd X) (nd Y) X Y w h1 h2 hX' hY' hrX hrY hg hf hm hn (nd_lt X) (nd_lt Y) he he' hf1 hf'

end Go.Proofs.YtdmldggjgaaliaaGreat
