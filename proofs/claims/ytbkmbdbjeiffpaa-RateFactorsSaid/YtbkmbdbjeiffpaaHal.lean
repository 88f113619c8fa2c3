/- The contract of the document's Plus. The contract of the document's Plus, of two signs. -/
import Derived.Test.YtbkmbdbjeiffpaaHak
namespace Go.Proofs.Ytbkmbdbjeiffpaa
open Go.RowKit

abbrev pbox (w : World) (nx : Bool) (vx : Value) (ex : Int) (ny : Bool) (vy : Value) (ey : Int) : World := boxN (boxN (boxN w nx vx ex) ny vy ey) false (.slice none 0 0) 0
theorem pbox_size (w : World) (nx : Bool) (vx : Value) (ex : Int) (ny : Bool) (vy : Value) (ey : Int) : (pbox w nx vx ex ny vy ey).heap.size = w.heap.size + 3 := by simp
theorem pbox_below (w : World) (nx : Bool) (vx : Value) (ex : Int) (ny : Bool) (vy : Value) (ey : Int) : Below w.heap.size w (pbox w nx vx ex ny vy ey) :=
  ((boxN_below w nx vx ex).trans ((boxN_below (boxN w nx vx ex) ny vy ey).mono (by simp))).trans ((boxN_below _ _ _ _).mono (by rw [box2_size]; omega))
theorem pbox_six (w : World) (nx : Bool) (vx : Value) (ex : Int) (ny : Bool) (vy : Value) (ey : Int) : Six (pbox w nx vx ex ny vy ey) w.heap.size nx vx ex ny vy ey :=
  (six_box w nx vx ex ny vy ey).below (boxN_below _ _ _ _) (by rw [box2_size]; omega)
theorem From.mono {A B : Nat} {v : Value} (h : From B v) (hle : A ≤ B) : From A v := fun a l c e => Nat.le_trans hle (h a l c e)

theorem box_own (w : World) (n : Bool) (v : Value) (e : Int) :
    ((boxN w n v e).cell? ⟨w.heap.size, 0, none⟩ = some (.bool n) ∧ (boxN w n v e).cell? ⟨w.heap.size, 1, none⟩ = some v ∧ (boxN w n v e).cell? ⟨w.heap.size, 2, none⟩ = some (.int .i64 e)) ∧
    ((boxN w n v e).frozen? ⟨w.heap.size, 0, none⟩ = false ∧ (boxN w n v e).frozen? ⟨w.heap.size, 1, none⟩ = false ∧ (boxN w n v e).frozen? ⟨w.heap.size, 2, none⟩ = false) := by
  refine ⟨⟨?_, ?_, ?_⟩, ?_, ?_, ?_⟩ <;> first | exact World.frozen?_alloc_new _ _ _ _ | simp
/-- The result's three cells. -/
theorem pbox_res {w w' : World} {nx ny : Bool} {vx vy : Value} {ex ey : Int} (hb : Below (w.heap.size + 3) (pbox w nx vx ex ny vy ey) w') :
    (w'.cell? ⟨w.heap.size + 1 + 1, 0, none⟩ = some (.bool false) ∧ w'.cell? ⟨w.heap.size + 1 + 1, 1, none⟩ = some (.slice none 0 0) ∧ w'.cell? ⟨w.heap.size + 1 + 1, 2, none⟩ = some (.int .i64 0)) ∧
    (w'.frozen? ⟨w.heap.size + 1 + 1, 0, none⟩ = false ∧ w'.frozen? ⟨w.heap.size + 1 + 1, 1, none⟩ = false ∧ w'.frozen? ⟨w.heap.size + 1 + 1, 2, none⟩ = false) := by
  have hs : w.heap.size + 1 + 1 < w.heap.size + 3 := by omega
  have h := box_own (boxN (boxN w nx vx ex) ny vy ey) false (.slice none 0 0) 0
  rw [box2_size] at h
  obtain ⟨⟨a, b, c⟩, d, e, f⟩ := h
  exact ⟨⟨(hb.cell (p := ⟨w.heap.size + 1 + 1, 0, none⟩) hs).trans a, (hb.cell (p := ⟨w.heap.size + 1 + 1, 1, none⟩) hs).trans b, (hb.cell (p := ⟨w.heap.size + 1 + 1, 2, none⟩) hs).trans c⟩,
    (hb.frozen (p := ⟨w.heap.size + 1 + 1, 0, none⟩) hs).trans d, (hb.frozen (p := ⟨w.heap.size + 1 + 1, 1, none⟩) hs).trans e, (hb.frozen (p := ⟨w.heap.size + 1 + 1, 2, none⟩) hs).trans f⟩

/-- What Plus leaves. -/
def PlusEnd (w : World) (E S : Int) (x : Ending) (w' : World) : Prop :=
  ∃ neg' v' N' E', x = .returned (.agg #[.bool neg', v', .int .i64 E']) ∧ DN w' v' N' ∧ From w.heap.size v' ∧ sg neg' N' = S ∧ (E' = E ∨ (E' = 0 ∧ N' = 0)) ∧ Below w.heap.size w w'

theorem plus_tail {w w4 : World} {nx ny neg : Bool} {vx vy v : Value} {ex ey E S : Int} {N : Nat} (hb : Below (w.heap.size + 3) (pbox w nx vx ex ny vy ey) w4) (hd : DN w4 v N) (hf : From (w.heap.size + 3) v) (hs : sg neg N = S) :
    PlusEnd w E S (.returned (.agg #[.bool neg, v, .int .i64 E])) (((w4.setCell ⟨w.heap.size + 1 + 1, 0, none⟩ (.bool neg)).setCell ⟨w.heap.size + 1 + 1, 1, none⟩ v).setCell ⟨w.heap.size + 1 + 1, 2, none⟩ (.int .i64 E)) := by
  refine ⟨neg, v, N, E, rfl, ((hd.set hf (a := ⟨w.heap.size + 1 + 1, 0, none⟩) (Nat.lt_succ_self _) _).set hf (a := ⟨w.heap.size + 1 + 1, 1, none⟩) (Nat.lt_succ_self _) _).set hf (a := ⟨w.heap.size + 1 + 1, 2, none⟩) (Nat.lt_succ_self _) _, hf.mono (by omega), hs, Or.inl rfl, ?_⟩
  have h9 : w.heap.size ≤ w.heap.size + 1 + 1 := by omega
  exact ((((pbox_below w nx vx ex ny vy ey).trans (hb.mono (by omega))).setCell h9 _).setCell h9 _).setCell h9 _

set_option maxHeartbeats 1600000 in
theorem plus_add (nx ny : Bool) (vx vy : Value) (ex ey E : Int) (X Y n m a b : Nat) (w : World) (hX : DN w vx X) (hY : DN w vy Y)
    (hE : Hid (bothE X ex Y ey = E)) (hn : X ≠ 0 → ex - E = (n : Int)) (hm : Y ≠ 0 → ey - E = (m : Int)) (hn1 : n ≤ 1000000) (hm1 : m ≤ 1000000) (hXd : nd X ≤ 1000000) (hYd : nd Y ≤ 1000000)
    (ha : Hid (X * 2 ^ n = a)) (hb : Hid (Y * 2 ^ m = b)) (had : nd a ≤ 10000000) (hbd : nd b ≤ 10000000) (hc : nx = ny ∨ a = 0 ∨ b = 0) :
    Calls Try.prog 49 #[.agg #[.bool nx, vx, .int .i64 ex], .agg #[.bool ny, vy, .int .i64 ey]] w (PlusEnd w E (sg nx a + sg ny b)) := by
  have HB0 := hide (pbox_below w nx vx ex ny vy ey)
  have HZ := hide (pbox_size w nx vx ex ny vy ey)
  have H60 := hide (pbox_six w nx vx ex ny vy ey)
  have HX0 := hide (hX.below HB0.out)
  have HY0 := hide (hY.below HB0.out)
  have HBo := hide (both_any nx ny vx vy ex ey X Y _ HX0.out HY0.out)
  rw [hE.out] at HBo
  have HNx := hide hn
  have HM := hide hm
  have HC := hide hc
  clear hX hY hn hm hc
  go_enter Try.func49, Try.ntmps49
  go_wp2_with fail
  refine HBo.out.mono ?_
  rintro x w1 ⟨rfl, hb1⟩
  have hz1 : w.heap.size + 3 ≤ w1.heap.size := by have h9 := hb1.size; rw [HZ.out] at h9; exact h9
  have H61 := hide (H60.out.below hb1 (by rw [HZ.out]; omega))
  have HX1 := hide (HX0.out.below hb1)
  have HY1 := hide (HY0.out.below hb1)
  have HB1 : Hid (Below (w.heap.size + 3) (pbox w nx vx ex ny vy ey) w1) := hb1.mono (by rw [HZ.out]; omega)
  obtain ⟨c0, c1, c2, c3, c4, c5⟩ := H61.out
  clear hb1
  go_wp2_with fail
  refine (low_any nx vx ex E X n _ HX1.out HNx.out (by omega) (by omega)).mono ?_
  rintro x w2 ⟨va, rfl, hd2, hb2⟩
  rw [ha.out] at hd2
  have hz2 : w.heap.size + 3 ≤ w2.heap.size := by have h9 := hb2.size; omega
  have H62 := hide (H61.out.below hb2 (by omega))
  have HY2 := hide (HY1.out.below hb2)
  have HA2 := hide hd2
  have HB2 : Hid (Below (w.heap.size + 3) (pbox w nx vx ex ny vy ey) w2) := HB1.out.trans (hb2.mono hz1)
  clear hb2 hd2 c0 c1 c2 c3 c4 c5
  obtain ⟨c0, c1, c2, c3, c4, c5⟩ := H62.out
  go_wp2_with fail
  refine (low_any ny vy ey E Y m _ HY2.out HM.out (by omega) (by omega)).mono ?_
  rintro x w3 ⟨vb, rfl, hd3, hb3⟩
  rw [hb.out] at hd3
  have hz3 : w.heap.size + 3 ≤ w3.heap.size := by have h9 := hb3.size; omega
  have H63 := hide (H62.out.below hb3 (by omega))
  have HA3 := hide (HA2.out.below hb3)
  have HV3 := hide hd3
  have HB3 : Hid (Below (w.heap.size + 3) (pbox w nx vx ex ny vy ey) w3) := HB2.out.trans (hb3.mono hz2)
  clear hb3 hd3 c0 c1 c2 c3 c4 c5 HA2
  obtain ⟨c0, c1, c2, c3, c4, c5⟩ := H63.out
  obtain ⟨p, c, rfl⟩ := HA3.out.form
  obtain ⟨q, d, rfl⟩ := HV3.out.form
  have HAdd := hide (addDigits_any _ _ a b w3 HA3.out HV3.out had hbd)
  obtain ⟨N, hN⟩ : ∃ N, a + b = N := ⟨_, rfl⟩
  rw [hN] at HAdd
  have HN := hide hN
  clear hN
  clear HA3 HV3
  have ea : a = 0 → nd a = 0 := fun h => by rw [h]; rfl
  have eb : b = 0 → nd b = 0 := fun h => by rw [h]; rfl
  have ea1 : a ≠ 0 → 1 ≤ nd a := nd_pos
  have eb1 : b ≠ 0 → 1 ≤ nd b := nd_pos
  clear hXd hYd HX0 HY0 HX1 HY1 HY2 H60 H61 H62 H63 HB1 HB2 HBo HNx HM hE ha hb HB0 HZ
  generalize nd a = la at *
  generalize nd b = lb at *
  by_cases ha0 : a = 0
  · have hl := ea ha0
    subst hl
    by_cases hb0 : b = 0
    · have hl := eb hb0
      subst hl ha0 hb0
      clear ea eb ea1 eb1
      cases nx <;> cases ny
      all_goals
        go_wp2_with fail
        refine HAdd.out.mono ?_
        rintro x w4 ⟨v4, rfl, hd4, hf4, hb4⟩
        have HB4 := hide (HB3.out.trans (hb4.mono hz3))
        obtain ⟨⟨r0, r1, r2⟩, f0, f1, f2⟩ := pbox_res HB4.out
        obtain ⟨p4, c4, rfl⟩ := hd4.form
        have HD4 := hide hd4
        have HF4 := hide (hf4.mono hz3)
        clear hd4 hf4 hb4
        go_wp2_with fail
        refine bodyPost_ret (v := .agg #[.bool _, .slice p4 _ c4, .int .i64 E]) (by simp [results, Try.results49, go_sem, r0, r1, r2]) rfl (plus_tail HB4.out HD4.out HF4.out ?_)
        rw [← HN.out]
        simp [sg]
        try omega
    · have hl := eb1 hb0
      subst ha0
      clear ea eb ea1 eb1 hb0
      cases nx <;> cases ny
      all_goals
        go_wp2_with fail
        refine HAdd.out.mono ?_
        rintro x w4 ⟨v4, rfl, hd4, hf4, hb4⟩
        have HB4 := hide (HB3.out.trans (hb4.mono hz3))
        obtain ⟨⟨r0, r1, r2⟩, f0, f1, f2⟩ := pbox_res HB4.out
        obtain ⟨p4, c4, rfl⟩ := hd4.form
        have HD4 := hide hd4
        have HF4 := hide (hf4.mono hz3)
        clear hd4 hf4 hb4
        go_wp2_with fail
        refine bodyPost_ret (v := .agg #[.bool _, .slice p4 _ c4, .int .i64 E]) (by simp [results, Try.results49, go_sem, r0, r1, r2]) rfl (plus_tail HB4.out HD4.out HF4.out ?_)
        rw [← HN.out]
        simp [sg]
        try omega
  · have hl := ea1 ha0
    by_cases hb0 : b = 0
    · have hl := eb hb0
      subst hl hb0
      clear ea eb ea1 eb1 ha0
      cases nx <;> cases ny
      all_goals
        go_wp2_with fail
        refine HAdd.out.mono ?_
        rintro x w4 ⟨v4, rfl, hd4, hf4, hb4⟩
        have HB4 := hide (HB3.out.trans (hb4.mono hz3))
        obtain ⟨⟨r0, r1, r2⟩, f0, f1, f2⟩ := pbox_res HB4.out
        obtain ⟨p4, c4, rfl⟩ := hd4.form
        have HD4 := hide hd4
        have HF4 := hide (hf4.mono hz3)
        clear hd4 hf4 hb4
        go_wp2_with fail
        refine bodyPost_ret (v := .agg #[.bool _, .slice p4 _ c4, .int .i64 E]) (by simp [results, Try.results49, go_sem, r0, r1, r2]) rfl (plus_tail HB4.out HD4.out HF4.out ?_)
        rw [← HN.out]
        simp [sg]
        try omega
    · have hl2 := eb1 hb0
      clear ea eb ea1 eb1
      have hs : nx = ny := by
        rcases HC.out with h | h | h
        · exact h
        · exact absurd h ha0
        · exact absurd h hb0
      clear ha0 hb0
      · subst hs
        cases nx
        all_goals
          go_wp2_with fail
          refine HAdd.out.mono ?_
          rintro x w4 ⟨v4, rfl, hd4, hf4, hb4⟩
          have HB4 := hide (HB3.out.trans (hb4.mono hz3))
          obtain ⟨⟨r0, r1, r2⟩, f0, f1, f2⟩ := pbox_res HB4.out
          obtain ⟨p4, c4, rfl⟩ := hd4.form
          have HD4 := hide hd4
          have HF4 := hide (hf4.mono hz3)
          clear hd4 hf4 hb4
          go_wp2_with fail
          refine bodyPost_ret (v := .agg #[.bool _, .slice p4 _ c4, .int .i64 E]) (by simp [results, Try.results49, go_sem, r0, r1, r2]) rfl (plus_tail HB4.out HD4.out HF4.out ?_)
          rw [← HN.out]
          simp [sg]
          try omega

end Go.Proofs.Ytbkmbdbjeiffpaa
namespace Go.Proofs.Ytbkmbdbjeiffpaa
open Go.RowKit

theorem plus_none {w w4 : World} {nx ny : Bool} {vx vy : Value} {ex ey E S : Int} (hb : Below (w.heap.size + 3) (pbox w nx vx ex ny vy ey) w4) (hs : 0 = S) :
    PlusEnd w E S (.returned (.agg #[.bool false, .slice none 0 0, .int .i64 0])) (((w4.setCell ⟨w.heap.size + 1 + 1, 0, none⟩ (.bool false)).setCell ⟨w.heap.size + 1 + 1, 1, none⟩ (.slice none 0 0)).setCell ⟨w.heap.size + 1 + 1, 2, none⟩ (.int .i64 0)) := by
  refine ⟨false, .slice none 0 0, 0, 0, rfl, Or.inl ⟨rfl, _, _, rfl⟩, from_nil _, hs, Or.inr ⟨rfl, rfl⟩, ?_⟩
  have h9 : w.heap.size ≤ w.heap.size + 1 + 1 := by omega
  exact ((((pbox_below w nx vx ex ny vy ey).trans (hb.mono (by omega))).setCell h9 _).setCell h9 _).setCell h9 _

set_option maxHeartbeats 1600000 in
theorem plus_apart (nx ny : Bool) (vx vy : Value) (ex ey E : Int) (X Y n m a b : Nat) (w : World) (hX : DN w vx X) (hY : DN w vy Y)
    (hE : Hid (bothE X ex Y ey = E)) (hn : X ≠ 0 → ex - E = (n : Int)) (hm : Y ≠ 0 → ey - E = (m : Int)) (hn1 : n ≤ 1000000) (hm1 : m ≤ 1000000) (hXd : nd X ≤ 1000000) (hYd : nd Y ≤ 1000000)
    (ha : Hid (X * 2 ^ n = a)) (hb : Hid (Y * 2 ^ m = b)) (had : nd a ≤ 10000000) (hbd : nd b ≤ 10000000) (hs : nx ≠ ny) (ha0 : a ≠ 0) (hb0 : b ≠ 0) :
    Calls Try.prog 49 #[.agg #[.bool nx, vx, .int .i64 ex], .agg #[.bool ny, vy, .int .i64 ey]] w (PlusEnd w E (sg nx a + sg ny b)) := by
  have HB0 := hide (pbox_below w nx vx ex ny vy ey)
  have HZ := hide (pbox_size w nx vx ex ny vy ey)
  have H60 := hide (pbox_six w nx vx ex ny vy ey)
  have HX0 := hide (hX.below HB0.out)
  have HY0 := hide (hY.below HB0.out)
  have HBo := hide (both_any nx ny vx vy ex ey X Y _ HX0.out HY0.out)
  rw [hE.out] at HBo
  have HNx := hide hn
  have HM := hide hm
  clear hX hY hn hm
  go_enter Try.func49, Try.ntmps49
  go_wp2_with fail
  refine HBo.out.mono ?_
  rintro x w1 ⟨rfl, hb1⟩
  have hz1 : w.heap.size + 3 ≤ w1.heap.size := by have h9 := hb1.size; rw [HZ.out] at h9; exact h9
  have H61 := hide (H60.out.below hb1 (by rw [HZ.out]; omega))
  have HX1 := hide (HX0.out.below hb1)
  have HY1 := hide (HY0.out.below hb1)
  have HB1 : Hid (Below (w.heap.size + 3) (pbox w nx vx ex ny vy ey) w1) := hb1.mono (by rw [HZ.out]; omega)
  obtain ⟨c0, c1, c2, c3, c4, c5⟩ := H61.out
  clear hb1
  go_wp2_with fail
  refine (low_any nx vx ex E X n _ HX1.out HNx.out (by omega) (by omega)).mono ?_
  rintro x w2 ⟨va, rfl, hd2, hb2⟩
  rw [ha.out] at hd2
  have hz2 : w.heap.size + 3 ≤ w2.heap.size := by have h9 := hb2.size; omega
  have H62 := hide (H61.out.below hb2 (by omega))
  have HY2 := hide (HY1.out.below hb2)
  have HA2 := hide hd2
  have HB2 : Hid (Below (w.heap.size + 3) (pbox w nx vx ex ny vy ey) w2) := HB1.out.trans (hb2.mono hz1)
  clear hb2 hd2 c0 c1 c2 c3 c4 c5
  obtain ⟨c0, c1, c2, c3, c4, c5⟩ := H62.out
  go_wp2_with fail
  refine (low_any ny vy ey E Y m _ HY2.out HM.out (by omega) (by omega)).mono ?_
  rintro x w3 ⟨vb, rfl, hd3, hb3⟩
  rw [hb.out] at hd3
  have hz3 : w.heap.size + 3 ≤ w3.heap.size := by have h9 := hb3.size; omega
  have H63 := hide (H62.out.below hb3 (by omega))
  have HA3 := hide (HA2.out.below hb3)
  have HV3 := hide hd3
  have HB3 : Hid (Below (w.heap.size + 3) (pbox w nx vx ex ny vy ey) w3) := HB2.out.trans (hb3.mono hz2)
  clear hb3 hd3 c0 c1 c2 c3 c4 c5 HA2
  obtain ⟨c0, c1, c2, c3, c4, c5⟩ := H63.out
  obtain ⟨p, c, rfl⟩ := HA3.out.form
  obtain ⟨q, d, rfl⟩ := HV3.out.form
  have HCmp := hide (cmpDigits_any _ _ a b w3 HA3.out HV3.out had)
  have HSub := hide fun w' (hb' : Below w3.heap.size w3 w') (hle : b ≤ a) => subDigits_any _ _ a b w' (HA3.out.below hb') (HV3.out.below hb') had hle
  have HSub2 := hide fun w' (hb' : Below w3.heap.size w3 w') (hle : a ≤ b) => subDigits_any _ _ b a w' (HV3.out.below hb') (HA3.out.below hb') hbd hle
  clear HA3 HV3
  have hl : ((nd a : Int) == 0) = false := by have := nd_pos ha0; simp; omega
  have hl2 : ((nd b : Int) == 0) = false := by have := nd_pos hb0; simp; omega
  clear hXd hYd HX0 HY0 HX1 HY1 HY2 H60 H61 H62 H63 HB1 HB2 HBo HNx HM hE ha hb HB0 HZ ha0 hb0
  generalize nd a = la at *
  generalize nd b = lb at *
  rcases Nat.lt_trichotomy a b with h | h | h
  · rw [cmpN_lt h] at HCmp
    have HL := hide (Nat.le_of_lt h)
    clear HSub h
    cases nx <;> cases ny
    all_goals first | exact absurd rfl hs | skip
    all_goals
      go_wp2_with fail
      refine HCmp.out.mono ?_
      rintro x w5 ⟨rfl, qq, hq⟩
      have HQ := hide (show Below w3.heap.size w3 w5 by rw [hq]; exact below_drewN (Below.refl _ _) _)
      have g3 := (HQ.out.cell (p := ⟨w.heap.size + 1, 0, none⟩) (by show w.heap.size + 1 < _; omega)).trans c3
      have hz5 : w.heap.size + 3 ≤ w5.heap.size := by have := HQ.out.size; omega
      clear hq
      go_wp2_with fail
      go_region_with ((go_at_call 70; refine (HSub2.out _ (HQ.out.drew) HL.out).mono ?_; rintro x w4 ⟨v4, rfl, hd4, hf4, hb4⟩; obtain ⟨p4, c4, rfl⟩ := hd4.form; have HB4 := hide ((HB3.out.trans (HQ.out.mono hz3)).drew.trans (hb4.mono hz5)); obtain ⟨⟨r0, r1, r2⟩, f0, f1, f2⟩ := pbox_res HB4.out; have k3 := (hb4.cell (p := ⟨w.heap.size + 1, 0, none⟩) (by show w.heap.size + 1 < w5.heap.size; omega)).trans g3; have HD4 := hide hd4; have HF4 := hide (hf4.mono (show w.heap.size + 3 ≤ _ from hz5)); clear hd4 hf4 hb4))
      all_goals
        go_wp2_with fail
        refine bodyPost_ret (v := .agg #[.bool _, .slice p4 _ c4, .int .i64 E]) (by simp [results, Try.results49, go_sem, r0, r1, r2]) rfl (plus_tail HB4.out HD4.out HF4.out ?_)
        have h9 := HL.out
        simp [sg]
        try omega
  · rw [cmpN_eq h] at HCmp
    have HL := hide h
    clear HSub HSub2 h
    cases nx <;> cases ny
    all_goals first | exact absurd rfl hs | skip
    all_goals
      go_wp2_with fail
      refine HCmp.out.mono ?_
      rintro x w5 ⟨rfl, qq, hq⟩
      have HQ := hide (show Below w3.heap.size w3 w5 by rw [hq]; exact below_drewN (Below.refl _ _) _)
      have HB4 := hide (HB3.out.trans (HQ.out.mono hz3))
      obtain ⟨⟨r0, r1, r2⟩, f0, f1, f2⟩ := pbox_res HB4.out
      clear hq
      go_wp2_with fail
      refine bodyPost_ret (v := .agg #[.bool false, .slice none 0 0, .int .i64 0]) (by simp [results, Try.results49, go_sem, r0, r1, r2]) rfl (plus_none HB4.out ?_)
      have h9 := HL.out
      simp [sg]
      try omega
  · rw [cmpN_gt h] at HCmp
    have HL := hide (Nat.le_of_lt h)
    clear HSub2 h
    cases nx <;> cases ny
    all_goals first | exact absurd rfl hs | skip
    all_goals
      go_wp2_with fail
      refine HCmp.out.mono ?_
      rintro x w5 ⟨rfl, qq, hq⟩
      have HQ := hide (show Below w3.heap.size w3 w5 by rw [hq]; exact below_drewN (Below.refl _ _) _)
      have g3 := (HQ.out.cell (p := ⟨w.heap.size, 0, none⟩) (by show w.heap.size < _; omega)).trans c0
      have hz5 : w.heap.size + 3 ≤ w5.heap.size := by have := HQ.out.size; omega
      clear hq
      go_wp2_with fail
      go_region_with ((go_at_call 70; refine (HSub.out _ (HQ.out.drew) HL.out).mono ?_; rintro x w4 ⟨v4, rfl, hd4, hf4, hb4⟩; obtain ⟨p4, c4, rfl⟩ := hd4.form; have HB4 := hide ((HB3.out.trans (HQ.out.mono hz3)).drew.trans (hb4.mono hz5)); obtain ⟨⟨r0, r1, r2⟩, f0, f1, f2⟩ := pbox_res HB4.out; have k3 := (hb4.cell (p := ⟨w.heap.size, 0, none⟩) (by show w.heap.size < w5.heap.size; omega)).trans g3; have HD4 := hide hd4; have HF4 := hide (hf4.mono (show w.heap.size + 3 ≤ _ from hz5)); clear hd4 hf4 hb4))
      all_goals
        go_wp2_with fail
        refine bodyPost_ret (v := .agg #[.bool _, .slice p4 _ c4, .int .i64 E]) (by simp [results, Try.results49, go_sem, r0, r1, r2]) rfl (plus_tail HB4.out HD4.out HF4.out ?_)
        have h9 := HL.out
        simp [sg]
        try omega

theorem plus_any (nx ny : Bool) (vx vy : Value) (ex ey E : Int) (X Y n m : Nat) (w : World) (hX : DN w vx X) (hY : DN w vy Y)
    (hE : bothE X ex Y ey = E) (hn : X ≠ 0 → ex - E = (n : Int)) (hm : Y ≠ 0 → ey - E = (m : Int)) (hn1 : n ≤ 1000000) (hm1 : m ≤ 1000000) (hXd : nd X ≤ 1000000) (hYd : nd Y ≤ 1000000)
    (had : nd (X * 2 ^ n) ≤ 10000000) (hbd : nd (Y * 2 ^ m) ≤ 10000000) :
    Calls Try.prog 49 #[.agg #[.bool nx, vx, .int .i64 ex], .agg #[.bool ny, vy, .int .i64 ey]] w (PlusEnd w E (sg nx (X * 2 ^ n) + sg ny (Y * 2 ^ m))) := by
  by_cases hc : nx = ny ∨ X * 2 ^ n = 0 ∨ Y * 2 ^ m = 0
  · exact plus_add nx ny vx vy ex ey E X Y n m _ _ w hX hY hE hn hm hn1 hm1 hXd hYd rfl rfl had hbd hc
  · exact plus_apart nx ny vx vy ex ey E X Y n m _ _ w hX hY hE hn hm hn1 hm1 hXd hYd rfl rfl had hbd (fun h => hc (Or.inl h)) (fun h => hc (Or.inr (Or.inl h))) (fun h => hc (Or.inr (Or.inr h)))

end Go.Proofs.Ytbkmbdbjeiffpaa
