/- The contracts of both, low and Plus of the document. -/
import Derived.Test.YtdmldggjgaaliaaGreatAddD
import Derived.Test.YtdmldggjgaaliaaGreatNear
namespace Go.Proofs.YtdmldggjgaaliaaGreat
open Go.RowKit

/-- The lesser exponent of two. -/
def bothE (X : Nat) (ex : Int) (Y : Nat) (ey : Int) : Int := if X = 0 then ey else if Y = 0 then ex else min ex ey
/-- A number with its sign. -/
def sg (neg : Bool) (N : Nat) : Int := if neg then -(N : Int) else (N : Int)

abbrev boxN (w : World) (n : Bool) (v : Value) (e : Int) : World := w.alloc (.cells #[.bool n, v, .int .i64 e] 46)
theorem boxN_below (w : World) (n : Bool) (v : Value) (e : Int) : Below w.heap.size w (boxN w n v e) := (Below.refl _ _).alloc (Nat.le_refl _) _

/-- Two boxes' six cells. -/
def Six (w : World) (B : Nat) (nx : Bool) (vx : Value) (ex : Int) (ny : Bool) (vy : Value) (ey : Int) : Prop :=
  w.cell? ⟨B, 0, none⟩ = some (.bool nx) ∧ w.cell? ⟨B, 1, none⟩ = some vx ∧ w.cell? ⟨B, 2, none⟩ = some (.int .i64 ex) ∧
  w.cell? ⟨B + 1, 0, none⟩ = some (.bool ny) ∧ w.cell? ⟨B + 1, 1, none⟩ = some vy ∧ w.cell? ⟨B + 1, 2, none⟩ = some (.int .i64 ey)
theorem six_box (w : World) (nx : Bool) (vx : Value) (ex : Int) (ny : Bool) (vy : Value) (ey : Int) : Six (boxN (boxN w nx vx ex) ny vy ey) w.heap.size nx vx ex ny vy ey := by
  have hb := boxN_below (boxN w nx vx ex) ny vy ey
  have hs : w.heap.size < (boxN w nx vx ex).heap.size := by simp
  refine ⟨?_, ?_, ?_, ?_, ?_, ?_⟩
  · rw [hb.cell (p := ⟨w.heap.size, 0, none⟩) hs]; simp
  · rw [hb.cell (p := ⟨w.heap.size, 1, none⟩) hs]; simp
  · rw [hb.cell (p := ⟨w.heap.size, 2, none⟩) hs]; simp
  · have e : w.heap.size + 1 = (boxN w nx vx ex).heap.size := by simp
    rw [e]; simp
  · have e : w.heap.size + 1 = (boxN w nx vx ex).heap.size := by simp
    rw [e]; simp
  · have e : w.heap.size + 1 = (boxN w nx vx ex).heap.size := by simp
    rw [e]; simp
theorem Six.below {w w' : World} {B : Nat} {nx ny : Bool} {vx vy : Value} {ex ey : Int} {s : Nat} (h : Six w B nx vx ex ny vy ey) (hb : Below s w w') (hs : B + 1 < s) : Six w' B nx vx ex ny vy ey := by
  obtain ⟨a, b, c, d, e, f⟩ := h
  exact ⟨(hb.cell (p := ⟨B, 0, none⟩) (by show B < s; omega)).trans a, (hb.cell (p := ⟨B, 1, none⟩) (by show B < s; omega)).trans b, (hb.cell (p := ⟨B, 2, none⟩) (by show B < s; omega)).trans c, (hb.cell (p := ⟨B + 1, 0, none⟩) hs).trans d, (hb.cell (p := ⟨B + 1, 1, none⟩) hs).trans e, (hb.cell (p := ⟨B + 1, 2, none⟩) hs).trans f⟩
theorem box2_size (w : World) (nx : Bool) (vx : Value) (ex : Int) (ny : Bool) (vy : Value) (ey : Int) : (boxN (boxN w nx vx ex) ny vy ey).heap.size = w.heap.size + 2 := by simp

set_option maxHeartbeats 800000 in
theorem both_any (nx ny : Bool) (vx vy : Value) (ex ey : Int) (X Y : Nat) (w : World) (hX : DN w vx X) (hY : DN w vy Y) :
    Calls Tryz.prog 73 #[.agg #[.bool nx, vx, .int .i64 ex], .agg #[.bool ny, vy, .int .i64 ey]] w fun e w' => e = .returned (.int .i64 (bothE X ex Y ey)) ∧ Below w.heap.size w w' := by
  have hbx := boxN_below w nx vx ex
  have hby : Below w.heap.size w (boxN (boxN w nx vx ex) ny vy ey) := hbx.trans ((boxN_below (boxN w nx vx ex) ny vy ey).mono (by simp))
  have H1 := hide (hX.below hby)
  have H2 := hide (hY.below hby)
  have HB := hide hby
  have H6 := hide (six_box w nx vx ex ny vy ey)
  have HZ := hide (box2_size w nx vx ex ny vy ey)
  clear hbx hby hX hY
  unfold bothE
  by_cases h0 : X = 0
  · subst h0
    rw [if_pos rfl]
    go_enter Tryz.func73, Tryz.ntmps73
    go_wp2_with fail
    refine (zero_at _ _ _ 0 true _ H1.out rfl).mono ?_
    rintro x w1 ⟨rfl, hb1⟩
    have H7 := hide (H6.out.below hb1 (by rw [HZ.out]; omega))
    have hz : w.heap.size + 1 < w1.heap.size := by have h9 := hb1.size; rw [HZ.out] at h9; omega
    obtain ⟨c0, c1, c2, c3, c4, c5⟩ := H7.out
    have HB1 := hide hb1
    clear hb1
    go_wp2_with fail
    go_ret
    exact ⟨rfl, HB.out.trans (HB1.out.mono (by rw [HZ.out]; omega))⟩
  · rw [if_neg h0]
    have HX := hide h0
    clear h0
    by_cases h0 : Y = 0
    · subst h0
      rw [if_pos rfl]
      go_enter Tryz.func73, Tryz.ntmps73
      go_wp2_with fail
      refine (zero_at _ _ _ X false _ H1.out (decide_eq_false HX.out)).mono ?_
      rintro x w1 ⟨rfl, hb1⟩
      have H7 := hide (H6.out.below hb1 (by rw [HZ.out]; omega))
      have hz : w.heap.size + 1 < w1.heap.size := by have h9 := hb1.size; rw [HZ.out] at h9; omega
      obtain ⟨c0, c1, c2, c3, c4, c5⟩ := H7.out
      have HB1 := hide hb1
      have H2 := hide (H2.out.below hb1)
      clear hb1
      go_wp2_with fail
      refine (zero_at _ _ _ 0 true _ H2.out rfl).mono ?_
      rintro x w2 ⟨rfl, hb2⟩
      obtain ⟨d0, d1, d2, d3, d4, d5⟩ := H7.out.below hb2 hz
      clear c0 c1 c2 c3 c4 c5
      have HB2 := hide hb2
      clear hb2
      go_wp2_with fail
      go_ret
      exact ⟨rfl, (HB.out.trans (HB1.out.mono (by rw [HZ.out]; omega))).trans (HB2.out.mono (by omega))⟩
    · rw [if_neg h0]
      have HY := hide h0
      clear h0
      go_enter Tryz.func73, Tryz.ntmps73
      go_wp2_with fail
      refine (zero_at _ _ _ X false _ H1.out (decide_eq_false HX.out)).mono ?_
      rintro x w1 ⟨rfl, hb1⟩
      have H7 := hide (H6.out.below hb1 (by rw [HZ.out]; omega))
      have hz : w.heap.size + 1 < w1.heap.size := by have h9 := hb1.size; rw [HZ.out] at h9; omega
      obtain ⟨c0, c1, c2, c3, c4, c5⟩ := H7.out
      have HB1 := hide hb1
      have H2 := hide (H2.out.below hb1)
      clear hb1
      go_wp2_with fail
      refine (zero_at _ _ _ Y false _ H2.out (decide_eq_false HY.out)).mono ?_
      rintro x w2 ⟨rfl, hb2⟩
      obtain ⟨d0, d1, d2, d3, d4, d5⟩ := H7.out.below hb2 hz
      clear c0 c1 c2 c3 c4 c5
      have HB2 := hide hb2
      clear hb2
      go_wp2_with fail
      go_ret
      exact ⟨rfl, (HB.out.trans (HB1.out.mono (by rw [HZ.out]; omega))).trans (HB2.out.mono (by omega))⟩

set_option maxHeartbeats 800000 in
theorem low_any (nx : Bool) (vx : Value) (ex e : Int) (X n : Nat) (w : World) (hX : DN w vx X) (hn : X ≠ 0 → ex - e = (n : Int)) (hn1 : n ≤ 100000000) (hnd : nd X ≤ 10000000) :
    Calls Tryz.prog 74 #[.agg #[.bool nx, vx, .int .i64 ex], .int .i64 e] w fun x w' => ∃ v, x = .returned v ∧ DN w' v (X * 2 ^ n) ∧ Below w.heap.size w w' := by
  have HB := hide (boxN_below w nx vx ex)
  have H1 := hide (hX.below HB.out)
  clear hX
  by_cases h0 : X = 0
  · subst h0
    rw [Nat.zero_mul]
    go_enter Tryz.func74, Tryz.ntmps74
    go_wp2_with fail
    refine (zero_at _ _ _ 0 true _ H1.out rfl).mono ?_
    rintro x w1 ⟨rfl, hb1⟩
    have HB1 := hide hb1
    clear hb1
    go_wp2_with fail
    go_ret
    exact ⟨_, rfl, Or.inl ⟨rfl, _, _, rfl⟩, HB.out.trans (HB1.out.mono (by simp))⟩
  · have he := hn h0
    have HX := hide h0
    clear h0 hn
    go_enter Tryz.func74, Tryz.ntmps74
    go_wp2_with fail
    refine (zero_at _ _ _ X false _ H1.out (decide_eq_false HX.out)).mono ?_
    rintro x w1 ⟨rfl, hb1⟩
    obtain ⟨c1, f1⟩ := bcell hb1
    have HB1 := hide hb1
    have H2 := hide (H1.out.below hb1)
    clear hb1
    go_wp2_with fail
    refine (shiftUp_any vx X n _ H2.out hnd hn1).mono ?_
    rintro x w2 ⟨v2, rfl, hd2, hb2⟩
    have HB2 := hide hb2
    have HD2 := hide hd2
    clear hb2 hd2
    have hz : w.heap.size ≤ w1.heap.size := by have := HB1.out.size; simp at this; omega
    go_wp2_with fail
    go_ret
    exact ⟨_, rfl, HD2.out, (HB.out.trans (HB1.out.mono (by simp))).trans (HB2.out.mono hz)⟩

end Go.Proofs.YtdmldggjgaaliaaGreat
