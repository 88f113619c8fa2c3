/- The document's Year. The year of a fraction: one rounding of a quotient; it rises. No word of the program. -/
import Derived.Test.YtcbbbkngjdlcjaaHbp
import Derived.Test.YtcbbbkngjdlcjaaHat
import Derived.Test.YtcbbbkngjdlcjaaHaj
import Derived.Test.YtcbbbkngjdlcjaaHas
namespace Go.Proofs.Ytcbbbkngjdlcjaa
open Go.RowKit

/-- The bits of the number nearest to P / Q. -/
def yearK (X Y : Nat) : Nat := (70 - (bl X : Int) + (bl Y : Int)).toNat
def yearB (P Q : Int) : Int := if P = 0 then 0 else nearM (decide (P < 0)) (P.natAbs * 2 ^ yearK P.natAbs Q.natAbs / Q.natAbs) (0 - (yearK P.natAbs Q.natAbs : Int) - 0) (decide (0 < nd (P.natAbs * 2 ^ yearK P.natAbs Q.natAbs % Q.natAbs)))

set_option maxHeartbeats 400000 in
theorem nearOver_zero (nx ny : Bool) (vx vy : Value) (ex ey : Int) (w : World) (hX : DN w vx 0) :
    Calls Try.prog 20 #[.agg #[.bool nx, vx, .int .i64 ex], .agg #[.bool ny, vy, .int .i64 ey]] w fun x w' => x = .returned (.int .u64 0) ∧ Below w.heap.size w w' := by
  have HB0 : Hid (Below w.heap.size w (boxN (boxN w nx vx ex) ny vy ey)) := (boxN_below w nx vx ex).trans ((boxN_below (boxN w nx vx ex) ny vy ey).mono (by simp))
  have HZr := hide fun w' (hb : Below w.heap.size w w') => zero_at nx vx ex 0 true w' (hX.below hb) rfl
  clear hX
  go_enter Try.func20, Try.ntmps20
  go_wp2_with fail
  refine (HZr.out _ HB0.out).mono ?_
  rintro x w1 ⟨rfl, hb1⟩
  have HB1 := hide (HB0.out.trans (hb1.mono HB0.out.size))
  clear hb1
  go_wp2_with fail
  go_ret
  exact ⟨rfl, HB1.out⟩

theorem over_year (P Q : Int) (ny : Bool) (vx vy : Value) (w : World) (hX : DN w vx P.natAbs) (hY : DN w vy Q.natAbs) (hP : -1000000000 ≤ P) (hP' : P ≤ 1000000000) (hQ : 0 < Q) (hQ' : Q ≤ 1000000000) :
    Calls Try.prog 20 #[.agg #[.bool (decide (P < 0)), vx, .int .i64 0], .agg #[.bool ny, vy, .int .i64 0]] w fun x w' => x = .returned (.int .u64 (yearB P Q)) ∧ Below w.heap.size w w' := by
  unfold yearB
  by_cases h0 : P = 0
  · subst h0
    rw [if_pos rfl]
    exact nearOver_zero _ ny vx vy 0 0 w hX
  · rw [if_neg h0]
    have h1 : nd P.natAbs ≤ 1 := nd_mono (by simp; omega)
    have h2 : nd Q.natAbs ≤ 1 := nd_mono (by simp; omega)
    exact nearOver_at _ ny _ vx vy 0 0 _ P.natAbs Q.natAbs (yearK P.natAbs Q.natAbs) _ w hX hY (by omega) (by omega) (by omega) (by omega) (by omega) (by omega) (by omega) (by omega) (by unfold yearK; omega) rfl rfl rfl

def Two (b : Nat) (P Q : Int) (w : World) : Prop := w.cell? ⟨b, 0, none⟩ = some (.int .i64 P) ∧ w.cell? ⟨b, 1, none⟩ = some (.int .i64 Q)
theorem Two.below {w w' : World} {b s : Nat} {P Q : Int} (h : Two b P Q w) (hb : Below s w w') (hs : b < s) : Two b P Q w' :=
  ⟨(hb.cell (p := ⟨b, 0, none⟩) hs).trans h.1, (hb.cell (p := ⟨b, 1, none⟩) hs).trans h.2⟩
theorem boxed2 {w w1 : World} {P Q : Int} (h : Below w.heap.size w w1) :
    ∃ wa, w1.alloc (.cells #[.int .i64 P, .int .i64 Q] 31) = wa ∧ Hid (Two w1.heap.size P Q wa) ∧ Hid (w1.heap.size < wa.heap.size) ∧ Hid (Below w.heap.size w wa) :=
  ⟨_, rfl, ⟨(year_box h).1, (year_box h).2.1⟩, (by show w1.heap.size < _; simp), (year_box h).2.2⟩

set_option maxHeartbeats 3200000 in
theorem refYear_ok (kind W a b P Q : Int) (v : Value) (w : World) (hP : -1000000000 ≤ P) (hP' : P ≤ 1000000000) (hQ : 0 < Q) (hQ' : Q ≤ 1000000000)
    (HF : Hid (∀ wx, Below w.heap.size w wx → Calls Try.prog 11 #[.int .i64 kind, .agg #[.int .i64 W, v], .int .i64 a, .int .i64 b] wx fun e w' => e = .returned (.tuple #[.agg #[.int .i64 P, .int .i64 Q], .int .i64 0]) ∧ Below wx.heap.size wx w')) :
    Calls Try.prog 13 #[.int .i64 kind, .agg #[.int .i64 W, v], .int .i64 a, .int .i64 b] w fun e w' => e = .returned (.tuple #[.int .u64 (yearB P Q), .int .i64 0]) ∧ Below w.heap.size w w' := by
  have HB0 : Hid (Below w.heap.size w (w.alloc (.cells #[.int .i64 W, v] 24))) := (Below.refl w.heap.size w).alloc (Nat.le_refl _) _
  have H1 := hideS fun wx => whole_any P wx (by omega) (by omega)
  have H2 := hideS fun wx => whole_any Q wx (by omega) (by omega)
  have H3 := hideS fun ny vx vy wx hX hY => over_year P Q ny vx vy wx hX hY hP hP' hQ hQ'
  clear hP hP' hQ hQ'
  unfold NumV at H1 H2
  generalize yearB P Q = R at *
  generalize decide (P < 0) = np at *
  generalize decide (Q < 0) = nq at *
  generalize P.natAbs = X at *
  generalize Q.natAbs = Y at *
  go_enter Try.func13, Try.ntmps13
  go_wp2_with fail
  refine (HF.out _ HB0.out).mono ?_
  rintro e w1 ⟨rfl, hb1⟩
  have HB1 := hideS (HB0.out.trans (hb1.mono (by simp)))
  clear hb1
  go_wp2_with fail
  obtain ⟨wa, hwa, HS1, hz, HBa⟩ := boxed2 (P := P) (Q := Q) HB1.out
  rw [hwa]
  clear hwa
  generalize w1.heap.size = b at *
  go_region_held3 (fun w' => w'.cell? ⟨b, 0, none⟩ = some (.int .i64 P) ∧ w'.cell? ⟨b, 1, none⟩ = some (.int .i64 Q)) (first | exact HS1.out | exact HS2.out | exact HS3.out | exact HS4.out | go_keep) (first | ((go_at_call_of 21 (Value.int IntKind.i64 P); refine (H1.out _).mono ?_; rintro e w2 ⟨vx, rfl, hdx, hb2⟩; obtain ⟨px, lx, cx, rfl⟩ := dn_shape hdx; have HB2 := hideS (HBa.out.drew.trans (hb2.mono HBa.out.drew.size)); have HS2 := hideS (Two.below (w := wa.drew) HS1.out hb2 hz.out); have hz2 := hideS (Nat.lt_of_lt_of_le hz.out hb2.size); have HDx := hideS hdx; clear hb2 hdx)) | ((go_at_call_of 21 (Value.int IntKind.i64 Q); refine (H2.out _).mono ?_; rintro e w3 ⟨vy, rfl, hdy, hb3⟩; obtain ⟨py, ly, cy, rfl⟩ := dn_shape hdy; have HB3 := hideS (HB2.out.trans (hb3.mono HB2.out.size)); have HS3 := hideS (Two.below HS2.out hb3 hz2.out); have hz3 := hideS (Nat.lt_of_lt_of_le hz2.out hb3.size); have HDx3 := hideS (HDx.out.below hb3); have HDy := hideS hdy; clear hb3 hdy)) | ((go_at_call 20; refine (H3.out _ _ _ _ HDx3.out HDy.out).mono ?_; rintro e w4 ⟨rfl, hb4⟩; have HB4 := hideS (HB3.out.trans (hb4.mono HB3.out.size)); have HS4 := hideS (Two.below HS3.out hb4 hz3.out); clear hb4)))
  all_goals
    go_wp2_with fail
    go_ret2
    exact ⟨rfl, HB4.out⟩
end Go.Proofs.Ytcbbbkngjdlcjaa
namespace Go.Proofs.Ytcbbbkngjdlcjaa
open Go.RowKit

/-- The size of the number nearest to X / Y. -/
def yearR (X Y : Nat) : Nat := nearR (quoS X Y 200) (-1 - ((200 : Nat) : Int))
theorem yearK_le {X Y : Nat} (hX : X ≠ 0) (hY : Y ≠ 0) (hY' : Y ≤ 1000000000) : yearK X Y ≤ 200 ∧ 54 + Y.log2 ≤ X.log2 + yearK X Y := by
  have h1 := bl_pos hX
  have h2 := bl_pos hY
  have h3 : Y.log2 < 30 := (Nat.log2_lt hY).2 (by omega)
  unfold yearK
  omega
theorem year_val {P Q : Int} (h0 : P ≠ 0) (hQ : 0 < Q) (hQ' : Q ≤ 1000000000) : yearB P Q = sbit (decide (P < 0)) + (yearR P.natAbs Q.natAbs : Int) := by
  have hX : P.natAbs ≠ 0 := by omega
  have hY : Q.natAbs ≠ 0 := by omega
  have hY' : Q.natAbs ≤ 1000000000 := by omega
  unfold yearB yearR
  rw [if_neg h0]
  generalize P.natAbs = X at *
  generalize Q.natAbs = Y at *
  obtain ⟨k1, k2⟩ := yearK_le hX hY hY'
  generalize yearK X Y = k at *
  have hb := quo_bits hX hY k2
  rw [nearM_more _ _ _ hb.1, ← near_quo (p := -1) (by omega) k1 hb.2]
  have e : 2 * (X * 2 ^ k / Y) + (if decide (0 < nd (X * 2 ^ k % Y)) = true then 1 else 0) = quoS X Y k := by
    unfold quoS
    congr 1
    by_cases hr : X * 2 ^ k % Y = 0
    · rw [hr]; rfl
    · have := nd_pos hr
      rw [if_neg hr, if_pos (decide_eq_true (show 0 < nd (X * 2 ^ k % Y) from this))]
  rw [e, show (0 : Int) - (k : Int) - 0 - 1 = -1 - (k : Int) by omega]
theorem quoS_mono {X X' Y k : Nat} (h : X ≤ X') : quoS X Y k ≤ quoS X' Y k := by
  have h1 : X * 2 ^ k ≤ X' * 2 ^ k := Nat.mul_le_mul_right _ h
  unfold quoS
  generalize X * 2 ^ k = A at *
  generalize X' * 2 ^ k = B at *
  have h2 : A / Y ≤ B / Y := Nat.div_le_div_right h1
  have ea := Nat.div_add_mod A Y
  have eb := Nat.div_add_mod B Y
  by_cases hq : A / Y = B / Y
  · rw [hq] at ea ⊢
    have : A % Y ≤ B % Y := by omega
    split <;> split <;> omega
  · split <;> split <;> omega
theorem yearR_mono {X X' Y : Nat} (h : X ≤ X') : yearR X Y ≤ yearR X' Y := nearR_mono _ (quoS_mono h)
theorem yearR_pos {X Y : Nat} (h : X ≠ 0) (hY : 0 < Y) (hY' : Y ≤ 1000000000) : 0 < yearR X Y := by
  refine Nat.lt_of_lt_of_le ?_ (yearR_mono (X := 1) (by omega))
  unfold yearR
  have h1 : 1 * 2 ^ 170 ≤ quoS 1 Y 200 := by
    unfold quoS
    have : 2 ^ 200 / 2 ^ 30 ≤ 1 * 2 ^ 200 / Y := by
      rw [Nat.one_mul]
      exact Nat.div_le_div_left (by omega) hY
    rw [show (2 : Nat) ^ 200 / 2 ^ 30 = 2 ^ 170 by decide] at this
    omega
  refine Nat.lt_of_lt_of_le ?_ (nearR_mono _ h1)
  rw [show (-1 : Int) - ((200 : Nat) : Int) = -31 - ((170 : Nat) : Int) by decide, nearR_scale (by decide)]
  decide
theorem yearR_fin {X Y : Nat} (h : X ≤ 1000000000) : yearR X Y < 9218868437227405312 := by
  unfold yearR
  have h1 : quoS X Y 200 ≤ 1 * 2 ^ 232 := by
    unfold quoS
    have h2 : X * 2 ^ 200 / Y ≤ X * 2 ^ 200 := Nat.div_le_self _ _
    have h3 : X * 2 ^ 200 ≤ 1073741824 * 2 ^ 200 := Nat.mul_le_mul_right _ (by omega)
    rw [show (1073741824 : Nat) * 2 ^ 200 = 2 ^ 230 by decide] at h3
    split <;> omega
  refine Nat.lt_of_le_of_lt (nearR_mono _ h1) ?_
  rw [show (-1 : Int) - ((200 : Nat) : Int) = 31 - ((232 : Nat) : Int) by decide, nearR_scale (by decide)]
  decide
end Go.Proofs.Ytcbbbkngjdlcjaa
