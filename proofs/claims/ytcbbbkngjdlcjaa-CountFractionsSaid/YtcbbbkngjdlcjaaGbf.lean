/- The contract of the document's NearOver. The document's Year. -/
import Derived.Test.YtcbbbkngjdlcjaaGbe
import Derived.Test.YtcbbbkngjdlcjaaGao
import Derived.Test.YtcbbbkngjdlcjaaGax
namespace Go.Proofs.Ytcbbbkngjdlcjaa
open Go.RowKit

theorem len_wit (v : Value) (N : Nat) (B : Int) (w : World) (h : DN w v N) (hb : nd N ≤ 100000000) (hB : Hid ((bl N : Int) = B)) :
    Calls Try.prog 36 #[v] w fun e w' => e = .returned (.int .i64 B) ∧ w = w' :=
  (len_at v N B w h hb hB).mono fun _ _ ⟨a, b⟩ => ⟨a, b.symm⟩

set_option maxRecDepth 10000 in
set_option maxHeartbeats 1600000 in
theorem nearOver_at (nx ny mo : Bool) (vx vy : Value) (ex ey res : Int) (X Y k lr : Nat) (w : World) (hX : DN w vx X) (hY : DN w vy Y) (hX0 : X ≠ 0) (hY0 : Y ≠ 0) (hXd : nd X ≤ 100) (hYd : nd Y ≤ 100)
    (he : -10000 ≤ ex) (he' : ex ≤ 10000) (hf : -10000 ≤ ey) (hf' : ey ≤ 10000) (hk : max 0 (70 - (bl X : Int) + (bl Y : Int)) = (k : Int)) (hlr : Hid (nd (X * 2 ^ k % Y) = lr)) (hmo : decide (0 < lr) = mo) (hres : Hid (nearM nx (X * 2 ^ k / Y) (ex - k - ey) mo = res)) :
    Calls Try.prog 20 #[.agg #[.bool nx, vx, .int .i64 ex], .agg #[.bool ny, vy, .int .i64 ey]] w fun x w' => x = .returned (.int .u64 res) ∧ Below w.heap.size w w' := by
  have hbx := bl_nd X
  have hby := bl_nd Y
  have hk1 : k ≤ 10000 := by omega
  obtain ⟨px, lx, cx, rfl⟩ := dn_shape hX
  obtain ⟨py, ly, cy, rfl⟩ := dn_shape hY
  have HB0 : Hid (Below w.heap.size w (boxN (boxN w nx (.slice px lx cx) ex) ny (.slice py ly cy) ey)) := (boxN_below w nx (.slice px lx cx) ex).trans ((boxN_below (boxN w nx (.slice px lx cx) ex) ny (.slice py ly cy) ey).mono (by simp))
  have HZ := hide (box2_size w nx (.slice px lx cx) ex ny (.slice py ly cy) ey)
  have H60 := hide (six_box w nx (.slice px lx cx) ex ny (.slice py ly cy) ey)
  have HX := hide fun w' (hb : Below w.heap.size w w') => hX.below hb
  have HY := hide fun w' (hb : Below w.heap.size w w') => hY.below hb
  have HXn := hide hX0
  have HA0 : Hid (X * 2 ^ k ≠ 0) := by
    have := Nat.mul_pos (show 0 < X by omega) (Nat.two_pow_pos k)
    show X * 2 ^ k ≠ 0
    omega
  have HAd : Hid (nd (X * 2 ^ k) ≤ 10000) := by
    have h1 : X * 2 ^ k < 2 ^ (32 * nd X) * 2 ^ k := Nat.mul_lt_mul_of_pos_right (nd_lt X) (Nat.two_pow_pos _)
    rw [← Nat.pow_add] at h1
    have := nd_mono (N := X * 2 ^ k) (k := nd X + k / 32 + 1) (Nat.lt_of_lt_of_le h1 (Nat.pow_le_pow_right (by decide) (by omega)))
    show nd (X * 2 ^ k) ≤ 10000
    omega
  have HQd : Hid (nd (X * 2 ^ k / Y) ≤ 1000000) := by
    have := nd_mono (Nat.lt_of_le_of_lt (Nat.div_le_self (X * 2 ^ k) Y) (nd_lt (X * 2 ^ k)))
    have h2 := HAd.out
    show nd (X * 2 ^ k / Y) ≤ 1000000
    omega
  have HYp : Hid (0 < Y) := by show 0 < Y; omega
  have HXd := hide hXd
  have HYd := hide hYd
  obtain ⟨Bx, hBx⟩ : ∃ Bx : Int, (bl X : Int) = Bx := ⟨_, rfl⟩
  obtain ⟨By, hBy⟩ : ∃ By : Int, (bl Y : Int) = By := ⟨_, rfl⟩
  rw [hBx, hBy] at hk
  have b1 : 0 ≤ Bx := by omega
  have b2 : Bx ≤ 3200 := by omega
  have b3 : 0 ≤ By := by omega
  have b4 : By ≤ 3200 := by omega
  have HBx := hide hBx
  have HBy := hide hBy
  have f1 : IntKind.i64.wrap (70 - Bx) = 70 - Bx := by rw [IntKind.wrap_i64]; omega
  have f2 : IntKind.i64.wrap (70 - Bx + By) = 70 - Bx + By := by rw [IntKind.wrap_i64]; omega
  have f3 : IntKind.i64.wrap (ex - (k : Int)) = ex - (k : Int) := by rw [IntKind.wrap_i64]; omega
  have f4 : IntKind.i64.wrap (ex - (k : Int) - ey) = ex - (k : Int) - ey := by rw [IntKind.wrap_i64]; omega
  clear hX hY hX0 hY0 hBx hBy hbx hby hXd hYd
  go_enter Try.func20, Try.ntmps20
  go_wp2_with fail
  refine (zero_at _ _ _ X false _ (HX.out _ HB0.out) (decide_eq_false HXn.out)).mono ?_
  rintro x w1 ⟨rfl, hb1⟩
  have H61 := hide (H60.out.below hb1 (by rw [HZ.out]; omega))
  have hz1 : w.heap.size + 2 ≤ w1.heap.size := by have h9 := hb1.size; rw [HZ.out] at h9; exact h9
  have HB1 := hide (HB0.out.trans (hb1.mono HB0.out.size))
  obtain ⟨c0, c1, c2, c3, c4, c5⟩ := H61.out
  clear hb1
  go_wp2_with fail
  go_quiet ((first | (go_at_call_of 36 (Value.slice px lx cx); exact Calls.quiet_of_same (len_at (.slice px lx cx) X Bx _ (HX.out _ (below_drewN HB1.out _)) (by have := HXd.out; omega) HBx)) | (go_at_call_of 36 (Value.slice py ly cy); exact Calls.quiet_of_same (len_at (.slice py ly cy) Y By _ (HY.out _ (below_drewN HB1.out _)) (by have := HYd.out; omega) HBy))))
  obtain ⟨w2, hw2⟩ : ∃ w2, w2 = w1.drewN nq := ⟨_, rfl⟩
  rw [← hw2]
  have H62 : Hid (Six w2 w.heap.size nx (.slice px lx cx) ex ny (.slice py ly cy) ey) := by rw [hw2]; exact H61.out
  have hz2 : w.heap.size + 2 ≤ w2.heap.size := by rw [hw2]; exact hz1
  have HB2 : Hid (Below w.heap.size w w2) := by rw [hw2]; exact below_drewN HB1.out _
  clear hw2 c0 c1 c2 c3 c4 c5 H61 HB1 hz1 H60 HBx HBy hk
  obtain ⟨d0, d1, d2, d3, d4, d5⟩ := H62.out
  have HSh := hide (shiftUp_new (.slice px lx cx) X k w2.drew (HX.out _ HB2.out.drew) (by have := HXd.out; omega) (by omega))
  go_wp2_with fail
  go_region_held3 (fun w' => w'.cell? ⟨w.heap.size, 0, none⟩ = some (.bool nx) ∧ w'.cell? ⟨w.heap.size, 1, none⟩ = some (.slice px lx cx) ∧ w'.cell? ⟨w.heap.size, 2, none⟩ = some (.int .i64 ex) ∧ w'.cell? ⟨w.heap.size + 1, 0, none⟩ = some (.bool ny) ∧ w'.cell? ⟨w.heap.size + 1, 1, none⟩ = some (.slice py ly cy) ∧ w'.cell? ⟨w.heap.size + 1, 2, none⟩ = some (.int .i64 ey)) (first | exact H62.out | exact H63.out | exact H64.out | go_keep) (first | ((go_at_call 38; refine HSh.out.mono ?_; rintro x w3 ⟨v3, rfl, hd3, hf3, hb3⟩; have H63 := hide (Six.below (w := w2.drew) H62.out hb3 (show w.heap.size + 1 < w2.heap.size by omega)); have HB3 := hide (HB2.out.drew.trans (hb3.mono (show w.heap.size ≤ w2.heap.size by omega))); have hz3 : w.heap.size + 2 ≤ w3.heap.size := Nat.le_trans hz2 hb3.size; have HD3 := hide hd3; clear hd3 hf3 hb3)) | ((go_at_call 37; refine (divDigits_any _ (.slice py ly cy) (X * 2 ^ k) Y w3 HD3.out (HY.out _ HB3.out) HA0.out HYp.out HAd.out (by have := HYd.out; omega)).mono ?_; rintro x w4 ⟨vq, vr, rfl, hdq, hdr, hfq, hfr, hb4⟩; have H64 := hide (Six.below H63.out hb4 (show w.heap.size + 1 < w3.heap.size by omega)); have HB4 := hide (HB3.out.trans (hb4.mono HB3.out.size)); obtain ⟨pq, lq, cq, rfl⟩ := dn_shape hdq; obtain ⟨pr, cr, hvr⟩ := hdr.form; rw [hlr.out] at hvr; subst hvr; have HDq := hide hdq; clear hdq hdr hfq hfr hb4)))
  clear d0 d1 d2 d3 d4 d5
  obtain ⟨d0, d1, d2, d3, d4, d5⟩ := H64.out
  have HNr : Hid (Calls Try.prog 39 #[.agg #[.bool nx, .slice pq lq cq, .int .i64 (ex - (k : Int) - ey)], .bool mo] w4 fun x w' => x = .returned (.int .u64 res) ∧ Below w4.heap.size w4 w') := by
    rw [← hres.out]
    exact nearMore_any nx mo (.slice pq lq cq) (ex - (k : Int) - ey) (X * 2 ^ k / Y) w4 HDq.out HQd.out (by omega) (by omega)
  clear H62 H63 H64 HB3 HB2 HSh HD3 HX HY HDq HA0 HAd HQd HYp HXd HYd hres hlr f1 f2 f3 f4
  go_wp2_with fail
  refine HNr.out.mono ?_
  rintro x w5 ⟨rfl, hb5⟩
  have HB5 := hide (HB4.out.trans (hb5.mono HB4.out.size))
  clear hb5
  go_wp2_with fail
  go_ret
  exact ⟨rfl, HB5.out⟩
end Go.Proofs.Ytcbbbkngjdlcjaa
namespace Go.Proofs.Ytcbbbkngjdlcjaa
open Go.RowKit

/-- The bits of the number nearest to P / Q. -/
def yearK (X Y : Nat) : Nat := (70 - (bl X : Int) + (bl Y : Int)).toNat
def yearB (P Q : Int) : Int := if P = 0 then 0 else nearM (decide (P < 0)) (P.natAbs * 2 ^ yearK P.natAbs Q.natAbs / Q.natAbs) (0 - (yearK P.natAbs Q.natAbs : Int) - 0) (decide (0 < nd (P.natAbs * 2 ^ yearK P.natAbs Q.natAbs % Q.natAbs)))

set_option maxHeartbeats 400000 in
theorem nearOver_zero (nx ny : Bool) (vx vy : Value) (ex ey : Int) (w : World) (hX : DN w vx 0) :
    Calls Try.prog 20 #[.agg #[.bool nx, vx, .int .i64 ex], .agg #[.bool ny, vy, .int .i64 ey]] w fun x w' => x = .returned (.int .u64 0) ∧ Below w.heap.size w w' := by
  have HB0 : Hid (Below w.heap.size w (boxN (boxN w nx vx ex) ny vy ey)) := (boxN_below w nx vx ex).trans ((boxN_below (boxN w nx vx ex) ny vy ey).mono (by simp))
  have HZr := hide fun w' (hb : Below w.heap.size w w') => zero_at nx vx ex 0 true w' (hX.below hb) rfl
  clear hX
  go_enter Try.func20, Try.ntmps20
  go_wp2_with fail
  refine (HZr.out _ HB0.out).mono ?_
  rintro x w1 ⟨rfl, hb1⟩
  have HB1 := hide (HB0.out.trans (hb1.mono HB0.out.size))
  clear hb1
  go_wp2_with fail
  go_ret
  exact ⟨rfl, HB1.out⟩

theorem over_year (P Q : Int) (ny : Bool) (vx vy : Value) (w : World) (hX : DN w vx P.natAbs) (hY : DN w vy Q.natAbs) (hP : -1000000000 ≤ P) (hP' : P ≤ 1000000000) (hQ : 0 < Q) (hQ' : Q ≤ 1000000000) :
    Calls Try.prog 20 #[.agg #[.bool (decide (P < 0)), vx, .int .i64 0], .agg #[.bool ny, vy, .int .i64 0]] w fun x w' => x = .returned (.int .u64 (yearB P Q)) ∧ Below w.heap.size w w' := by
  unfold yearB
  by_cases h0 : P = 0
  · subst h0
    rw [if_pos rfl]
    exact nearOver_zero _ ny vx vy 0 0 w hX
  · rw [if_neg h0]
    have h1 : nd P.natAbs ≤ 1 := nd_mono (by simp; omega)
    have h2 : nd Q.natAbs ≤ 1 := nd_mono (by simp; omega)
    exact nearOver_at _ ny _ vx vy 0 0 _ P.natAbs Q.natAbs (yearK P.natAbs Q.natAbs) _ w hX hY (by omega) (by omega) (by omega) (by omega) (by omega) (by omega) (by omega) (by omega) (by unfold yearK; omega) rfl rfl rfl

def Two (b : Nat) (P Q : Int) (w : World) : Prop := w.cell? ⟨b, 0, none⟩ = some (.int .i64 P) ∧ w.cell? ⟨b, 1, none⟩ = some (.int .i64 Q)
theorem Two.below {w w' : World} {b s : Nat} {P Q : Int} (h : Two b P Q w) (hb : Below s w w') (hs : b < s) : Two b P Q w' :=
  ⟨(hb.cell (p := ⟨b, 0, none⟩) hs).trans h.1, (hb.cell (p := ⟨b, 1, none⟩) hs).trans h.2⟩
theorem boxed2 {w w1 : World} {P Q : Int} (h : Below w.heap.size w w1) :
    ∃ wa, w1.alloc (.cells #[.int .i64 P, .int .i64 Q] 31) = wa ∧ Hid (Two w1.heap.size P Q wa) ∧ Hid (w1.heap.size < wa.heap.size) ∧ Hid (Below w.heap.size w wa) :=
  ⟨_, rfl, ⟨(year_box h).1, (year_box h).2.1⟩, (by show w1.heap.size < _; simp), (year_box h).2.2⟩

set_option maxHeartbeats 3200000 in
theorem refYear_ok (kind W a b P Q : Int) (v : Value) (w : World) (hP : -1000000000 ≤ P) (hP' : P ≤ 1000000000) (hQ : 0 < Q) (hQ' : Q ≤ 1000000000)
    (HF : Hid (∀ wx, Below w.heap.size w wx → Calls Try.prog 11 #[.int .i64 kind, .agg #[.int .i64 W, v], .int .i64 a, .int .i64 b] wx fun e w' => e = .returned (.tuple #[.agg #[.int .i64 P, .int .i64 Q], .int .i64 0]) ∧ Below wx.heap.size wx w')) :
    Calls Try.prog 13 #[.int .i64 kind, .agg #[.int .i64 W, v], .int .i64 a, .int .i64 b] w fun e w' => e = .returned (.tuple #[.int .u64 (yearB P Q), .int .i64 0]) ∧ Below w.heap.size w w' := by
  have HB0 : Hid (Below w.heap.size w (w.alloc (.cells #[.int .i64 W, v] 24))) := (Below.refl w.heap.size w).alloc (Nat.le_refl _) _
  have H1 := hideS fun wx => whole_any P wx (by omega) (by omega)
  have H2 := hideS fun wx => whole_any Q wx (by omega) (by omega)
  have H3 := hideS fun ny vx vy wx hX hY => over_year P Q ny vx vy wx hX hY hP hP' hQ hQ'
  clear hP hP' hQ hQ'
  unfold NumV at H1 H2
  generalize yearB P Q = R at *
  generalize decide (P < 0) = np at *
  generalize decide (Q < 0) = nq at *
  generalize P.natAbs = X at *
  generalize Q.natAbs = Y at *
  go_enter Try.func13, Try.ntmps13
  go_wp2_with fail
  refine (HF.out _ HB0.out).mono ?_
  rintro e w1 ⟨rfl, hb1⟩
  have HB1 := hideS (HB0.out.trans (hb1.mono (by simp)))
  clear hb1
  go_wp2_with fail
  obtain ⟨wa, hwa, HS1, hz, HBa⟩ := boxed2 (P := P) (Q := Q) HB1.out
  rw [hwa]
  clear hwa
  generalize w1.heap.size = b at *
  go_region_held3 (fun w' => w'.cell? ⟨b, 0, none⟩ = some (.int .i64 P) ∧ w'.cell? ⟨b, 1, none⟩ = some (.int .i64 Q)) (first | exact HS1.out | exact HS2.out | exact HS3.out | exact HS4.out | go_keep) (first | ((go_at_call_of 21 (Value.int IntKind.i64 P); refine (H1.out _).mono ?_; rintro e w2 ⟨vx, rfl, hdx, hb2⟩; obtain ⟨px, lx, cx, rfl⟩ := dn_shape hdx; have HB2 := hideS (HBa.out.drew.trans (hb2.mono HBa.out.drew.size)); have HS2 := hideS (Two.below (w := wa.drew) HS1.out hb2 hz.out); have hz2 := hideS (Nat.lt_of_lt_of_le hz.out hb2.size); have HDx := hideS hdx; clear hb2 hdx)) | ((go_at_call_of 21 (Value.int IntKind.i64 Q); refine (H2.out _).mono ?_; rintro e w3 ⟨vy, rfl, hdy, hb3⟩; obtain ⟨py, ly, cy, rfl⟩ := dn_shape hdy; have HB3 := hideS (HB2.out.trans (hb3.mono HB2.out.size)); have HS3 := hideS (Two.below HS2.out hb3 hz2.out); have hz3 := hideS (Nat.lt_of_lt_of_le hz2.out hb3.size); have HDx3 := hideS (HDx.out.below hb3); have HDy := hideS hdy; clear hb3 hdy)) | ((go_at_call 20; refine (H3.out _ _ _ _ HDx3.out HDy.out).mono ?_; rintro e w4 ⟨rfl, hb4⟩; have HB4 := hideS (HB3.out.trans (hb4.mono HB3.out.size)); have HS4 := hideS (Two.below HS3.out hb4 hz3.out); clear hb4)))
  all_goals
    go_wp2_with fail
    go_ret2
    exact ⟨rfl, HB4.out⟩
end Go.Proofs.Ytcbbbkngjdlcjaa
