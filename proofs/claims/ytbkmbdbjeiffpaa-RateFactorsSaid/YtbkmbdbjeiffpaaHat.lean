/- The contract of the document's NearOver. The contract of the document's Div at any bits. -/
import Derived.Test.YtbkmbdbjeiffpaaHap
import Derived.Test.YtbkmbdbjeiffpaaHas
namespace Go.Proofs.Ytbkmbdbjeiffpaa
open Go.RowKit

theorem len_wit (v : Value) (N : Nat) (B : Int) (w : World) (h : DN w v N) (hb : nd N ≤ 100000000) (hB : Hid ((bl N : Int) = B)) :
    Calls Try.prog 58 #[v] w fun e w' => e = .returned (.int .i64 B) ∧ w = w' :=
  (len_at v N B w h hb hB).mono fun _ _ ⟨a, b⟩ => ⟨a, b.symm⟩

set_option maxRecDepth 10000 in
set_option maxHeartbeats 1600000 in
theorem nearOver_at (nx ny mo : Bool) (vx vy : Value) (ex ey res : Int) (X Y k lr : Nat) (w : World) (hX : DN w vx X) (hY : DN w vy Y) (hX0 : X ≠ 0) (hY0 : Y ≠ 0) (hXd : nd X ≤ 300) (hYd : nd Y ≤ 100)
    (he : -10000 ≤ ex) (he' : ex ≤ 10000) (hf : -10000 ≤ ey) (hf' : ey ≤ 10000) (hk : max 0 (70 - (bl X : Int) + (bl Y : Int)) = (k : Int)) (hlr : Hid (nd (X * 2 ^ k % Y) = lr)) (hmo : decide (0 < lr) = mo) (hres : Hid (nearM nx (X * 2 ^ k / Y) (ex - k - ey) mo = res)) :
    Calls Try.prog 53 #[.agg #[.bool nx, vx, .int .i64 ex], .agg #[.bool ny, vy, .int .i64 ey]] w fun x w' => x = .returned (.int .u64 res) ∧ Below w.heap.size w w' := by
  have hbx := bl_nd X
  have hby := bl_nd Y
  have hk1 : k ≤ 10000 := by omega
  obtain ⟨px, lx, cx, rfl⟩ := dn_shape hX
  obtain ⟨py, ly, cy, rfl⟩ := dn_shape hY
  have HB0 : Hid (Below w.heap.size w (boxN (boxN w nx (.slice px lx cx) ex) ny (.slice py ly cy) ey)) := (boxN_below w nx (.slice px lx cx) ex).trans ((boxN_below (boxN w nx (.slice px lx cx) ex) ny (.slice py ly cy) ey).mono (by simp))
  have HZ := hide (box2_size w nx (.slice px lx cx) ex ny (.slice py ly cy) ey)
  have H60 := hide (six_box w nx (.slice px lx cx) ex ny (.slice py ly cy) ey)
  have HX := hide fun w' (hb : Below w.heap.size w w') => hX.below hb
  have HY := hide fun w' (hb : Below w.heap.size w w') => hY.below hb
  have HXn := hide hX0
  have HA0 : Hid (X * 2 ^ k ≠ 0) := by
    have := Nat.mul_pos (show 0 < X by omega) (Nat.two_pow_pos k)
    show X * 2 ^ k ≠ 0
    omega
  have HAd : Hid (nd (X * 2 ^ k) ≤ 10000) := by
    have h1 : X * 2 ^ k < 2 ^ (32 * nd X) * 2 ^ k := Nat.mul_lt_mul_of_pos_right (nd_lt X) (Nat.two_pow_pos _)
    rw [← Nat.pow_add] at h1
    have := nd_mono (N := X * 2 ^ k) (k := nd X + k / 32 + 1) (Nat.lt_of_lt_of_le h1 (Nat.pow_le_pow_right (by decide) (by omega)))
    show nd (X * 2 ^ k) ≤ 10000
    omega
  have HQd : Hid (nd (X * 2 ^ k / Y) ≤ 1000000) := by
    have := nd_mono (Nat.lt_of_le_of_lt (Nat.div_le_self (X * 2 ^ k) Y) (nd_lt (X * 2 ^ k)))
    have h2 := HAd.out
    show nd (X * 2 ^ k / Y) ≤ 1000000
    omega
  have HYp : Hid (0 < Y) := by show 0 < Y; omega
  have HXd := hide hXd
  have HYd := hide hYd
  obtain ⟨Bx, hBx⟩ : ∃ Bx : Int, (bl X : Int) = Bx := ⟨_, rfl⟩
  obtain ⟨By, hBy⟩ : ∃ By : Int, (bl Y : Int) = By := ⟨_, rfl⟩
  rw [hBx, hBy] at hk
  have b1 : 0 ≤ Bx := by omega
  have b2 : Bx ≤ 9600 := by omega
  have b3 : 0 ≤ By := by omega
  have b4 : By ≤ 3200 := by omega
  have HBx := hide hBx
  have HBy := hide hBy
  have f1 : IntKind.i64.wrap (70 - Bx) = 70 - Bx := by rw [IntKind.wrap_i64]; omega
  have f2 : IntKind.i64.wrap (70 - Bx + By) = 70 - Bx + By := by rw [IntKind.wrap_i64]; omega
  have f3 : IntKind.i64.wrap (ex - (k : Int)) = ex - (k : Int) := by rw [IntKind.wrap_i64]; omega
  have f4 : IntKind.i64.wrap (ex - (k : Int) - ey) = ex - (k : Int) - ey := by rw [IntKind.wrap_i64]; omega
  clear hX hY hX0 hY0 hBx hBy hbx hby hXd hYd
  go_enter Try.func53, Try.ntmps53
  go_wp2_with fail
  refine (zero_at _ _ _ X false _ (HX.out _ HB0.out) (decide_eq_false HXn.out)).mono ?_
  rintro x w1 ⟨rfl, hb1⟩
  have H61 := hide (H60.out.below hb1 (by rw [HZ.out]; omega))
  have hz1 : w.heap.size + 2 ≤ w1.heap.size := by have h9 := hb1.size; rw [HZ.out] at h9; exact h9
  have HB1 := hide (HB0.out.trans (hb1.mono HB0.out.size))
  obtain ⟨c0, c1, c2, c3, c4, c5⟩ := H61.out
  clear hb1
  go_wp2_with fail
  go_quiet ((first | (go_at_call_of 58 (Value.slice px lx cx); exact Calls.quiet_of_same (len_at (.slice px lx cx) X Bx _ (HX.out _ (below_drewN HB1.out _)) (by have := HXd.out; omega) HBx)) | (go_at_call_of 58 (Value.slice py ly cy); exact Calls.quiet_of_same (len_at (.slice py ly cy) Y By _ (HY.out _ (below_drewN HB1.out _)) (by have := HYd.out; omega) HBy))))
  obtain ⟨w2, hw2⟩ : ∃ w2, w2 = w1.drewN nq := ⟨_, rfl⟩
  rw [← hw2]
  have H62 : Hid (Six w2 w.heap.size nx (.slice px lx cx) ex ny (.slice py ly cy) ey) := by rw [hw2]; exact H61.out
  have hz2 : w.heap.size + 2 ≤ w2.heap.size := by rw [hw2]; exact hz1
  have HB2 : Hid (Below w.heap.size w w2) := by rw [hw2]; exact below_drewN HB1.out _
  clear hw2 c0 c1 c2 c3 c4 c5 H61 HB1 hz1 H60 HBx HBy hk
  obtain ⟨d0, d1, d2, d3, d4, d5⟩ := H62.out
  have HSh := hide (shiftUp_new (.slice px lx cx) X k w2.drew (HX.out _ HB2.out.drew) (by have := HXd.out; omega) (by omega))
  go_wp2_with fail
  go_region_held3 (fun w' => w'.cell? ⟨w.heap.size, 0, none⟩ = some (.bool nx) ∧ w'.cell? ⟨w.heap.size, 1, none⟩ = some (.slice px lx cx) ∧ w'.cell? ⟨w.heap.size, 2, none⟩ = some (.int .i64 ex) ∧ w'.cell? ⟨w.heap.size + 1, 0, none⟩ = some (.bool ny) ∧ w'.cell? ⟨w.heap.size + 1, 1, none⟩ = some (.slice py ly cy) ∧ w'.cell? ⟨w.heap.size + 1, 2, none⟩ = some (.int .i64 ey)) (first | exact H62.out | exact H63.out | exact H64.out | go_keep) (first | ((go_at_call 73; refine HSh.out.mono ?_; rintro x w3 ⟨v3, rfl, hd3, hf3, hb3⟩; have H63 := hide (Six.below (w := w2.drew) H62.out hb3 (show w.heap.size + 1 < w2.heap.size by omega)); have HB3 := hide (HB2.out.drew.trans (hb3.mono (show w.heap.size ≤ w2.heap.size by omega))); have hz3 : w.heap.size + 2 ≤ w3.heap.size := Nat.le_trans hz2 hb3.size; have HD3 := hide hd3; clear hd3 hf3 hb3)) | ((go_at_call 72; refine (divDigits_any _ (.slice py ly cy) (X * 2 ^ k) Y w3 HD3.out (HY.out _ HB3.out) HA0.out HYp.out HAd.out (by have := HYd.out; omega)).mono ?_; rintro x w4 ⟨vq, vr, rfl, hdq, hdr, hfq, hfr, hb4⟩; have H64 := hide (Six.below H63.out hb4 (show w.heap.size + 1 < w3.heap.size by omega)); have HB4 := hide (HB3.out.trans (hb4.mono HB3.out.size)); obtain ⟨pq, lq, cq, rfl⟩ := dn_shape hdq; obtain ⟨pr, cr, hvr⟩ := hdr.form; rw [hlr.out] at hvr; subst hvr; have HDq := hide hdq; clear hdq hdr hfq hfr hb4)))
  clear d0 d1 d2 d3 d4 d5
  obtain ⟨d0, d1, d2, d3, d4, d5⟩ := H64.out
  have HNr : Hid (Calls Try.prog 64 #[.agg #[.bool nx, .slice pq lq cq, .int .i64 (ex - (k : Int) - ey)], .bool mo] w4 fun x w' => x = .returned (.int .u64 res) ∧ Below w4.heap.size w4 w') := by
    rw [← hres.out]
    exact nearMore_any nx mo (.slice pq lq cq) (ex - (k : Int) - ey) (X * 2 ^ k / Y) w4 HDq.out HQd.out (by omega) (by omega)
  clear H62 H63 H64 HB3 HB2 HSh HD3 HX HY HDq HA0 HAd HQd HYp HXd HYd hres hlr f1 f2 f3 f4
  go_wp2_with fail
  refine HNr.out.mono ?_
  rintro x w5 ⟨rfl, hb5⟩
  have HB5 := hide (HB4.out.trans (hb5.mono HB4.out.size))
  clear hb5
  go_wp2_with fail
  go_ret
  exact ⟨rfl, HB5.out⟩
end Go.Proofs.Ytbkmbdbjeiffpaa
namespace Go.Proofs.Ytbkmbdbjeiffpaa
open Go.RowKit

theorem quo_none {x y : Nat} (h : (x % 9223372036854775808 = 9218868437227405312 ∧ y % 9223372036854775808 = 9218868437227405312) ∨ (x % 9223372036854775808 = 0 ∧ y % 9223372036854775808 = 0)) : floatBits .quo .f64 x y = none := by
  show ((Ieee.double.read x).quotient 54 (Ieee.double.read y)).map Ieee.double.write = _
  rcases h with ⟨hx, hy⟩ | ⟨hx, hy⟩
  · rw [read_inf hx, read_inf hy]; rfl
  · rw [read_num (by omega), read_num (by omega), hx, hy]; rfl
theorem quo_inf {x y : Nat} (hx : x % 9223372036854775808 = 9218868437227405312) (hy : NumB y) : floatBits .quo .f64 x y = some (wrd (sB x ^^ sB y) 9218868437227405312) := by
  show ((Ieee.double.read x).quotient 54 (Ieee.double.read y)).map Ieee.double.write = _
  rw [read_inf hx, read_num hy]
  show some (Ieee.double.write (.infinity _)) = _
  rw [write_inf]; rfl
theorem quo_by_zero {x y : Nat} (hx : NumB x) (h0 : x % 9223372036854775808 ≠ 0) (hy : y % 9223372036854775808 = 0) : floatBits .quo .f64 x y = some (wrd (sB x ^^ sB y) 9218868437227405312) := by
  have hm := mg_pos h0
  show ((Ieee.double.read x).quotient 54 (Ieee.double.read y)).map Ieee.double.write = _
  rw [read_num hx, read_num (b := y) (by omega), hy, show mg 0 = 0 by decide]
  show (if mg (x % 9223372036854775808) = 0 then none else some (Ieee.Datum.infinity (_ ^^ _))).map Ieee.double.write = _
  rw [if_neg hm]
  show some (Ieee.double.write (.infinity _)) = _
  rw [write_inf]; rfl
theorem write_none (s : Bool) (i : Int) : Ieee.double.write (.number s 0 i) = wrd s 0 := by
  show Ieee.double.nearest s 0 i = _
  rw [nearest_zero, word_eq]
theorem quo_by_inf {x y : Nat} (hx : NumB x) (hy : y % 9223372036854775808 = 9218868437227405312) : floatBits .quo .f64 x y = some (wrd (sB x ^^ sB y) 0) := by
  show ((Ieee.double.read x).quotient 54 (Ieee.double.read y)).map Ieee.double.write = _
  rw [read_num hx, read_inf hy]
  show some (Ieee.double.write (.number _ 0 0)) = _
  rw [write_none]; rfl
theorem quo_parts (s t : Bool) (m n : Nat) (i j : Int) (hn : n ≠ 0) : ((Ieee.Datum.number s m i).quotient 54 (.number t n j)).map Ieee.double.write = some (Ieee.double.nearest (s ^^ t) (2 * (m * 2 ^ (54 + n.log2 - m.log2) / n) + (m * 2 ^ (54 + n.log2 - m.log2) % n != 0).toNat) (i - j - ((54 + n.log2 - m.log2 : Nat) : Int) - 1)) := by
  show (if n = 0 then _ else some (Ieee.Datum.number (s ^^ t) (2 * ((m <<< (54 + n.log2 - m.log2)) / n) + ((m <<< (54 + n.log2 - m.log2)) % n != 0).toNat) (i - j - ((54 + n.log2 - m.log2 : Nat) : Int) - 1))).map Ieee.double.write = _
  rw [if_neg hn, Nat.shiftLeft_eq]
  rfl
theorem quo_zero {x y : Nat} (hx : x % 9223372036854775808 = 0) (hy : NumB y) (h0 : y % 9223372036854775808 ≠ 0) : floatBits .quo .f64 x y = some (wrd (sB x ^^ sB y) 0) := by
  have hm := mg_pos h0
  show ((Ieee.double.read x).quotient 54 (Ieee.double.read y)).map Ieee.double.write = _
  rw [read_num (b := x) (by omega), read_num hy, hx, quo_parts _ _ _ _ _ _ hm, show mg 0 = 0 by decide, Nat.zero_mul, Nat.zero_div, Nat.zero_mod]
  show some (Ieee.double.nearest _ 0 _) = _
  rw [nearest_zero, word_eq]; rfl
theorem quoS_eq (X Y k : Nat) : 2 * (X * 2 ^ k / Y) + (X * 2 ^ k % Y != 0).toNat = quoS X Y k := by
  unfold quoS
  congr 1
  by_cases h : X * 2 ^ k % Y = 0
  · rw [if_pos h, h]; rfl
  · rw [if_neg h, show (X * 2 ^ k % Y != 0) = true by simpa using h]; rfl
theorem quo_num {x y : Nat} (hx : NumB x) (hy : NumB y) (h0 : x % 9223372036854775808 ≠ 0) (h1 : y % 9223372036854775808 ≠ 0) {X Y : Nat} {ex ey : Int} (hX : X = mg (x % 9223372036854775808)) (hY : Y = mg (y % 9223372036854775808)) (hex : ex = -1074 + (pl (x % 9223372036854775808) : Int)) (hey : ey = -1074 + (pl (y % 9223372036854775808) : Int)) {k : Nat} (hk : 54 + Y.log2 - X.log2 ≤ k) :
    floatBits .quo .f64 x y = some (wrd (sB x ^^ sB y) (nearR (quoS X Y k) (ex - ey - 1 - k))) := by
  have hX0 : X ≠ 0 := by rw [hX]; exact mg_pos h0
  have hY0 : Y ≠ 0 := by rw [hY]; exact mg_pos h1
  show ((Ieee.double.read x).quotient 54 (Ieee.double.read y)).map Ieee.double.write = _
  rw [read_num hx, read_num hy, ← hX, ← hY, ← hex, ← hey, quo_parts _ _ _ _ _ _ hY0, quoS_eq]
  have hq := quo_bits hX0 hY0 (k := 54 + Y.log2 - X.log2) (by omega)
  have hq0 : quoS X Y (54 + Y.log2 - X.log2) ≠ 0 := by intro h; rw [h] at hq; exact absurd hq.2 (by decide)
  rw [nearest_eq _ hq0, word_eq]
  have := near_quo (X := X) (Y := Y) (p := ex - ey - 1) (by omega) hk hq.2
  rw [← this, show ex - ey - ((54 + Y.log2 - X.log2 : Nat) : Int) - 1 = ex - ey - 1 - ((54 + Y.log2 - X.log2 : Nat) : Int) by omega]
  rfl

set_option maxHeartbeats 1600000 in
theorem refDiv_nan (u v : Int) (w : World) (h : U64 u) (h' : U64 v) (hc : nanB u = true ∨ (nanB u = false ∧ nanB v = true) ∨ (nanB u = false ∧ nanB v = false ∧ infB u = true ∧ infB v = true) ∨ (nanB u = false ∧ nanB v = false ∧ infB u = false ∧ (szI u == 0) = true ∧ (szI v == 0) = true)) :
    Calls Try.prog 28 #[.int .u64 u, .int .u64 v] w fun e w' => e = .returned (.int .u64 9221120237041090561) ∧ w' = w := by
  have hS := xor_sg h h'
  rcases hc with h1 | ⟨h1, h2⟩ | ⟨h1, h2, h3, h4⟩ | ⟨h1, h2, h3, h4, h5⟩
  all_goals
    go_enter Try.func28, Try.ntmps28
    go_wp2_with (first | (go_at_call_of 47 (Value.int IntKind.u64 u); refine (refNaN_any u _ h).mono ?_; rintro e w' ⟨rfl, rfl⟩) | (go_at_call_of 47 (Value.int IntKind.u64 v); refine (refNaN_any v _ h').mono ?_; rintro e w' ⟨rfl, rfl⟩) | (go_at_call_of 48 (Value.int IntKind.u64 u); refine (refInf_any u _ h).mono ?_; rintro e w' ⟨rfl, rfl⟩) | (go_at_call_of 48 (Value.int IntKind.u64 v); refine (refInf_any v _ h').mono ?_; rintro e w' ⟨rfl, rfl⟩) | (go_at_call_of 32 (Value.int IntKind.u64 u); refine (refSize_any u _ h).mono ?_; rintro e w' ⟨rfl, rfl⟩) | (go_at_call_of 32 (Value.int IntKind.u64 v); refine (refSize_any v _ h').mono ?_; rintro e w' ⟨rfl, rfl⟩))
    go_ret
    exact ⟨rfl, rfl⟩

set_option maxHeartbeats 1600000 in
theorem refDiv_inf (u v S : Int) (w : World) (h : U64 u) (h' : U64 v) (hS : bits .and .u64 (bits .xor .u64 u v) 9223372036854775808 = S) (hS0 : 0 ≤ S) (hS1 : S ≤ 9223372036854775808) (hn : nanB u = false) (hn' : nanB v = false) (hz : (szI u == 0) = false) (hc : (infB u = true ∧ infB v = false) ∨ (infB u = false ∧ (szI v == 0) = true)) :
    Calls Try.prog 28 #[.int .u64 u, .int .u64 v] w fun e w' => e = .returned (.int .u64 (S + 9218868437227405312)) ∧ w' = w := by
  rcases hc with ⟨h1, h2⟩ | ⟨h1, h2⟩
  all_goals
    go_enter Try.func28, Try.ntmps28
    go_wp2_with (first | (go_at_call_of 47 (Value.int IntKind.u64 u); refine (refNaN_any u _ h).mono ?_; rintro e w' ⟨rfl, rfl⟩) | (go_at_call_of 47 (Value.int IntKind.u64 v); refine (refNaN_any v _ h').mono ?_; rintro e w' ⟨rfl, rfl⟩) | (go_at_call_of 48 (Value.int IntKind.u64 u); refine (refInf_any u _ h).mono ?_; rintro e w' ⟨rfl, rfl⟩) | (go_at_call_of 48 (Value.int IntKind.u64 v); refine (refInf_any v _ h').mono ?_; rintro e w' ⟨rfl, rfl⟩) | (go_at_call_of 32 (Value.int IntKind.u64 u); refine (refSize_any u _ h).mono ?_; rintro e w' ⟨rfl, rfl⟩) | (go_at_call_of 32 (Value.int IntKind.u64 v); refine (refSize_any v _ h').mono ?_; rintro e w' ⟨rfl, rfl⟩))
    go_ret
    exact ⟨rfl, rfl⟩

set_option maxHeartbeats 1600000 in
theorem refDiv_zero (u v S : Int) (w : World) (h : U64 u) (h' : U64 v) (hS : bits .and .u64 (bits .xor .u64 u v) 9223372036854775808 = S) (hn : nanB u = false) (hn' : nanB v = false) (hi : infB u = false) (hz : (szI v == 0) = false) (hc : (infB v = true ∧ (szI u == 0) = true) ∨ (infB v = true ∧ (szI u == 0) = false) ∨ (infB v = false ∧ (szI u == 0) = true)) :
    Calls Try.prog 28 #[.int .u64 u, .int .u64 v] w fun e w' => e = .returned (.int .u64 S) ∧ w' = w := by
  rcases hc with ⟨h1, h2⟩ | ⟨h1, h2⟩ | ⟨h1, h2⟩
  all_goals
    go_enter Try.func28, Try.ntmps28
    go_wp2_with (first | (go_at_call_of 47 (Value.int IntKind.u64 u); refine (refNaN_any u _ h).mono ?_; rintro e w' ⟨rfl, rfl⟩) | (go_at_call_of 47 (Value.int IntKind.u64 v); refine (refNaN_any v _ h').mono ?_; rintro e w' ⟨rfl, rfl⟩) | (go_at_call_of 48 (Value.int IntKind.u64 u); refine (refInf_any u _ h).mono ?_; rintro e w' ⟨rfl, rfl⟩) | (go_at_call_of 48 (Value.int IntKind.u64 v); refine (refInf_any v _ h').mono ?_; rintro e w' ⟨rfl, rfl⟩) | (go_at_call_of 32 (Value.int IntKind.u64 u); refine (refSize_any u _ h).mono ?_; rintro e w' ⟨rfl, rfl⟩) | (go_at_call_of 32 (Value.int IntKind.u64 v); refine (refSize_any v _ h').mono ?_; rintro e w' ⟨rfl, rfl⟩))
    go_ret
    exact ⟨rfl, rfl⟩

theorem zero_V2 {r : Nat} (h : V r = 0) : r = 0 := by
  have := V_eq_iff (r := r) (s := 0)
  rw [V_zero] at this
  exact this.1 h
theorem sbit_sz (s : Bool) {r : Nat} (h : r ≤ 9218868437227405312) : U64 (sbit s + (r : Int)) ∧ szI (sbit s + (r : Int)) = r := by
  unfold sbit U64 szI
  cases s <;> simp only [Bool.false_eq_true, if_true, if_false] <;> omega
theorem mod_mod63 (x : Nat) : x % 9223372036854775808 % 9223372036854775808 = x % 9223372036854775808 := Nat.mod_mod _ _
/-- What NearOver tells of two sizes. -/
theorem over_val {x y X Y k : Nat} {nx : Bool} {ex ey : Int} (hx : OfR (x % 9223372036854775808) nx X ex) {ny : Bool} (hy : OfR (y % 9223372036854775808) ny Y ey) (hnx : NumB x) (hny : NumB y) (h0 : x % 9223372036854775808 ≠ 0) (h1 : y % 9223372036854775808 ≠ 0) (hX0 : X ≠ 0) (hY0 : Y ≠ 0) (hk : max 0 (70 - (bl X : Int) + (bl Y : Int)) = (k : Int)) (more : Bool) (hmo : decide (0 < nd (X * 2 ^ k % Y)) = more) :
    ∃ r : Nat, r ≤ 9218868437227405312 ∧ floatBits .quo .f64 x y = some (wrd (sB x ^^ sB y) r) ∧ U64 (nearM nx (X * 2 ^ k / Y) (ex - k - ey) more) ∧ szI (nearM nx (X * 2 ^ k / Y) (ex - k - ey) more) = r := by
  obtain ⟨a1, a2⟩ := hx.mag hX0
  obtain ⟨b1, b2⟩ := hy.mag hY0
  rw [mod_mod63] at a1 a2 b1 b2
  have hbx := bl_pos hX0
  have hby := bl_pos hY0
  have hkk : 54 + Y.log2 - X.log2 ≤ k := by omega
  have hq := quo_num hnx hny h0 h1 a1 b1 a2 b2 hkk
  have hb := quo_bits hX0 hY0 (k := k) (by omega)
  refine ⟨nearR (quoS X Y k) (ex - ey - 1 - (k : Int)), Nat.min_le_right _ _, hq, ?_⟩
  rw [nearM_more nx more _ hb.1]
  have e : 2 * (X * 2 ^ k / Y) + (if more = true then 1 else 0) = quoS X Y k := by
    unfold quoS
    congr 1
    by_cases hr : X * 2 ^ k % Y = 0
    · rw [hr] at hmo
      rw [if_pos hr, ← hmo]; rfl
    · have := nd_pos hr
      rw [if_neg hr, ← hmo, if_pos (decide_eq_true (show 0 < nd (X * 2 ^ k % Y) from this))]
  rw [e, show ex - (k : Int) - ey - 1 = ex - ey - 1 - (k : Int) by omega]
  have hle : nearR (quoS X Y k) (ex - ey - 1 - (k : Int)) ≤ 9218868437227405312 := Nat.min_le_right _ _
  generalize nearR (quoS X Y k) (ex - ey - 1 - (k : Int)) = r at hle
  exact sbit_sz nx hle

set_option maxRecDepth 10000 in
set_option maxHeartbeats 1600000 in
theorem refDiv_num (x y r : Nat) (u v S R : Int) (w : World) (hu : Hid (u = (x : Int))) (hv : Hid (v = (y : Int))) (h : U64 u) (h' : U64 v) (hx : NumB x) (hy : NumB y) (h0 : Hid (x % 9223372036854775808 ≠ 0)) (h1 : Hid (y % 9223372036854775808 ≠ 0)) (hS : bits .and .u64 (bits .xor .u64 u v) 9223372036854775808 = S) (hS0 : 0 ≤ S) (hS1 : S ≤ 9223372036854775808) (hr : Hid (floatBits .quo .f64 x y = some (wrd (sB x ^^ sB y) r))) (hr2 : Hid (r ≤ 9218868437227405312)) (hR : Hid (R = (r : Int))) (hn : nanB u = false) (hn' : nanB v = false) (hi : infB u = false) (hi' : infB v = false) (hz : (szI u == 0) = false) (hz' : (szI v == 0) = false) :
    Calls Try.prog 28 #[.int .u64 u, .int .u64 v] w fun e w' => e = .returned (.int .u64 (S + R)) ∧ Below w.heap.size w w' := by
  have hR0 : 0 ≤ R := by rw [hR.out]; omega
  have hR1 : R ≤ 9218868437227405312 := by have := hr2.out; rw [hR.out]; omega
  have HX := hide hx
  have HY := hide hy
  have cx := bits_class hu.out
  have cy := bits_class hv.out
  obtain ⟨zu, hzu⟩ : ∃ zu, szI u = zu := ⟨_, rfl⟩
  obtain ⟨zv, hzv⟩ : ∃ zv, szI v = zv := ⟨_, rfl⟩
  rw [hzu] at cx hz
  rw [hzv] at cy hz'
  have HO1 : Hid (∀ w, Calls Try.prog 50 #[.int .u64 zu] w fun r w' => ∃ neg v N e, r = .returned (.agg #[.bool neg, v, .int .i64 e]) ∧ DN w' v N ∧ OfR (x % 9223372036854775808) neg N e ∧ Below w.heap.size w w') := fun w => of_num (x % 9223372036854775808) zu w cx (by rw [cx]; exact u64_of_nat (by omega)) (by unfold NumB at *; rw [mod_mod63]; exact hx)
  have HO2 : Hid (∀ w, Calls Try.prog 50 #[.int .u64 zv] w fun r w' => ∃ neg v N e, r = .returned (.agg #[.bool neg, v, .int .i64 e]) ∧ DN w' v N ∧ OfR (y % 9223372036854775808) neg N e ∧ Below w.heap.size w w') := fun w => of_num (y % 9223372036854775808) zv w cy (by rw [cy]; exact u64_of_nat (by omega)) (by unfold NumB at *; rw [mod_mod63]; exact hy)
  have HS1 := hide fun w => refSize_at u zu w h hzu
  have HS2 := hide fun w => refSize_at v zv w h' hzv
  have HN1 := hide (refNaN_any u · h)
  have HN2 := hide (refNaN_any v · h')
  have HI1 := hide (refInf_any u · h)
  have HI2 := hide (refInf_any v · h')
  rw [hn] at HN1
  rw [hn'] at HN2
  rw [hi] at HI1
  rw [hi'] at HI2
  clear hx hy hn hn' hi hi' h h' hzu hzv cx cy
  go_enter Try.func28, Try.ntmps28
  go_wp2_with (first | (go_at_call_of 47 (Value.int IntKind.u64 u); refine (turnedR (HN1.out _)).mono ?_; rintro e w' ⟨rfl, rfl⟩) | (go_at_call_of 47 (Value.int IntKind.u64 v); refine (turnedR (HN2.out _)).mono ?_; rintro e w' ⟨rfl, rfl⟩) | (go_at_call_of 48 (Value.int IntKind.u64 u); refine (turnedR (HI1.out _)).mono ?_; rintro e w' ⟨rfl, rfl⟩) | (go_at_call_of 48 (Value.int IntKind.u64 v); refine (turnedR (HI2.out _)).mono ?_; rintro e w' ⟨rfl, rfl⟩) | (go_at_call_of 32 (Value.int IntKind.u64 u); refine (HS1.out _).mono ?_; rintro e w' ⟨rfl, rfl⟩) | (go_at_call_of 32 (Value.int IntKind.u64 v); refine (HS2.out _).mono ?_; rintro e w' ⟨rfl, rfl⟩))
  refine (HO1.out _).mono ?_
  rintro r1 w1 ⟨nx, vx, X, ex, rfl, hdx, hX, hb1⟩
  have HB1 := hide hb1
  have HDx := hide hdx
  have HOX := hide hX
  clear hb1 hdx hX
  go_wp2_with fail
  refine (HS2.out _).mono ?_
  rintro e w' ⟨rfl, rfl⟩
  go_wp2_with fail
  refine (HO2.out _).mono ?_
  rintro r1 w2 ⟨ny, vy, Y, ey, rfl, hdy, hY, hb2⟩
  have HB2 := hide (HB1.out.trans (hb2.mono HB1.out.size))
  have HDx2 := hide (HDx.out.below hb2)
  have HDy := hide hdy
  have HOY := hide hY
  clear hb2 hdy hY HB1 HDx
  have HX0 : Hid (X ≠ 0) := fun e => h0.out (by have := HOX.out.val; rw [e, Nat.zero_mul] at this; unfold aV at this; rw [mod_mod63] at this; exact zero_V2 this.symm)
  have HY0 : Hid (Y ≠ 0) := fun e => h1.out (by have := HOY.out.val; rw [e, Nat.zero_mul] at this; unfold aV at this; rw [mod_mod63] at this; exact zero_V2 this.symm)
  obtain ⟨k, hk⟩ : ∃ k : Nat, max 0 (70 - (bl X : Int) + (bl Y : Int)) = (k : Int) := ⟨(max 0 (70 - (bl X : Int) + (bl Y : Int))).toNat, by omega⟩
  obtain ⟨mo, hmo⟩ : ∃ mo, decide (0 < nd (X * 2 ^ k % Y)) = mo := ⟨_, rfl⟩
  obtain ⟨r', p1, p2, p3, p4⟩ := over_val HOX.out HOY.out HX.out HY.out h0.out h1.out HX0.out HY0.out hk mo hmo
  have hrr : r' = r := by
    have e := hr.out
    rw [p2] at e
    have e2 : wrd (sB x ^^ sB y) r' = wrd (sB x ^^ sB y) r := Option.some.inj e
    unfold wrd at e2
    split at e2 <;> omega
  obtain ⟨res, hres⟩ : ∃ res, nearM nx (X * 2 ^ k / Y) (ex - k - ey) mo = res := ⟨_, rfl⟩
  rw [hres] at p3 p4
  rw [hrr, ← hR.out] at p4
  have HOv := hide (nearOver_at nx ny mo vx vy ex ey res X Y k _ w2 HDx2.out HDy.out HX0.out HY0.out (by have := nd_two HOX.out.lt; omega) (by have := nd_two HOY.out.lt; omega) (by have := HOX.out.lo; omega) (by have := HOX.out.hi; omega) (by have := HOY.out.lo; omega) (by have := HOY.out.hi; omega) hk rfl hmo hres)
  have HSz := hide fun w => refSize_at res R w p3 p4
  clear hk hmo hres p1 p2 p3 p4 hrr HX0 HY0 HOX HOY HDx2 HDy hr hr2
  go_wp2_with fail
  refine HOv.out.mono ?_
  rintro r1 w3 ⟨rfl, hb3⟩
  have HB3 := hide (HB2.out.trans (hb3.mono HB2.out.size))
  clear hb3 HOv HB2
  go_wp2_with fail
  refine (HSz.out _).mono ?_
  rintro r1 w' ⟨rfl, rfl⟩
  go_wp2_with fail
  go_ret
  exact ⟨rfl, HB3.out⟩

/-- The document's Div is the model's. -/
theorem refDiv_any (x y : Nat) (u v : Int) (w : World) (hu : Hid (u = (x : Int))) (hv : Hid (v = (y : Int))) (h : U64 u) (h' : U64 v) :
    Calls Try.prog 28 #[.int .u64 u, .int .u64 v] w fun e w' => e = .returned (.int .u64 (cn (floatBits .quo .f64 x y) : Int)) ∧ Below w.heap.size w w' := by
  have hS := xor_sg h h'
  obtain ⟨s0, s1⟩ := sbit_le (sgB u ^^ sgB v)
  have hx64 : x < 18446744073709551616 := by have := h.2; rw [hu.out] at this; omega
  have hy64 : y < 18446744073709551616 := by have := h'.2; rw [hv.out] at this; omega
  have hsx : sgB u = sB x := by rw [hu.out]; exact sgB_nat hx64
  have hsy : sgB v = sB y := by rw [hv.out]; exact sgB_nat hy64
  have cx := bits_class hu.out
  have cy := bits_class hv.out
  have zx : ∀ b, decide (x % 9223372036854775808 = 0) = b → (szI u == 0) = b := fun b e => by
    rw [← e, cx]; by_cases c : x % 9223372036854775808 = 0
    · rw [c]; rfl
    · rw [decide_eq_false c]; simp; omega
  have zy : ∀ b, decide (y % 9223372036854775808 = 0) = b → (szI v == 0) = b := fun b e => by
    rw [← e, cy]; by_cases c : y % 9223372036854775808 = 0
    · rw [c]; rfl
    · rw [decide_eq_false c]; simp; omega
  have same : ∀ {r : Int}, (Calls Try.prog 28 #[.int .u64 u, .int .u64 v] w fun e w' => e = .returned (.int .u64 r) ∧ w' = w) → (cn (floatBits .quo .f64 x y) : Int) = r → Calls Try.prog 28 #[.int .u64 u, .int .u64 v] w fun e w' => e = .returned (.int .u64 (cn (floatBits .quo .f64 x y) : Int)) ∧ Below w.heap.size w w' := fun hc e => by
    rw [e]
    exact hc.mono fun _ _ ⟨a, b⟩ => ⟨a, by rw [b]; exact Below.refl _ _⟩
  cases hn : nanB u with
  | true =>
    refine same (refDiv_nan u v w h h' (Or.inl hn)) ?_
    rw [nan_left (by rw [← hu.out]; exact hn)]; rfl
  | false =>
    cases hn' : nanB v with
    | true =>
      refine same (refDiv_nan u v w h h' (Or.inr (Or.inl ⟨hn, hn'⟩))) ?_
      rw [nan_right (by rw [← hv.out]; exact hn')]; rfl
    | false =>
      cases hi : infB u with
      | true =>
        have ix := inf_of hu.out hi
        cases hi' : infB v with
        | true =>
          have iy := inf_of hv.out hi'
          refine same (refDiv_nan u v w h h' (Or.inr (Or.inr (Or.inl ⟨hn, hn', hi, hi'⟩)))) ?_
          rw [quo_none (Or.inl ⟨ix, iy⟩)]; rfl
        | false =>
          have ny := num_of hv.out hn' hi'
          refine same (refDiv_inf u v _ w h h' hS s0 s1 hn hn' (zx _ (by rw [ix]; rfl)) (Or.inl ⟨hi, hi'⟩)) ?_
          rw [quo_inf ix ny, cn_some, wrd_sbit, hsx, hsy]; rfl
      | false =>
        have nx := num_of hu.out hn hi
        by_cases hyz : y % 9223372036854775808 = 0
        · by_cases hxz : x % 9223372036854775808 = 0
          · refine same (refDiv_nan u v w h h' (Or.inr (Or.inr (Or.inr ⟨hn, hn', hi, zx _ (decide_eq_true hxz), zy _ (decide_eq_true hyz)⟩)))) ?_
            rw [quo_none (Or.inr ⟨hxz, hyz⟩)]; rfl
          · refine same (refDiv_inf u v _ w h h' hS s0 s1 hn hn' (zx _ (decide_eq_false hxz)) (Or.inr ⟨hi, zy _ (decide_eq_true hyz)⟩)) ?_
            rw [quo_by_zero nx hxz hyz, cn_some, wrd_sbit, hsx, hsy]; rfl
        · cases hi' : infB v with
          | true =>
            have iy := inf_of hv.out hi'
            have e : (cn (floatBits .quo .f64 x y) : Int) = sbit (sgB u ^^ sgB v) := by rw [quo_by_inf nx iy, cn_some, wrd_sbit, hsx, hsy]; simp
            by_cases hxz : x % 9223372036854775808 = 0
            · exact same (refDiv_zero u v _ w h h' hS hn hn' hi (zy _ (decide_eq_false hyz)) (Or.inl ⟨hi', zx _ (decide_eq_true hxz)⟩)) e
            · exact same (refDiv_zero u v _ w h h' hS hn hn' hi (zy _ (decide_eq_false hyz)) (Or.inr (Or.inl ⟨hi', zx _ (decide_eq_false hxz)⟩))) e
          | false =>
            have ny := num_of hv.out hn' hi'
            by_cases hxz : x % 9223372036854775808 = 0
            · refine same (refDiv_zero u v _ w h h' hS hn hn' hi (zy _ (decide_eq_false hyz)) (Or.inr (Or.inr ⟨hi', zx _ (decide_eq_true hxz)⟩))) ?_
              rw [quo_zero hxz ny hyz, cn_some, wrd_sbit, hsx, hsy]; simp
            · obtain ⟨r, hr, hle⟩ : ∃ r, floatBits .quo .f64 x y = some (wrd (sB x ^^ sB y) r) ∧ r ≤ 9218868437227405312 := ⟨_, quo_num nx ny hxz hyz rfl rfl rfl rfl (Nat.le_refl _), Nat.min_le_right _ _⟩
              have e : (cn (floatBits .quo .f64 x y) : Int) = sbit (sgB u ^^ sgB v) + (r : Int) := by rw [hr, cn_some, wrd_sbit, hsx, hsy]
              rw [e]
              exact refDiv_num x y r u v _ _ w hu hv h h' nx ny hxz hyz hS s0 s1 hr hle rfl hn hn' hi hi' (zx _ (decide_eq_false hxz)) (zy _ (decide_eq_false hyz))
end Go.Proofs.Ytbkmbdbjeiffpaa
