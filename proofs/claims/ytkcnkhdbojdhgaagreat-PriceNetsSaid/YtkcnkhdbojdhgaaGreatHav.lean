/- The contract of the document's NearOver. The contract of the document's Div at any bits. The contract of the document's steep: a slope between two nodes. Quotients far below all numbers: how many bits are kept makes nothing. No word of the program. Sums divided by whole numbers and rounded once: they keep order, and tell numbers themselves. No word of the program. Four points that never fall: the polynomial through them never falls. No word of the program. A quotient rises with what is divided, and falls where the divisor rises: no word of the program. The contracts of the document's facts and Exp. -/
import Derived.Test.YtkcnkhdbojdhgaaGreatHat
import Derived.Test.YtkcnkhdbojdhgaaGreatHau
import Derived.Test.YtkcnkhdbojdhgaaGreatHal
import Derived.Deep.RegionHeld3
import Derived.Test.YtkcnkhdbojdhgaaGreatHaj
import Derived.Test.YtkcnkhdbojdhgaaGreatHak
import Derived.Test.YtkcnkhdbojdhgaaGreatHam
namespace Go.Proofs.YtkcnkhdbojdhgaaGreat
open Go.RowKit

set_option maxRecDepth 10000 in
set_option maxHeartbeats 1600000 in
theorem nearOver_at (nx ny mo : Bool) (vx vy : Value) (ex ey res : Int) (X Y k lr : Nat) (w : World) (hX : DN w vx X) (hY : DN w vy Y) (hX0 : X ≠ 0) (hY0 : Y ≠ 0) (hXd : nd X ≤ 300) (hYd : nd Y ≤ 100)
    (he : -10000 ≤ ex) (he' : ex ≤ 10000) (hf : -10000 ≤ ey) (hf' : ey ≤ 10000) (hk : max 0 (70 - (bl X : Int) + (bl Y : Int)) = (k : Int)) (hlr : Hid (nd (X * 2 ^ k % Y) = lr)) (hmo : decide (0 < lr) = mo) (hres : Hid (nearM nx (X * 2 ^ k / Y) (ex - k - ey) mo = res)) :
    Calls Tryz.prog 106 #[.agg #[.bool nx, vx, .int .i64 ex], .agg #[.bool ny, vy, .int .i64 ey]] w fun x w' => x = .returned (.int .u64 res) ∧ Below w.heap.size w w' := by
  have hbx := bl_nd X
  have hby := bl_nd Y
  have hk1 : k ≤ 10000 := by omega
  obtain ⟨px, lx, cx, rfl⟩ := dn_shape hX
  obtain ⟨py, ly, cy, rfl⟩ := dn_shape hY
  have HB0 : Hid (Below w.heap.size w (boxN (boxN w nx (.slice px lx cx) ex) ny (.slice py ly cy) ey)) := (boxN_below w nx (.slice px lx cx) ex).trans ((boxN_below (boxN w nx (.slice px lx cx) ex) ny (.slice py ly cy) ey).mono (by simp))
  have HZ := hide (box2_size w nx (.slice px lx cx) ex ny (.slice py ly cy) ey)
  have H60 := hide (six_box w nx (.slice px lx cx) ex ny (.slice py ly cy) ey)
  have HX := hide fun w' (hb : Below w.heap.size w w') => hX.below hb
  have HY := hide fun w' (hb : Below w.heap.size w w') => hY.below hb
  have HXn := hide hX0
  have HA0 : Hid (X * 2 ^ k ≠ 0) := by
    have := Nat.mul_pos (show 0 < X by omega) (Nat.two_pow_pos k)
    show X * 2 ^ k ≠ 0
    omega
  have HAd : Hid (nd (X * 2 ^ k) ≤ 10000) := by
    have h1 : X * 2 ^ k < 2 ^ (32 * nd X) * 2 ^ k := Nat.mul_lt_mul_of_pos_right (nd_lt X) (Nat.two_pow_pos _)
    rw [← Nat.pow_add] at h1
    have := nd_mono (N := X * 2 ^ k) (k := nd X + k / 32 + 1) (Nat.lt_of_lt_of_le h1 (Nat.pow_le_pow_right (by decide) (by omega)))
    show nd (X * 2 ^ k) ≤ 10000
    omega
  have HQd : Hid (nd (X * 2 ^ k / Y) ≤ 1000000) := by
    have := nd_mono (Nat.lt_of_le_of_lt (Nat.div_le_self (X * 2 ^ k) Y) (nd_lt (X * 2 ^ k)))
    have h2 := HAd.out
    show nd (X * 2 ^ k / Y) ≤ 1000000
    omega
  have HYp : Hid (0 < Y) := by show 0 < Y; omega
  have HXd := hide hXd
  have HYd := hide hYd
  obtain ⟨Bx, hBx⟩ : ∃ Bx : Int, (bl X : Int) = Bx := ⟨_, rfl⟩
  obtain ⟨By, hBy⟩ : ∃ By : Int, (bl Y : Int) = By := ⟨_, rfl⟩
  rw [hBx, hBy] at hk
  have b1 : 0 ≤ Bx := by omega
  have b2 : Bx ≤ 9600 := by omega
  have b3 : 0 ≤ By := by omega
  have b4 : By ≤ 3200 := by omega
  have HBx := hide hBx
  have HBy := hide hBy
  have f1 : IntKind.i64.wrap (70 - Bx) = 70 - Bx := by rw [IntKind.wrap_i64]; omega
  have f2 : IntKind.i64.wrap (70 - Bx + By) = 70 - Bx + By := by rw [IntKind.wrap_i64]; omega
  have f3 : IntKind.i64.wrap (ex - (k : Int)) = ex - (k : Int) := by rw [IntKind.wrap_i64]; omega
  have f4 : IntKind.i64.wrap (ex - (k : Int) - ey) = ex - (k : Int) - ey := by rw [IntKind.wrap_i64]; omega
  clear hX hY hX0 hY0 hBx hBy hbx hby hXd hYd
  go_enter Tryz.func106, Tryz.ntmps106
  go_wp2_with fail
  refine (zero_at _ _ _ X false _ (HX.out _ HB0.out) (decide_eq_false HXn.out)).mono ?_
  rintro x w1 ⟨rfl, hb1⟩
  have H61 := hide (H60.out.below hb1 (by rw [HZ.out]; omega))
  have hz1 : w.heap.size + 2 ≤ w1.heap.size := by have h9 := hb1.size; rw [HZ.out] at h9; exact h9
  have HB1 := hide (HB0.out.trans (hb1.mono HB0.out.size))
  obtain ⟨c0, c1, c2, c3, c4, c5⟩ := H61.out
  clear hb1
  go_wp2_with fail
  go_quiet ((first | (go_at_call_of 157 (Value.slice px lx cx); exact Calls.quiet_of_same (len_at (.slice px lx cx) X Bx _ (HX.out _ (below_drewN HB1.out _)) (by have := HXd.out; omega) HBx)) | (go_at_call_of 157 (Value.slice py ly cy); exact Calls.quiet_of_same (len_at (.slice py ly cy) Y By _ (HY.out _ (below_drewN HB1.out _)) (by have := HYd.out; omega) HBy))))
  obtain ⟨w2, hw2⟩ : ∃ w2, w2 = w1.drewN nq := ⟨_, rfl⟩
  rw [← hw2]
  have H62 : Hid (Six w2 w.heap.size nx (.slice px lx cx) ex ny (.slice py ly cy) ey) := by rw [hw2]; exact H61.out
  have hz2 : w.heap.size + 2 ≤ w2.heap.size := by rw [hw2]; exact hz1
  have HB2 : Hid (Below w.heap.size w w2) := by rw [hw2]; exact below_drewN HB1.out _
  clear hw2 c0 c1 c2 c3 c4 c5 H61 HB1 hz1 H60 HBx HBy hk
  obtain ⟨d0, d1, d2, d3, d4, d5⟩ := H62.out
  have HSh := hide (shiftUp_new (.slice px lx cx) X k w2.drew (HX.out _ HB2.out.drew) (by have := HXd.out; omega) (by omega))
  go_wp2_with fail
  go_region_held3 (fun w' => w'.cell? ⟨w.heap.size, 0, none⟩ = some (.bool nx) ∧ w'.cell? ⟨w.heap.size, 1, none⟩ = some (.slice px lx cx) ∧ w'.cell? ⟨w.heap.size, 2, none⟩ = some (.int .i64 ex) ∧ w'.cell? ⟨w.heap.size + 1, 0, none⟩ = some (.bool ny) ∧ w'.cell? ⟨w.heap.size + 1, 1, none⟩ = some (.slice py ly cy) ∧ w'.cell? ⟨w.heap.size + 1, 2, none⟩ = some (.int .i64 ey)) (first | exact H62.out | exact H63.out | exact H64.out | go_keep) (first | ((go_at_call 159; refine HSh.out.mono ?_; rintro x w3 ⟨v3, rfl, hd3, hf3, hb3⟩; have H63 := hide (Six.below (w := w2.drew) H62.out hb3 (show w.heap.size + 1 < w2.heap.size by omega)); have HB3 := hide (HB2.out.drew.trans (hb3.mono (show w.heap.size ≤ w2.heap.size by omega))); have hz3 : w.heap.size + 2 ≤ w3.heap.size := Nat.le_trans hz2 hb3.size; have HD3 := hide hd3; clear hd3 hf3 hb3)) | ((go_at_call 158; refine (divDigits_any _ (.slice py ly cy) (X * 2 ^ k) Y w3 HD3.out (HY.out _ HB3.out) HA0.out HYp.out HAd.out (by have := HYd.out; omega)).mono ?_; rintro x w4 ⟨vq, vr, rfl, hdq, hdr, hfq, hfr, hb4⟩; have H64 := hide (Six.below H63.out hb4 (show w.heap.size + 1 < w3.heap.size by omega)); have HB4 := hide (HB3.out.trans (hb4.mono HB3.out.size)); obtain ⟨pq, lq, cq, rfl⟩ := dn_shape hdq; obtain ⟨pr, cr, hvr⟩ := hdr.form; rw [hlr.out] at hvr; subst hvr; have HDq := hide hdq; clear hdq hdr hfq hfr hb4)))
  clear d0 d1 d2 d3 d4 d5
  obtain ⟨d0, d1, d2, d3, d4, d5⟩ := H64.out
  have HNr : Hid (Calls Tryz.prog 151 #[.agg #[.bool nx, .slice pq lq cq, .int .i64 (ex - (k : Int) - ey)], .bool mo] w4 fun x w' => x = .returned (.int .u64 res) ∧ Below w4.heap.size w4 w') := by
    rw [← hres.out]
    exact nearMore_any nx mo (.slice pq lq cq) (ex - (k : Int) - ey) (X * 2 ^ k / Y) w4 HDq.out HQd.out (by omega) (by omega)
  clear H62 H63 H64 HB3 HB2 HSh HD3 HX HY HDq HA0 HAd HQd HYp HXd HYd hres hlr f1 f2 f3 f4
  go_wp2_with fail
  refine HNr.out.mono ?_
  rintro x w5 ⟨rfl, hb5⟩
  have HB5 := hide (HB4.out.trans (hb5.mono HB4.out.size))
  clear hb5
  go_wp2_with fail
  go_ret
  exact ⟨rfl, HB5.out⟩
end Go.Proofs.YtkcnkhdbojdhgaaGreat
namespace Go.Proofs.YtkcnkhdbojdhgaaGreat
open Go.RowKit

theorem quo_none {x y : Nat} (h : (x % 9223372036854775808 = 9218868437227405312 ∧ y % 9223372036854775808 = 9218868437227405312) ∨ (x % 9223372036854775808 = 0 ∧ y % 9223372036854775808 = 0)) : floatBits .quo .f64 x y = none := by
  show ((Ieee.double.read x).quotient 54 (Ieee.double.read y)).map Ieee.double.write = _
  rcases h with ⟨hx, hy⟩ | ⟨hx, hy⟩
  · rw [read_inf hx, read_inf hy]; rfl
  · rw [read_num (by omega), read_num (by omega), hx, hy]; rfl
theorem quo_inf {x y : Nat} (hx : x % 9223372036854775808 = 9218868437227405312) (hy : NumB y) : floatBits .quo .f64 x y = some (wrd (sB x ^^ sB y) 9218868437227405312) := by
  show ((Ieee.double.read x).quotient 54 (Ieee.double.read y)).map Ieee.double.write = _
  rw [read_inf hx, read_num hy]
  show some (Ieee.double.write (.infinity _)) = _
  rw [write_inf]; rfl
theorem quo_by_zero {x y : Nat} (hx : NumB x) (h0 : x % 9223372036854775808 ≠ 0) (hy : y % 9223372036854775808 = 0) : floatBits .quo .f64 x y = some (wrd (sB x ^^ sB y) 9218868437227405312) := by
  have hm := mg_pos h0
  show ((Ieee.double.read x).quotient 54 (Ieee.double.read y)).map Ieee.double.write = _
  rw [read_num hx, read_num (b := y) (by omega), hy, show mg 0 = 0 by decide]
  show (if mg (x % 9223372036854775808) = 0 then none else some (Ieee.Datum.infinity (_ ^^ _))).map Ieee.double.write = _
  rw [if_neg hm]
  show some (Ieee.double.write (.infinity _)) = _
  rw [write_inf]; rfl
theorem write_none (s : Bool) (i : Int) : Ieee.double.write (.number s 0 i) = wrd s 0 := by
  show Ieee.double.nearest s 0 i = _
  rw [nearest_zero, word_eq]
theorem quo_by_inf {x y : Nat} (hx : NumB x) (hy : y % 9223372036854775808 = 9218868437227405312) : floatBits .quo .f64 x y = some (wrd (sB x ^^ sB y) 0) := by
  show ((Ieee.double.read x).quotient 54 (Ieee.double.read y)).map Ieee.double.write = _
  rw [read_num hx, read_inf hy]
  show some (Ieee.double.write (.number _ 0 0)) = _
  rw [write_none]; rfl
theorem quo_parts (s t : Bool) (m n : Nat) (i j : Int) (hn : n ≠ 0) : ((Ieee.Datum.number s m i).quotient 54 (.number t n j)).map Ieee.double.write = some (Ieee.double.nearest (s ^^ t) (2 * (m * 2 ^ (54 + n.log2 - m.log2) / n) + (m * 2 ^ (54 + n.log2 - m.log2) % n != 0).toNat) (i - j - ((54 + n.log2 - m.log2 : Nat) : Int) - 1)) := by
  show (if n = 0 then _ else some (Ieee.Datum.number (s ^^ t) (2 * ((m <<< (54 + n.log2 - m.log2)) / n) + ((m <<< (54 + n.log2 - m.log2)) % n != 0).toNat) (i - j - ((54 + n.log2 - m.log2 : Nat) : Int) - 1))).map Ieee.double.write = _
  rw [if_neg hn, Nat.shiftLeft_eq]
  rfl
theorem quo_zero {x y : Nat} (hx : x % 9223372036854775808 = 0) (hy : NumB y) (h0 : y % 9223372036854775808 ≠ 0) : floatBits .quo .f64 x y = some (wrd (sB x ^^ sB y) 0) := by
  have hm := mg_pos h0
  show ((Ieee.double.read x).quotient 54 (Ieee.double.read y)).map Ieee.double.write = _
  rw [read_num (b := x) (by omega), read_num hy, hx, quo_parts _ _ _ _ _ _ hm, show mg 0 = 0 by decide, Nat.zero_mul, Nat.zero_div, Nat.zero_mod]
  show some (Ieee.double.nearest _ 0 _) = _
  rw [nearest_zero, word_eq]; rfl
theorem quoS_eq (X Y k : Nat) : 2 * (X * 2 ^ k / Y) + (X * 2 ^ k % Y != 0).toNat = quoS X Y k := by
  unfold quoS
  congr 1
  by_cases h : X * 2 ^ k % Y = 0
  · rw [if_pos h, h]; rfl
  · rw [if_neg h, show (X * 2 ^ k % Y != 0) = true by simpa using h]; rfl
theorem quo_num {x y : Nat} (hx : NumB x) (hy : NumB y) (h0 : x % 9223372036854775808 ≠ 0) (h1 : y % 9223372036854775808 ≠ 0) {X Y : Nat} {ex ey : Int} (hX : X = mg (x % 9223372036854775808)) (hY : Y = mg (y % 9223372036854775808)) (hex : ex = -1074 + (pl (x % 9223372036854775808) : Int)) (hey : ey = -1074 + (pl (y % 9223372036854775808) : Int)) {k : Nat} (hk : 54 + Y.log2 - X.log2 ≤ k) :
    floatBits .quo .f64 x y = some (wrd (sB x ^^ sB y) (nearR (quoS X Y k) (ex - ey - 1 - k))) := by
  have hX0 : X ≠ 0 := by rw [hX]; exact mg_pos h0
  have hY0 : Y ≠ 0 := by rw [hY]; exact mg_pos h1
  show ((Ieee.double.read x).quotient 54 (Ieee.double.read y)).map Ieee.double.write = _
  rw [read_num hx, read_num hy, ← hX, ← hY, ← hex, ← hey, quo_parts _ _ _ _ _ _ hY0, quoS_eq]
  have hq := quo_bits hX0 hY0 (k := 54 + Y.log2 - X.log2) (by omega)
  have hq0 : quoS X Y (54 + Y.log2 - X.log2) ≠ 0 := by intro h; rw [h] at hq; exact absurd hq.2 (by decide)
  rw [nearest_eq _ hq0, word_eq]
  have := near_quo (X := X) (Y := Y) (p := ex - ey - 1) (by omega) hk hq.2
  rw [← this, show ex - ey - ((54 + Y.log2 - X.log2 : Nat) : Int) - 1 = ex - ey - 1 - ((54 + Y.log2 - X.log2 : Nat) : Int) by omega]
  rfl

set_option maxHeartbeats 1600000 in
theorem refDiv_nan (u v : Int) (w : World) (h : U64 u) (h' : U64 v) (hc : nanB u = true ∨ (nanB u = false ∧ nanB v = true) ∨ (nanB u = false ∧ nanB v = false ∧ infB u = true ∧ infB v = true) ∨ (nanB u = false ∧ nanB v = false ∧ infB u = false ∧ (szI u == 0) = true ∧ (szI v == 0) = true)) :
    Calls Tryz.prog 66 #[.int .u64 u, .int .u64 v] w fun e w' => e = .returned (.int .u64 9221120237041090561) ∧ w' = w := by
  have hS := xor_sg h h'
  rcases hc with h1 | ⟨h1, h2⟩ | ⟨h1, h2, h3, h4⟩ | ⟨h1, h2, h3, h4, h5⟩
  all_goals
    go_enter Tryz.func66, Tryz.ntmps66
    go_wp2_with (first | (go_at_call_of 93 (Value.int IntKind.u64 u); refine (refNaN_any u _ h).mono ?_; rintro e w' ⟨rfl, rfl⟩) | (go_at_call_of 93 (Value.int IntKind.u64 v); refine (refNaN_any v _ h').mono ?_; rintro e w' ⟨rfl, rfl⟩) | (go_at_call_of 94 (Value.int IntKind.u64 u); refine (refInf_any u _ h).mono ?_; rintro e w' ⟨rfl, rfl⟩) | (go_at_call_of 94 (Value.int IntKind.u64 v); refine (refInf_any v _ h').mono ?_; rintro e w' ⟨rfl, rfl⟩) | (go_at_call_of 96 (Value.int IntKind.u64 u); refine (refSize_any u _ h).mono ?_; rintro e w' ⟨rfl, rfl⟩) | (go_at_call_of 96 (Value.int IntKind.u64 v); refine (refSize_any v _ h').mono ?_; rintro e w' ⟨rfl, rfl⟩))
    go_ret
    exact ⟨rfl, rfl⟩

set_option maxHeartbeats 1600000 in
theorem refDiv_inf (u v S : Int) (w : World) (h : U64 u) (h' : U64 v) (hS : bits .and .u64 (bits .xor .u64 u v) 9223372036854775808 = S) (hS0 : 0 ≤ S) (hS1 : S ≤ 9223372036854775808) (hn : nanB u = false) (hn' : nanB v = false) (hz : (szI u == 0) = false) (hc : (infB u = true ∧ infB v = false) ∨ (infB u = false ∧ (szI v == 0) = true)) :
    Calls Tryz.prog 66 #[.int .u64 u, .int .u64 v] w fun e w' => e = .returned (.int .u64 (S + 9218868437227405312)) ∧ w' = w := by
  rcases hc with ⟨h1, h2⟩ | ⟨h1, h2⟩
  all_goals
    go_enter Tryz.func66, Tryz.ntmps66
    go_wp2_with (first | (go_at_call_of 93 (Value.int IntKind.u64 u); refine (refNaN_any u _ h).mono ?_; rintro e w' ⟨rfl, rfl⟩) | (go_at_call_of 93 (Value.int IntKind.u64 v); refine (refNaN_any v _ h').mono ?_; rintro e w' ⟨rfl, rfl⟩) | (go_at_call_of 94 (Value.int IntKind.u64 u); refine (refInf_any u _ h).mono ?_; rintro e w' ⟨rfl, rfl⟩) | (go_at_call_of 94 (Value.int IntKind.u64 v); refine (refInf_any v _ h').mono ?_; rintro e w' ⟨rfl, rfl⟩) | (go_at_call_of 96 (Value.int IntKind.u64 u); refine (refSize_any u _ h).mono ?_; rintro e w' ⟨rfl, rfl⟩) | (go_at_call_of 96 (Value.int IntKind.u64 v); refine (refSize_any v _ h').mono ?_; rintro e w' ⟨rfl, rfl⟩))
    go_ret
    exact ⟨rfl, rfl⟩

set_option maxHeartbeats 1600000 in
theorem refDiv_zero (u v S : Int) (w : World) (h : U64 u) (h' : U64 v) (hS : bits .and .u64 (bits .xor .u64 u v) 9223372036854775808 = S) (hn : nanB u = false) (hn' : nanB v = false) (hi : infB u = false) (hz : (szI v == 0) = false) (hc : (infB v = true ∧ (szI u == 0) = true) ∨ (infB v = true ∧ (szI u == 0) = false) ∨ (infB v = false ∧ (szI u == 0) = true)) :
    Calls Tryz.prog 66 #[.int .u64 u, .int .u64 v] w fun e w' => e = .returned (.int .u64 S) ∧ w' = w := by
  rcases hc with ⟨h1, h2⟩ | ⟨h1, h2⟩ | ⟨h1, h2⟩
  all_goals
    go_enter Tryz.func66, Tryz.ntmps66
    go_wp2_with (first | (go_at_call_of 93 (Value.int IntKind.u64 u); refine (refNaN_any u _ h).mono ?_; rintro e w' ⟨rfl, rfl⟩) | (go_at_call_of 93 (Value.int IntKind.u64 v); refine (refNaN_any v _ h').mono ?_; rintro e w' ⟨rfl, rfl⟩) | (go_at_call_of 94 (Value.int IntKind.u64 u); refine (refInf_any u _ h).mono ?_; rintro e w' ⟨rfl, rfl⟩) | (go_at_call_of 94 (Value.int IntKind.u64 v); refine (refInf_any v _ h').mono ?_; rintro e w' ⟨rfl, rfl⟩) | (go_at_call_of 96 (Value.int IntKind.u64 u); refine (refSize_any u _ h).mono ?_; rintro e w' ⟨rfl, rfl⟩) | (go_at_call_of 96 (Value.int IntKind.u64 v); refine (refSize_any v _ h').mono ?_; rintro e w' ⟨rfl, rfl⟩))
    go_ret
    exact ⟨rfl, rfl⟩

theorem zero_V2 {r : Nat} (h : V r = 0) : r = 0 := by
  have := V_eq_iff (r := r) (s := 0)
  rw [V_zero] at this
  exact this.1 h
theorem sbit_sz (s : Bool) {r : Nat} (h : r ≤ 9218868437227405312) : U64 (sbit s + (r : Int)) ∧ szI (sbit s + (r : Int)) = r := by
  unfold sbit U64 szI
  cases s <;> simp only [Bool.false_eq_true, if_true, if_false] <;> omega
theorem mod_mod63 (x : Nat) : x % 9223372036854775808 % 9223372036854775808 = x % 9223372036854775808 := Nat.mod_mod _ _
theorem over_val {x y X Y k : Nat} {nx : Bool} {ex ey : Int} (hx : OfR (x % 9223372036854775808) nx X ex) {ny : Bool} (hy : OfR (y % 9223372036854775808) ny Y ey) (hnx : NumB x) (hny : NumB y) (h0 : x % 9223372036854775808 ≠ 0) (h1 : y % 9223372036854775808 ≠ 0) (hX0 : X ≠ 0) (hY0 : Y ≠ 0) (hk : max 0 (70 - (bl X : Int) + (bl Y : Int)) = (k : Int)) (more : Bool) (hmo : decide (0 < nd (X * 2 ^ k % Y)) = more) :
    ∃ r : Nat, r ≤ 9218868437227405312 ∧ floatBits .quo .f64 x y = some (wrd (sB x ^^ sB y) r) ∧ U64 (nearM nx (X * 2 ^ k / Y) (ex - k - ey) more) ∧ szI (nearM nx (X * 2 ^ k / Y) (ex - k - ey) more) = r := by
  obtain ⟨a1, a2⟩ := hx.mag hX0
  obtain ⟨b1, b2⟩ := hy.mag hY0
  rw [mod_mod63] at a1 a2 b1 b2
  have hbx := bl_pos hX0
  have hby := bl_pos hY0
  have hkk : 54 + Y.log2 - X.log2 ≤ k := by omega
  have hq := quo_num hnx hny h0 h1 a1 b1 a2 b2 hkk
  have hb := quo_bits hX0 hY0 (k := k) (by omega)
  refine ⟨nearR (quoS X Y k) (ex - ey - 1 - (k : Int)), Nat.min_le_right _ _, hq, ?_⟩
  rw [nearM_more nx more _ hb.1]
  have e : 2 * (X * 2 ^ k / Y) + (if more = true then 1 else 0) = quoS X Y k := by
    unfold quoS
    congr 1
    by_cases hr : X * 2 ^ k % Y = 0
    · rw [hr] at hmo
      rw [if_pos hr, ← hmo]; rfl
    · have := nd_pos hr
      rw [if_neg hr, ← hmo, if_pos (decide_eq_true (show 0 < nd (X * 2 ^ k % Y) from this))]
  rw [e, show ex - (k : Int) - ey - 1 = ex - ey - 1 - (k : Int) by omega]
  have hle : nearR (quoS X Y k) (ex - ey - 1 - (k : Int)) ≤ 9218868437227405312 := Nat.min_le_right _ _
  generalize nearR (quoS X Y k) (ex - ey - 1 - (k : Int)) = r at hle
  exact sbit_sz nx hle

set_option maxRecDepth 10000 in
set_option maxHeartbeats 1600000 in
theorem refDiv_num (x y r : Nat) (u v S R : Int) (w : World) (hu : Hid (u = (x : Int))) (hv : Hid (v = (y : Int))) (h : U64 u) (h' : U64 v) (hx : NumB x) (hy : NumB y) (h0 : Hid (x % 9223372036854775808 ≠ 0)) (h1 : Hid (y % 9223372036854775808 ≠ 0)) (hS : bits .and .u64 (bits .xor .u64 u v) 9223372036854775808 = S) (hS0 : 0 ≤ S) (hS1 : S ≤ 9223372036854775808) (hr : Hid (floatBits .quo .f64 x y = some (wrd (sB x ^^ sB y) r))) (hr2 : Hid (r ≤ 9218868437227405312)) (hR : Hid (R = (r : Int))) (hn : nanB u = false) (hn' : nanB v = false) (hi : infB u = false) (hi' : infB v = false) (hz : (szI u == 0) = false) (hz' : (szI v == 0) = false) :
    Calls Tryz.prog 66 #[.int .u64 u, .int .u64 v] w fun e w' => e = .returned (.int .u64 (S + R)) ∧ Below w.heap.size w w' := by
  have hR0 : 0 ≤ R := by rw [hR.out]; omega
  have hR1 : R ≤ 9218868437227405312 := by have := hr2.out; rw [hR.out]; omega
  have HX := hide hx
  have HY := hide hy
  have cx := bits_class hu.out
  have cy := bits_class hv.out
  obtain ⟨zu, hzu⟩ : ∃ zu, szI u = zu := ⟨_, rfl⟩
  obtain ⟨zv, hzv⟩ : ∃ zv, szI v = zv := ⟨_, rfl⟩
  rw [hzu] at cx hz
  rw [hzv] at cy hz'
  have HO1 : Hid (∀ w, Calls Tryz.prog 91 #[.int .u64 zu] w fun r w' => ∃ neg v N e, r = .returned (.agg #[.bool neg, v, .int .i64 e]) ∧ DN w' v N ∧ OfR (x % 9223372036854775808) neg N e ∧ Below w.heap.size w w') := fun w => of_num (x % 9223372036854775808) zu w cx (by rw [cx]; exact u64_of_nat (by omega)) (by unfold NumB at *; rw [mod_mod63]; exact hx)
  have HO2 : Hid (∀ w, Calls Tryz.prog 91 #[.int .u64 zv] w fun r w' => ∃ neg v N e, r = .returned (.agg #[.bool neg, v, .int .i64 e]) ∧ DN w' v N ∧ OfR (y % 9223372036854775808) neg N e ∧ Below w.heap.size w w') := fun w => of_num (y % 9223372036854775808) zv w cy (by rw [cy]; exact u64_of_nat (by omega)) (by unfold NumB at *; rw [mod_mod63]; exact hy)
  have HS1 := hide fun w => refSize_at u zu w h hzu
  have HS2 := hide fun w => refSize_at v zv w h' hzv
  have HN1 := hide (refNaN_any u · h)
  have HN2 := hide (refNaN_any v · h')
  have HI1 := hide (refInf_any u · h)
  have HI2 := hide (refInf_any v · h')
  rw [hn] at HN1
  rw [hn'] at HN2
  rw [hi] at HI1
  rw [hi'] at HI2
  clear hx hy hn hn' hi hi' h h' hzu hzv cx cy
  go_enter Tryz.func66, Tryz.ntmps66
  go_wp2_with (first | (go_at_call_of 93 (Value.int IntKind.u64 u); refine (turnedR (HN1.out _)).mono ?_; rintro e w' ⟨rfl, rfl⟩) | (go_at_call_of 93 (Value.int IntKind.u64 v); refine (turnedR (HN2.out _)).mono ?_; rintro e w' ⟨rfl, rfl⟩) | (go_at_call_of 94 (Value.int IntKind.u64 u); refine (turnedR (HI1.out _)).mono ?_; rintro e w' ⟨rfl, rfl⟩) | (go_at_call_of 94 (Value.int IntKind.u64 v); refine (turnedR (HI2.out _)).mono ?_; rintro e w' ⟨rfl, rfl⟩) | (go_at_call_of 96 (Value.int IntKind.u64 u); refine (HS1.out _).mono ?_; rintro e w' ⟨rfl, rfl⟩) | (go_at_call_of 96 (Value.int IntKind.u64 v); refine (HS2.out _).mono ?_; rintro e w' ⟨rfl, rfl⟩))
  refine (HO1.out _).mono ?_
  rintro r1 w1 ⟨nx, vx, X, ex, rfl, hdx, hX, hb1⟩
  have HB1 := hide hb1
  have HDx := hide hdx
  have HOX := hide hX
  clear hb1 hdx hX
  go_wp2_with fail
  refine (HS2.out _).mono ?_
  rintro e w' ⟨rfl, rfl⟩
  go_wp2_with fail
  refine (HO2.out _).mono ?_
  rintro r1 w2 ⟨ny, vy, Y, ey, rfl, hdy, hY, hb2⟩
  have HB2 := hide (HB1.out.trans (hb2.mono HB1.out.size))
  have HDx2 := hide (HDx.out.below hb2)
  have HDy := hide hdy
  have HOY := hide hY
  clear hb2 hdy hY HB1 HDx
  have HX0 : Hid (X ≠ 0) := fun e => h0.out (by have := HOX.out.val; rw [e, Nat.zero_mul] at this; unfold aV at this; rw [mod_mod63] at this; exact zero_V2 this.symm)
  have HY0 : Hid (Y ≠ 0) := fun e => h1.out (by have := HOY.out.val; rw [e, Nat.zero_mul] at this; unfold aV at this; rw [mod_mod63] at this; exact zero_V2 this.symm)
  obtain ⟨k, hk⟩ : ∃ k : Nat, max 0 (70 - (bl X : Int) + (bl Y : Int)) = (k : Int) := ⟨(max 0 (70 - (bl X : Int) + (bl Y : Int))).toNat, by omega⟩
  obtain ⟨mo, hmo⟩ : ∃ mo, decide (0 < nd (X * 2 ^ k % Y)) = mo := ⟨_, rfl⟩
  obtain ⟨r', p1, p2, p3, p4⟩ := over_val HOX.out HOY.out HX.out HY.out h0.out h1.out HX0.out HY0.out hk mo hmo
  have hrr : r' = r := by
    have e := hr.out
    rw [p2] at e
    have e2 : wrd (sB x ^^ sB y) r' = wrd (sB x ^^ sB y) r := Option.some.inj e
    unfold wrd at e2
    split at e2 <;> omega
  obtain ⟨res, hres⟩ : ∃ res, nearM nx (X * 2 ^ k / Y) (ex - k - ey) mo = res := ⟨_, rfl⟩
  rw [hres] at p3 p4
  rw [hrr, ← hR.out] at p4
  have HOv := hide (nearOver_at nx ny mo vx vy ex ey res X Y k _ w2 HDx2.out HDy.out HX0.out HY0.out (by have := nd_two HOX.out.lt; omega) (by have := nd_two HOY.out.lt; omega) (by have := HOX.out.lo; omega) (by have := HOX.out.hi; omega) (by have := HOY.out.lo; omega) (by have := HOY.out.hi; omega) hk rfl hmo hres)
  have HSz := hide fun w => refSize_at res R w p3 p4
  clear hk hmo hres p1 p2 p3 p4 hrr HX0 HY0 HOX HOY HDx2 HDy hr hr2
  go_wp2_with fail
  refine HOv.out.mono ?_
  rintro r1 w3 ⟨rfl, hb3⟩
  have HB3 := hide (HB2.out.trans (hb3.mono HB2.out.size))
  clear hb3 HOv HB2
  go_wp2_with fail
  refine (HSz.out _).mono ?_
  rintro r1 w' ⟨rfl, rfl⟩
  go_wp2_with fail
  go_ret
  exact ⟨rfl, HB3.out⟩

theorem refDiv_any (x y : Nat) (u v : Int) (w : World) (hu : Hid (u = (x : Int))) (hv : Hid (v = (y : Int))) (h : U64 u) (h' : U64 v) :
    Calls Tryz.prog 66 #[.int .u64 u, .int .u64 v] w fun e w' => e = .returned (.int .u64 (cn (floatBits .quo .f64 x y) : Int)) ∧ Below w.heap.size w w' := by
  have hS := xor_sg h h'
  obtain ⟨s0, s1⟩ := sbit_le (sgB u ^^ sgB v)
  have hx64 : x < 18446744073709551616 := by have := h.2; rw [hu.out] at this; omega
  have hy64 : y < 18446744073709551616 := by have := h'.2; rw [hv.out] at this; omega
  have hsx : sgB u = sB x := by rw [hu.out]; exact sgB_nat hx64
  have hsy : sgB v = sB y := by rw [hv.out]; exact sgB_nat hy64
  have cx := bits_class hu.out
  have cy := bits_class hv.out
  have zx : ∀ b, decide (x % 9223372036854775808 = 0) = b → (szI u == 0) = b := fun b e => by
    rw [← e, cx]; by_cases c : x % 9223372036854775808 = 0
    · rw [c]; rfl
    · rw [decide_eq_false c]; simp; omega
  have zy : ∀ b, decide (y % 9223372036854775808 = 0) = b → (szI v == 0) = b := fun b e => by
    rw [← e, cy]; by_cases c : y % 9223372036854775808 = 0
    · rw [c]; rfl
    · rw [decide_eq_false c]; simp; omega
  have same : ∀ {r : Int}, (Calls Tryz.prog 66 #[.int .u64 u, .int .u64 v] w fun e w' => e = .returned (.int .u64 r) ∧ w' = w) → (cn (floatBits .quo .f64 x y) : Int) = r → Calls Tryz.prog 66 #[.int .u64 u, .int .u64 v] w fun e w' => e = .returned (.int .u64 (cn (floatBits .quo .f64 x y) : Int)) ∧ Below w.heap.size w w' := fun hc e => by
    rw [e]
    exact hc.mono fun _ _ ⟨a, b⟩ => ⟨a, by rw [b]; exact Below.refl _ _⟩
  cases hn : nanB u with
  | true =>
    refine same (refDiv_nan u v w h h' (Or.inl hn)) ?_
    rw [nan_left (by rw [← hu.out]; exact hn)]; rfl
  | false =>
    cases hn' : nanB v with
    | true =>
      refine same (refDiv_nan u v w h h' (Or.inr (Or.inl ⟨hn, hn'⟩))) ?_
      rw [nan_right (by rw [← hv.out]; exact hn')]; rfl
    | false =>
      cases hi : infB u with
      | true =>
        have ix := inf_of hu.out hi
        cases hi' : infB v with
        | true =>
          have iy := inf_of hv.out hi'
          refine same (refDiv_nan u v w h h' (Or.inr (Or.inr (Or.inl ⟨hn, hn', hi, hi'⟩)))) ?_
          rw [quo_none (Or.inl ⟨ix, iy⟩)]; rfl
        | false =>
          have ny := num_of hv.out hn' hi'
          refine same (refDiv_inf u v _ w h h' hS s0 s1 hn hn' (zx _ (by rw [ix]; rfl)) (Or.inl ⟨hi, hi'⟩)) ?_
          rw [quo_inf ix ny, cn_some, wrd_sbit, hsx, hsy]; rfl
      | false =>
        have nx := num_of hu.out hn hi
        by_cases hyz : y % 9223372036854775808 = 0
        · by_cases hxz : x % 9223372036854775808 = 0
          · refine same (refDiv_nan u v w h h' (Or.inr (Or.inr (Or.inr ⟨hn, hn', hi, zx _ (decide_eq_true hxz), zy _ (decide_eq_true hyz)⟩)))) ?_
            rw [quo_none (Or.inr ⟨hxz, hyz⟩)]; rfl
          · refine same (refDiv_inf u v _ w h h' hS s0 s1 hn hn' (zx _ (decide_eq_false hxz)) (Or.inr ⟨hi, zy _ (decide_eq_true hyz)⟩)) ?_
            rw [quo_by_zero nx hxz hyz, cn_some, wrd_sbit, hsx, hsy]; rfl
        · cases hi' : infB v with
          | true =>
            have iy := inf_of hv.out hi'
            have e : (cn (floatBits .quo .f64 x y) : Int) = sbit (sgB u ^^ sgB v) := by rw [quo_by_inf nx iy, cn_some, wrd_sbit, hsx, hsy]; simp
            by_cases hxz : x % 9223372036854775808 = 0
            · exact same (refDiv_zero u v _ w h h' hS hn hn' hi (zy _ (decide_eq_false hyz)) (Or.inl ⟨hi', zx _ (decide_eq_true hxz)⟩)) e
            · exact same (refDiv_zero u v _ w h h' hS hn hn' hi (zy _ (decide_eq_false hyz)) (Or.inr (Or.inl ⟨hi', zx _ (decide_eq_false hxz)⟩))) e
          | false =>
            have ny := num_of hv.out hn' hi'
            by_cases hxz : x % 9223372036854775808 = 0
            · refine same (refDiv_zero u v _ w h h' hS hn hn' hi (zy _ (decide_eq_false hyz)) (Or.inr (Or.inr ⟨hi', zx _ (decide_eq_true hxz)⟩))) ?_
              rw [quo_zero hxz ny hyz, cn_some, wrd_sbit, hsx, hsy]; simp
            · obtain ⟨r, hr, hle⟩ : ∃ r, floatBits .quo .f64 x y = some (wrd (sB x ^^ sB y) r) ∧ r ≤ 9218868437227405312 := ⟨_, quo_num nx ny hxz hyz rfl rfl rfl rfl (Nat.le_refl _), Nat.min_le_right _ _⟩
              have e : (cn (floatBits .quo .f64 x y) : Int) = sbit (sgB u ^^ sgB v) + (r : Int) := by rw [hr, cn_some, wrd_sbit, hsx, hsy]
              rw [e]
              exact refDiv_num x y r u v _ _ w hu hv h h' nx ny hxz hyz hS s0 s1 hr hle rfl hn hn' hi hi' (zx _ (decide_eq_false hxz)) (zy _ (decide_eq_false hyz))
end Go.Proofs.YtkcnkhdbojdhgaaGreat
namespace Go.Proofs.YtkcnkhdbojdhgaaGreat
open Go.RowKit

def sAdd (x y : Nat) : Nat := cn (floatBits .add .f64 x y)
def sSub (x y : Nat) : Nat := cn (floatBits .sub .f64 x y)
def sMul (x y : Nat) : Nat := cn (floatBits .mul .f64 x y)
def sDiv (x y : Nat) : Nat := cn (floatBits .quo .f64 x y)
theorem u64N {x : Nat} (h : x < 18446744073709551616) : U64 (x : Nat) := ⟨by omega, by omega⟩
theorem fi_lt {n : Int} (h0 : -9007199254740992 ≤ n) (h1 : n ≤ 9007199254740992) : fi n < 18446744073709551616 := (vI_fi rfl h0 h1).2.2.2
def steepB (xs : List Int) (ys : List Nat) (k : Nat) : Nat := sDiv (sSub (ys.getD (k + 1) 0) (ys.getD k 0)) (fi (xs.getD (k + 1) 0 - xs.getD k 0))
end Go.Proofs.YtkcnkhdbojdhgaaGreat
namespace Go.Proofs.YtkcnkhdbojdhgaaGreat
open Go.RowKit

end Go.Proofs.YtkcnkhdbojdhgaaGreat
namespace Go.Proofs.YtkcnkhdbojdhgaaGreat
open Go.RowKit

def overG (N : Int) (d : Nat) : Nat := if N = 0 then 0 else wrd (decide (N < 0)) (nearR (quoS N.natAbs d 0) (-2149))
def ovRk (N : Int) (d : Nat) : Int := if N = 0 then 0 else if N < 0 then -(nearR (quoS N.natAbs d 0) (-2149) : Int) else (nearR (quoS N.natAbs d 0) (-2149) : Int)
theorem nearR_topI (M : Nat) (p : Int) : nearR M p ≤ 9218868437227405312 := by
  rw [nearR_kept]; omega
theorem rank_wrd7 (s : Bool) {r : Nat} (h : r ≤ 9218868437227405312) : U64 (wrd s r : Nat) ∧ nanB (wrd s r : Nat) = false ∧ rankI (wrd s r : Nat) = if s then -(r : Int) else (r : Int) := by
  have hn : nanB (wrd s r : Nat) = false := by
    unfold nanB szI wrd
    rw [decide_eq_false_iff_not]
    cases s <;> simp <;> omega
  refine ⟨by unfold U64 wrd; cases s <;> simp <;> omega, hn, ?_⟩
  unfold rankI
  rw [hn, if_neg (by decide)]
  unfold sgB szI wrd
  cases s
  · have : ¬ (9223372036854775808 : Int) ≤ (r : Int) := by omega
    simp [this]
    omega
  · simp
    omega
theorem overG_rank (N : Int) (d : Nat) : U64 (overG N d : Nat) ∧ nanB (overG N d : Nat) = false ∧ rankI (overG N d : Nat) = ovRk N d := by
  unfold overG ovRk
  by_cases h0 : N = 0
  · rw [if_pos h0, if_pos h0]
    exact ⟨by unfold U64; decide, by decide, by decide⟩
  · rw [if_neg h0, if_neg h0]
    obtain ⟨a, b, c⟩ := rank_wrd7 (decide (N < 0)) (nearR_topI (quoS N.natAbs d 0) (-2149))
    refine ⟨a, b, ?_⟩
    rw [c]
    by_cases hn : N < 0 <;> simp [hn]
theorem quoS_mono7 {X X' Y k : Nat} (h : X ≤ X') : quoS X Y k ≤ quoS X' Y k := by
  have h1 : X * 2 ^ k ≤ X' * 2 ^ k := Nat.mul_le_mul_right _ h
  unfold quoS
  generalize X * 2 ^ k = A at *
  generalize X' * 2 ^ k = B at *
  have h2 : A / Y ≤ B / Y := Nat.div_le_div_right h1
  have ea := Nat.div_add_mod A Y
  have eb := Nat.div_add_mod B Y
  by_cases hq : A / Y = B / Y
  · rw [hq] at ea ⊢
    have : A % Y ≤ B % Y := by omega
    split <;> split <;> omega
  · split <;> split <;> omega
theorem ovRk_mono {N N' : Int} (d : Nat) (h : N ≤ N') : ovRk N d ≤ ovRk N' d := by
  unfold ovRk
  by_cases h1 : N' < 0
  · have := nearR_mono (-2149) (quoS_mono7 (Y := d) (k := 0) (show N'.natAbs ≤ N.natAbs by omega))
    rw [if_neg (by omega), if_pos (by omega), if_neg (by omega), if_pos h1]
    omega
  · by_cases h2 : 0 < N
    · have := nearR_mono (-2149) (quoS_mono7 (Y := d) (k := 0) (show N.natAbs ≤ N'.natAbs by omega))
      rw [if_neg (by omega), if_neg (by omega), if_neg (by omega), if_neg (by omega)]
      omega
    · (repeat' split) <;> omega
theorem ovRk_neg (N : Int) (d : Nat) : ovRk (-N) d = -ovRk N d := by
  unfold ovRk
  by_cases h0 : N = 0
  · rw [if_pos h0, if_pos (by omega)]; rfl
  · rw [if_neg h0, if_neg (by omega), Int.natAbs_neg]
    by_cases hn : N < 0
    · rw [if_pos hn, if_neg (by omega)]; omega
    · rw [if_neg hn, if_pos (by omega)]
theorem ovRk_at {r d K : Nat} (hK : K = 1074) (hr : r < 9218868437227405312) (hd : 0 < d) : ovRk (((V r * 2 ^ K * d : Nat)) : Int) d = r := by
  unfold ovRk
  by_cases h0 : V r * 2 ^ K * d = 0
  · rw [h0, if_pos (show ((0 : Nat) : Int) = 0 from rfl)]
    have h1 : V r = 0 := by
      have hp := Nat.two_pow_pos K
      rcases Nat.mul_eq_zero.1 h0 with c | c
      · rcases Nat.mul_eq_zero.1 c with c | c <;> omega
      · omega
    have : V r = V 0 := by rw [h1, V_zero]
    rw [V_eq_iff] at this
    rw [this]; rfl
  · rw [if_neg (by omega), if_neg (by omega), Int.natAbs_natCast]
    have e : quoS (V r * 2 ^ K * d) d 0 = V r * 2 ^ (K + 1) := by
      unfold quoS
      rw [Nat.pow_zero, Nat.mul_one, Nat.mul_div_cancel _ hd, Nat.mul_mod_left, if_pos rfl, Nat.pow_succ, Nat.add_zero]
      generalize V r = a
      generalize 2 ^ K = b
      rw [Nat.mul_comm 2, Nat.mul_assoc]
    rw [e]
    have := nearR_V hr (K + 1)
    rw [show (-1074 : Int) - ((K + 1 : Nat) : Int) = -2149 by omega] at this
    rw [this]
def uI (K : Nat) (y : Nat) : Int := vI y * ((2 ^ K : Nat) : Int)
theorem vI_rank {y : Nat} (h64 : y < 18446744073709551616) (hy : NumB y) : (0 ≤ rankI (y : Nat) ∧ vI y = (V (y % 9223372036854775808) : Int) ∧ rankI (y : Nat) = ((y % 9223372036854775808 : Nat) : Int)) ∨ (rankI (y : Nat) ≤ 0 ∧ vI y = -(V (y % 9223372036854775808) : Int) ∧ rankI (y : Nat) = -((y % 9223372036854775808 : Nat) : Int)) := by
  unfold NumB at hy
  have hn : nanB (y : Nat) = false := by unfold nanB szI; rw [decide_eq_false_iff_not]; omega
  unfold rankI vI
  rw [hn, if_neg (by decide)]
  unfold sgB szI
  by_cases hs : y < 9223372036854775808
  · left
    have h1 : ¬ (9223372036854775808 : Int) ≤ (y : Int) := by omega
    have h2 : y / 9223372036854775808 % 2 = 0 := by omega
    rw [h2]
    simp only [h1, decide_false, Bool.false_eq_true, if_false, show ((0 : Nat) == 1) = false from rfl]
    exact ⟨by omega, trivial, by omega⟩
  · right
    have h1 : (9223372036854775808 : Int) ≤ (y : Int) := by omega
    have h2 : y / 9223372036854775808 % 2 = 1 := by omega
    rw [h2]
    simp only [h1, decide_true, if_true, beq_self_eq_true]
    exact ⟨by omega, trivial, by omega⟩
theorem ovRk_num {y d K : Nat} (hK : K = 1074) (h64 : y < 18446744073709551616) (hy : NumB y) (hd : 0 < d) : ovRk (uI K y * (d : Int)) d = rankI (y : Nat) := by
  unfold NumB at hy
  rcases vI_rank h64 hy with ⟨_, hv, hr⟩ | ⟨_, hv, hr⟩
  · unfold uI
    rw [hv, hr, ← ovRk_at (r := y % 9223372036854775808) hK (by omega) hd]
    simp only [Int.natCast_mul]
  · unfold uI
    rw [hv, hr, ← ovRk_at (r := y % 9223372036854775808) hK (by omega) hd, Int.neg_mul, Int.neg_mul, ovRk_neg]
    simp only [Int.natCast_mul]
theorem ov_ge {y d K : Nat} {N : Int} (hK : K = 1074) (h64 : y < 18446744073709551616) (hy : NumB y) (hd : 0 < d) (h : uI K y * (d : Int) ≤ N) : rankI (y : Nat) ≤ ovRk N d := by
  rw [← ovRk_num hK h64 hy hd]; exact ovRk_mono d h
theorem ov_le {y d K : Nat} {N : Int} (hK : K = 1074) (h64 : y < 18446744073709551616) (hy : NumB y) (hd : 0 < d) (h : N ≤ uI K y * (d : Int)) : ovRk N d ≤ rankI (y : Nat) := by
  rw [← ovRk_num hK h64 hy hd]; exact ovRk_mono d h
theorem uI_le {x y : Nat} (K : Nat) (hx : x < 18446744073709551616) (hxn : NumB x) (hy : y < 18446744073709551616) (hyn : NumB y) (h : rankI (x : Nat) ≤ rankI (y : Nat)) : uI K x ≤ uI K y := by
  have hp : (0 : Int) ≤ ((2 ^ K : Nat) : Int) := Int.natCast_nonneg _
  unfold uI
  refine Int.mul_le_mul_of_nonneg_right ?_ hp
  rcases vI_rank hx hxn with ⟨a1, a2, a3⟩ | ⟨a1, a2, a3⟩ <;> rcases vI_rank hy hyn with ⟨b1, b2, b3⟩ | ⟨b1, b2, b3⟩
  · rw [a2, b2]; have := V_le (r := x % 9223372036854775808) (s := y % 9223372036854775808) (by omega); omega
  · rw [a2, b2]
    have e1 : x % 9223372036854775808 = 0 := by omega
    have e2 : y % 9223372036854775808 = 0 := by omega
    rw [e1, e2, V_zero]; omega
  · rw [a2, b2]; omega
  · rw [a2, b2]; have := V_le (r := y % 9223372036854775808) (s := x % 9223372036854775808) (by omega); omega

def linN (n i u0 u1 : Int) : Int := (n - i) * u0 + i * u1
theorem lin_lo {n i u0 u1 : Int} (h0 : 0 ≤ i) (h1 : i ≤ n) (h : u0 ≤ u1) : u0 * n ≤ linN n i u0 u1 ∧ linN n i u0 u1 ≤ u1 * n := by
  unfold linN
  have a : i * u0 ≤ i * u1 := Int.mul_le_mul_of_nonneg_left h h0
  have b : (n - i) * u0 ≤ (n - i) * u1 := Int.mul_le_mul_of_nonneg_left h (by omega)
  have e0 : (n - i) * u0 = n * u0 - i * u0 := Int.sub_mul ..
  have e1 : (n - i) * u1 = n * u1 - i * u1 := Int.sub_mul ..
  rw [Int.mul_comm u0 n, Int.mul_comm u1 n]
  omega
theorem lin_mono {n i j u0 u1 : Int} (h : u0 ≤ u1) (hij : i ≤ j) : linN n i u0 u1 ≤ linN n j u0 u1 := by
  unfold linN
  have a : (j - i) * u0 ≤ (j - i) * u1 := Int.mul_le_mul_of_nonneg_left h (by omega)
  rw [Int.sub_mul, Int.sub_mul] at a
  rw [Int.sub_mul, Int.sub_mul]
  omega
theorem lin_neg (n i u0 u1 : Int) : linN n i (-u0) (-u1) = -linN n i u0 u1 := by
  unfold linN
  rw [Int.mul_neg, Int.mul_neg]; omega
end Go.Proofs.YtkcnkhdbojdhgaaGreat
namespace Go.Proofs.YtkcnkhdbojdhgaaGreat
open Go.RowKit

def cubN (n i u0 u1 u2 u3 : Int) : Int := (n - i) * (n - i) * (n - i) * u0 + 3 * (n - i) * (n - i) * i * u1 + 3 * (n - i) * i * i * u2 + i * i * i * u3
def wA (n i : Int) : Int := n * n * n - (n - i) * (n - i) * (n - i)
def wB (n i : Int) : Int := i * i * (3 * (n - i) + i)
def wC (i : Int) : Int := i * i * i
theorem three_x (x : Int) : 3 * x = x + x + x := by omega
theorem two_x (x : Int) : 2 * x = x + x := by omega
theorem cub_parts (n i u0 u1 u2 u3 : Int) : cubN n i u0 u1 u2 u3 = n * n * n * u0 + wA n i * (u1 - u0) + wB n i * (u2 - u1) + wC i * (u3 - u2) := by
  unfold cubN wA wB wC
  obtain ⟨a, ha⟩ : ∃ a, n - i = a := ⟨_, rfl⟩
  have hn : n = a + i := by omega
  rw [ha, hn]
  simp only [three_x]
  simp only [Int.mul_add, Int.add_mul, Int.mul_sub, Int.sub_mul, Int.mul_assoc]
  simp only [Int.mul_comm, Int.mul_left_comm]
  omega
theorem wC_mono {i j : Int} (h0 : 0 ≤ i) (h : i ≤ j) : wC i ≤ wC j := by
  unfold wC
  have h1 : i * i ≤ j * j := Int.mul_le_mul h h h0 (by omega)
  exact Int.mul_le_mul h1 h h0 (Int.mul_nonneg (by omega) (by omega))
theorem wA_mono {n i j : Int} (h : i ≤ j) (hn : j ≤ n) : wA n i ≤ wA n j := by
  unfold wA
  have := wC_mono (i := n - j) (j := n - i) (by omega) (by omega)
  unfold wC at this
  omega
theorem wB_step (a i t : Int) : (i + t) * (i + t) * (3 * (a - t) + (i + t)) - i * i * (3 * a + i) = t * (3 * (i * (2 * a - t)) + t * (3 * a - 2 * t)) := by
  simp only [three_x, two_x]
  simp only [Int.mul_add, Int.add_mul, Int.mul_sub, Int.mul_assoc]
  simp only [Int.mul_comm, Int.mul_left_comm]
  omega
theorem wB_mono {n i j : Int} (h0 : 0 ≤ i) (h : i ≤ j) (hn : j ≤ n) : wB n i ≤ wB n j := by
  obtain ⟨t, ht⟩ : ∃ t, j = i + t := ⟨j - i, by omega⟩
  obtain ⟨a, ha⟩ : ∃ a, n - i = a := ⟨_, rfl⟩
  have e := wB_step a i t
  unfold wB
  rw [ht, ha, show n - (i + t) = a - t by omega]
  have p1 : 0 ≤ i * (2 * a - t) := Int.mul_nonneg h0 (by omega)
  have p2 : 0 ≤ t * (3 * a - 2 * t) := Int.mul_nonneg (by omega) (by omega)
  have p3 : 0 ≤ t * (3 * (i * (2 * a - t)) + t * (3 * a - 2 * t)) := Int.mul_nonneg (by omega) (by omega)
  omega
theorem cub_mono {n i j u0 u1 u2 u3 : Int} (h0 : 0 ≤ i) (h : i ≤ j) (hn : j ≤ n) (h1 : u0 ≤ u1) (h2 : u1 ≤ u2) (h3 : u2 ≤ u3) : cubN n i u0 u1 u2 u3 ≤ cubN n j u0 u1 u2 u3 := by
  rw [cub_parts, cub_parts]
  have a := Int.mul_le_mul_of_nonneg_right (wA_mono h hn) (show 0 ≤ u1 - u0 by omega)
  have b := Int.mul_le_mul_of_nonneg_right (wB_mono h0 h hn) (show 0 ≤ u2 - u1 by omega)
  have c := Int.mul_le_mul_of_nonneg_right (wC_mono h0 h) (show 0 ≤ u3 - u2 by omega)
  omega
theorem cub_at0 (n u0 u1 u2 u3 : Int) : cubN n 0 u0 u1 u2 u3 = u0 * (n * n * n) := by
  unfold cubN
  simp only [Int.sub_zero, Int.mul_zero, Int.zero_mul, Int.add_zero]
  exact Int.mul_comm _ _
theorem cub_atn (n u0 u1 u2 u3 : Int) : cubN n n u0 u1 u2 u3 = u3 * (n * n * n) := by
  unfold cubN
  simp only [Int.sub_self, Int.mul_zero, Int.zero_mul, Int.zero_add]
  exact Int.mul_comm _ _
theorem cub_lo {n i u0 u1 u2 u3 : Int} (h0 : 0 ≤ i) (h : i ≤ n) (h1 : u0 ≤ u1) (h2 : u1 ≤ u2) (h3 : u2 ≤ u3) : u0 * (n * n * n) ≤ cubN n i u0 u1 u2 u3 ∧ cubN n i u0 u1 u2 u3 ≤ u3 * (n * n * n) := by
  have a := cub_mono (n := n) (Int.le_refl 0) h0 h h1 h2 h3
  have b := cub_mono (n := n) h0 h (Int.le_refl n) h1 h2 h3
  rw [cub_at0] at a
  rw [cub_atn] at b
  exact ⟨a, b⟩
theorem cub_neg (n i u0 u1 u2 u3 : Int) : cubN n i (-u0) (-u1) (-u2) (-u3) = -cubN n i u0 u1 u2 u3 := by
  unfold cubN
  rw [Int.mul_neg, Int.mul_neg, Int.mul_neg, Int.mul_neg]; omega
theorem cub_fall {n i j u0 u1 u2 u3 : Int} (h0 : 0 ≤ i) (h : i ≤ j) (hn : j ≤ n) (h1 : u1 ≤ u0) (h2 : u2 ≤ u1) (h3 : u3 ≤ u2) : cubN n j u0 u1 u2 u3 ≤ cubN n i u0 u1 u2 u3 := by
  have := cub_mono (n := n) (u0 := -u0) (u1 := -u1) (u2 := -u2) (u3 := -u3) h0 h hn (by omega) (by omega) (by omega)
  rw [cub_neg, cub_neg] at this
  omega
theorem cub_hi {n i u0 u1 u2 u3 : Int} (h0 : 0 ≤ i) (h : i ≤ n) (h1 : u1 ≤ u0) (h2 : u2 ≤ u1) (h3 : u3 ≤ u2) : u3 * (n * n * n) ≤ cubN n i u0 u1 u2 u3 ∧ cubN n i u0 u1 u2 u3 ≤ u0 * (n * n * n) := by
  have a := cub_fall (n := n) (Int.le_refl 0) h0 h h1 h2 h3
  have b := cub_fall (n := n) h0 h (Int.le_refl n) h1 h2 h3
  rw [cub_at0] at a
  rw [cub_atn] at b
  exact ⟨b, a⟩
theorem lin_fall {n i j u0 u1 : Int} (h : u1 ≤ u0) (hij : i ≤ j) : linN n j u0 u1 ≤ linN n i u0 u1 := by
  have := lin_mono (n := n) (u0 := -u0) (u1 := -u1) (by omega) hij
  rw [lin_neg, lin_neg] at this
  omega
theorem lin_hi {n i u0 u1 : Int} (h0 : 0 ≤ i) (h1 : i ≤ n) (h : u1 ≤ u0) : u1 * n ≤ linN n i u0 u1 ∧ linN n i u0 u1 ≤ u0 * n := by
  have := lin_lo (n := n) (u0 := -u0) (u1 := -u1) h0 h1 (by omega)
  rw [lin_neg, Int.neg_mul, Int.neg_mul] at this
  omega
end Go.Proofs.YtkcnkhdbojdhgaaGreat
namespace Go.Proofs.YtkcnkhdbojdhgaaGreat

theorem quoS_up {X X' Y k : Nat} (h : X ≤ X') : quoS X Y k ≤ quoS X' Y k := by
  unfold quoS
  have hA : X * 2 ^ k ≤ X' * 2 ^ k := Nat.mul_le_mul_right _ h
  generalize X * 2 ^ k = A at *
  generalize X' * 2 ^ k = B at *
  have hq := Nat.div_le_div_right (c := Y) hA
  have e1 := Nat.div_add_mod A Y
  have e2 := Nat.div_add_mod B Y
  by_cases hc : A / Y = B / Y
  · rw [hc] at e1 ⊢
    have : A % Y ≤ B % Y := by omega
    split <;> split <;> omega
  · split <;> split <;> omega
theorem quoS_down {X Y Y' k : Nat} (hY : 0 < Y) (h : Y ≤ Y') : quoS X Y' k ≤ quoS X Y k := by
  unfold quoS
  generalize X * 2 ^ k = A
  have hq := Nat.div_le_div_left (a := A) h hY
  have e1 := Nat.div_add_mod A Y
  have e2 := Nat.div_add_mod A Y'
  by_cases hc : A / Y' = A / Y
  · have hm : Y * (A / Y) ≤ Y' * (A / Y) := Nat.mul_le_mul_right _ h
    rw [hc] at e2 ⊢
    have : A % Y' ≤ A % Y := by omega
    split <;> split <;> omega
  · split <;> split <;> omega
theorem quoS_scale {X Y a b K : Nat} (h : b ≤ a + K) : quoS (X * 2 ^ a) (Y * 2 ^ b) K = quoS X Y (a + K - b) := by
  have e : X * 2 ^ a * 2 ^ K = X * 2 ^ (a + K - b) * 2 ^ b := by
    rw [Nat.mul_assoc, ← Nat.pow_add, Nat.mul_assoc, ← Nat.pow_add, show a + K - b + b = a + K by omega]
  unfold quoS
  rw [e, Nat.mul_div_mul_right _ _ (Nat.two_pow_pos b), Nat.mul_mod_mul_right]
  have hp := Nat.two_pow_pos b
  generalize X * 2 ^ (a + K - b) % Y = m
  by_cases hm : m = 0
  · rw [if_pos hm, if_pos (by rw [hm, Nat.zero_mul])]
  · rw [if_neg hm, if_neg (fun e => by rcases Nat.mul_eq_zero.1 e with e | e <;> omega)]
def qR (X Y : Nat) : Nat := if X = 0 then 0 else nearR (quoS X Y 2200) (-2201)
theorem qR_up {X X' Y : Nat} (h : X ≤ X') : qR X Y ≤ qR X' Y := by
  unfold qR
  by_cases h0 : X = 0
  · rw [if_pos h0]; exact Nat.zero_le _
  · rw [if_neg h0, if_neg (by omega)]
    exact nearR_mono _ (quoS_up h)
theorem qR_down {X Y Y' : Nat} (hY : 0 < Y) (h : Y ≤ Y') : qR X Y' ≤ qR X Y := by
  unfold qR
  by_cases h0 : X = 0
  · rw [if_pos h0, if_pos h0]; exact Nat.le_refl _
  · rw [if_neg h0, if_neg h0]
    exact nearR_mono _ (quoS_down hY h)
theorem pl_top {r : Nat} (h : r < 9218868437227405312) : pl r ≤ 2046 := by unfold pl; omega
theorem quo_rank {x y : Nat} (hx : NumB x) (hy : NumB y) (h1 : y % 9223372036854775808 ≠ 0) : ∃ r, floatBits .quo .f64 x y = some r ∧ RkW r (sgZ (sB x ^^ sB y) (qR (aV x) (aV y))) := by
  by_cases h0 : x % 9223372036854775808 = 0
  · refine ⟨_, quo_zero h0 hy h1, ?_⟩
    have e : aV x = 0 := by unfold aV; rw [h0]; exact V_zero
    have e2 : qR (aV x) (aV y) = 0 := by unfold qR; rw [if_pos e]
    rw [e2]
    exact rk_wrd (by omega)
  · have hpx := pl_top hx
    have hpy := pl_top hy
    have hk : 54 + (mg (y % 9223372036854775808)).log2 - (mg (x % 9223372036854775808)).log2 ≤ pl (x % 9223372036854775808) + 2200 - pl (y % 9223372036854775808) := by
      have := mg_lt (y % 9223372036854775808)
      have hl : (mg (y % 9223372036854775808)).log2 < 53 := (Nat.log2_lt (mg_pos h1)).2 (by omega)
      omega
    refine ⟨_, quo_num hx hy h0 h1 rfl rfl rfl rfl hk, ?_⟩
    have hz : aV x ≠ 0 := by
      intro e
      exact h0 (zero_V2 e)
    have e2 : qR (aV x) (aV y) = nearR (quoS (mg (x % 9223372036854775808)) (mg (y % 9223372036854775808)) (pl (x % 9223372036854775808) + 2200 - pl (y % 9223372036854775808))) (-1074 + (pl (x % 9223372036854775808) : Int) - (-1074 + (pl (y % 9223372036854775808) : Int)) - 1 - ((pl (x % 9223372036854775808) + 2200 - pl (y % 9223372036854775808) : Nat) : Int)) := by
      unfold qR
      rw [if_neg hz]
      unfold aV V
      rw [quoS_scale (by omega)]
      congr 1
      omega
    rw [e2]
    exact rk_wrd (nearR_top _ _)
end Go.Proofs.YtkcnkhdbojdhgaaGreat
namespace Go.Proofs.YtkcnkhdbojdhgaaGreat
open Go.RowKit

theorem fac_next (k : Nat) : facN (k + 1) = facN k * max k 1 := rfl
theorem fac_step {k : Nat} : (k ≤ 1 → facN (k + 1) = facN k) ∧ (1 < k → facN (k + 1) = facN k * k) := by
  rw [fac_next]
  refine ⟨fun h => ?_, fun h => ?_⟩
  · rw [show max k 1 = 1 by omega, Nat.mul_one]
  · rw [show max k 1 = k by omega]
theorem expL_len : expL.length = 14 := by decide
theorem expL_fit : FitL expL := by unfold FitL; decide

set_option maxRecDepth 20000 in
set_option maxHeartbeats 1600000 in
theorem facts_any (w : World) :
    Calls Tryz.prog 207 #[] w fun e w' => ∃ v, e = .returned v ∧ OwnF w' w.heap.size 48 uV v expL ∧ Below w.heap.size w w' := by
  obtain ⟨i0, hi, hz0, hz1, hz2⟩ := info_parts infoU
  go_enter Tryz.func207, Tryz.ntmps207
  go_wp2
  go_loopw [1, 2, 3] (fun v s i wr => ∃ k f : Nat, k ≤ 14 ∧ i = .int .i64 k ∧ s = .int .i64 f ∧ Hid (f = facN k) ∧ Hid (wr.ownsRow w.heap.size 48 1 v k (rowOf uV expL k)) ∧ Hid (Below w.heap.size w wr)) (fun _ _ i _ => 14 - (intOf i).toNat)
  case atStart => exact ⟨0, 1, Nat.zero_le _, rfl, rfl, rfl, World.ownsRow_nil _ _ _ _, Below.refl _ _⟩
  case round =>
    obtain ⟨k, f, hk, rfl, rfl, HF, hown, HB⟩ := hrel
    by_cases hlt : k < 14
    · have hx : k < expL.length := by rw [expL_len]; exact hlt
      have HT := hideS (take_next (f := uV) hx)
      have hfb := fac_bd k (by omega)
      rw [← HF.out] at hfb
      obtain ⟨hf1, hf2⟩ := hfb
      have hfb2 := fac_bd (k + 1) (by omega)
      obtain ⟨f2, hf⟩ : ∃ f2, facN (k + 1) = f2 := ⟨_, rfl⟩
      rw [hf] at hfb2
      obtain ⟨hf3, hf4⟩ := hfb2
      have HF2 := hideS hf.symm
      obtain ⟨fz, hfz⟩ : ∃ fz : Int, (fi (f2 : Int) : Int) = fz := ⟨_, rfl⟩
      obtain ⟨x, hxx⟩ : ∃ x, expL.getD k 0 = x := ⟨_, rfl⟩
      obtain ⟨xi, hxi⟩ : ∃ xi : Int, (x : Int) = xi := ⟨_, rfl⟩
      have HInt : Hid (∀ w, Calls Tryz.prog 203 #[.int .i64 (f2 : Int)] w fun e w' => e = .returned (.int .u64 fz) ∧ Below w.heap.size w w') := fun w => by
        have := refInt_any (f2 : Int) w (by omega) (by omega)
        rw [hfz] at this; exact this
      have HDiv : Hid (∀ w, Calls Tryz.prog 66 #[.int .u64 4607182418800017408, .int .u64 fz] w fun e w' => e = .returned (.int .u64 xi) ∧ Below w.heap.size w w') := fun w => by
        have := refDiv_any 4607182418800017408 (fi (f2 : Int)) 4607182418800017408 fz w rfl hfz.symm (by unfold U64; omega) (by rw [← hfz]; exact u64_of_nat (aV_fi (a := (f2 : Int)) rfl (by omega) (by omega)).2.2.2)
        have e := exp_row k hlt
        rw [hf, hxx] at e
        rw [e, cn_some, hxi] at this; exact this
      rw [hxx] at HT
      have HXI := hideS hxi
      clear hx hf hfz hxx hxi
      have hsz := HB.out.size
      have hfs := fac_step (k := k)
      rw [← HF2.out, ← HF.out] at hfs
      have key : ∀ (w1 : World) (hb1 : Below wr.heap.size wr w1), True := fun _ _ => trivial
      clear key
      rcases (show k ≤ 1 ∨ 1 < k by omega) with hk1 | hk1
      · have hff := hfs.1 hk1
        subst hff
        clear hfs
        go_wp2_with fail
        refine (HInt.out _).mono ?_
        rintro e w1 ⟨rfl, hb1⟩
        have HB1 := hideS hb1
        clear hb1
        go_wp2_with fail
        refine (HDiv.out _).mono ?_
        rintro e w2 ⟨rfl, hb2⟩
        have HB2 := hideS (HB1.out.trans (hb2.mono HB1.out.size))
        have HO2 := hideS (own_below hown.out HB2.out)
        have HBw := hideS (HB.out.trans (HB2.out.mono hsz))
        have hsz2 := HBw.out.size
        clear hb2 HB1 hown
        go_wp2_with (at_builtin; refine wpList_append_own _ rfl _ _ 31 rfl w.heap.size 48 i0 (.int .u64 0) 1 8 Tryz.underlying31 hi hz0 hz1 hz2 rfl (by decide) _ _ _ rfl (HO2.out.alloc _) ⟨w2.heap.size, 0, none⟩ 1 1 [.int .u64 xi] rfl rfl ?c1 ?c2 ?c3 ?c4 ?c5 ?_)
        case c1 =>
          intro j u hj
          match j, hj with
          | 0, hj => simp at hj; subst hj; simp [Addr.add]
        case c2 => intro u hu; simp at hu; subst hu; rfl
        case c3 => unfold maxLen; omega
        case c4 => omega
        case c5 => simp; omega
        · intro v' w3 hown' hgrow _
          have hlow := HO2.out.lt
          have hb3 : Below w.heap.size w w3 := (HBw.out.alloc hsz2 _).grown hgrow (by simp; omega) (fun j hj => (hlow j hj).1)
          rw [← HXI.out, show Value.int IntKind.u64 (x : Int) = uV x from rfl, ← HT.out] at hown'
          have HO := hideS hown'
          have HB3 := hideS hb3
          clear hown' hgrow hlow hb3
          go_wp2
          go_roundw
          case rel => exact ⟨k + 1, _, by omega, by simp, rfl, HF2, HO, HB3⟩
          case measure => simp [intOf]; omega
      · have hff := hfs.2 hk1
        have hmul : (f : Int) * (k : Int) = (f2 : Int) := by rw [hff, Int.natCast_mul]
        clear hfs hff
        go_wp2_with fail
        refine (HInt.out _).mono ?_
        rintro e w1 ⟨rfl, hb1⟩
        have HB1 := hideS hb1
        clear hb1
        go_wp2_with fail
        refine (HDiv.out _).mono ?_
        rintro e w2 ⟨rfl, hb2⟩
        have HB2 := hideS (HB1.out.trans (hb2.mono HB1.out.size))
        have HO2 := hideS (own_below hown.out HB2.out)
        have HBw := hideS (HB.out.trans (HB2.out.mono hsz))
        have hsz2 := HBw.out.size
        clear hb2 HB1 hown
        go_wp2_with (at_builtin; refine wpList_append_own _ rfl _ _ 31 rfl w.heap.size 48 i0 (.int .u64 0) 1 8 Tryz.underlying31 hi hz0 hz1 hz2 rfl (by decide) _ _ _ rfl (HO2.out.alloc _) ⟨w2.heap.size, 0, none⟩ 1 1 [.int .u64 xi] rfl rfl ?c1 ?c2 ?c3 ?c4 ?c5 ?_)
        case c1 =>
          intro j u hj
          match j, hj with
          | 0, hj => simp at hj; subst hj; simp [Addr.add]
        case c2 => intro u hu; simp at hu; subst hu; rfl
        case c3 => unfold maxLen; omega
        case c4 => omega
        case c5 => simp; omega
        · intro v' w3 hown' hgrow _
          have hlow := HO2.out.lt
          have hb3 : Below w.heap.size w w3 := (HBw.out.alloc hsz2 _).grown hgrow (by simp; omega) (fun j hj => (hlow j hj).1)
          rw [← HXI.out, show Value.int IntKind.u64 (x : Int) = uV x from rfl, ← HT.out] at hown'
          have HO := hideS hown'
          have HB3 := hideS hb3
          clear hown' hgrow hlow hb3
          go_wp2
          go_roundw
          case rel => exact ⟨k + 1, _, by omega, by simp, rfl, HF2, HO, HB3⟩
          case measure => simp [intOf]; omega
    · obtain rfl : k = 14 := by omega
      go_wp2
      go_ret
      have h1 := hown.out
      rw [show (14 : Nat) = expL.length from expL_len.symm, rowOf_all] at h1
      exact ⟨_, rfl, ⟨h1⟩, HB.out⟩
end Go.Proofs.YtkcnkhdbojdhgaaGreat
