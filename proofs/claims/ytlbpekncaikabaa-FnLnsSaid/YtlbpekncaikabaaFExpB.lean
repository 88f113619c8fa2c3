/- The steps of Exp between its bounds: each is a number, and the rest is at most a half. -/
import Derived.Test.YtlbpekncaikabaaFBound2
import Derived.Test.YtlbpekncaikabaaFExp
namespace Go.Proofs.Ytlbpekncaikabaa

theorem num_dec (b : Nat) (h : decide (b % 9223372036854775808 < 9218868437227405312) = true) : NumB b := by unfold NumB; exact of_decide_eq_true h
theorem const_worth {K : Nat} {g : Int} (hs : Scale K g) {b m p : Nat} (q : Nat) (h0 : sB b = false) (hm : mg (b % 9223372036854775808) = m) (hp : pl (b % 9223372036854775808) = p) (hq : q + 974 = p) : vI b = ((m * 2 ^ q : Nat) : Int) * g := by
  rw [vI_sgZ, h0]
  unfold sgZ aV V
  rw [if_neg (by decide), hm, hp, Int.natCast_mul, hs.at_ q p hq, Int.natCast_mul, Int.mul_assoc]
theorem perLog_worth {K : Nat} {g : Int} (hs : Scale K g) : vI 4609176140021203710 = 1828833234529184396638827839488 * g := by
  rw [const_worth hs (b := 4609176140021203710) 48 (by decide +kernel) (m := 6497320848556798) (by decide +kernel) (p := 1022) (by decide +kernel) rfl]; rfl
theorem half_worth {K : Nat} {g : Int} (hs : Scale K g) : vI 4602678819172646912 = 633825300114114700748351602688 * g := by
  rw [const_worth hs (b := 4602678819172646912) 47 (by decide +kernel) (m := 4503599627370496) (by decide +kernel) (p := 1021) (by decide +kernel) rfl]; rfl
theorem high_worth {K : Nat} {g : Int} (hs : Scale K g) : vI 4604418534311723008 = 878668439241424593572830642176 * g := by
  rw [const_worth hs (b := 4604418534311723008) 47 (by decide +kernel) (m := 6243314766446592) (by decide +kernel) (p := 1021) (by decide +kernel) rfl]; rfl
theorem low_worth {K : Nat} {g : Int} (hs : Scale K g) : vI 4461442080421002358 = 241894980045432881152 * g := by
  rw [const_worth hs (b := 4461442080421002358) 15 (by decide +kernel) (m := 7382048951581814) (by decide +kernel) (p := 989) (by decide +kernel) rfl]; rfl
theorem fi_worth {K : Nat} {g : Int} (hs : Scale K g) {m : Int} (h1 : -9007199254740992 ≤ m) (h2 : m ≤ 9007199254740992) : vI (fi m) = 1267650600228229401496703205376 * (m * g) ∧ NumB (fi m) ∧ fi m < 18446744073709551616 := by
  obtain ⟨a, b, _, d⟩ := vI_fi hs.k h1 h2
  refine ⟨?_, b, d⟩
  rw [a, hs.unit, ← Int.mul_assoc, Int.mul_comm m, Int.mul_assoc]
/-- A sum with a number above 0 is never -0. -/
theorem add_pos_zero {x y t : Nat} (hx : NumB x) (hy : NumB y) (h0 : sB y = false) (ht : floatBits .add .f64 x y = some t) : t % 9223372036854775808 ≠ 0 ∨ sB t = false := by
  rw [add_num hx hy] at ht
  have e : addR (x / 9223372036854775808 % 2 == 1) (y / 9223372036854775808 % 2 == 1) (vI x + vI y) = t := Option.some.inj ht
  have hy0 : (y / 9223372036854775808 % 2 == 1) = false := h0
  rw [hy0] at e
  unfold addR at e
  generalize vI x + vI y = T at e
  by_cases hT : T = 0
  · rw [if_pos hT, Bool.and_false, if_neg (by decide)] at e
    right; rw [← e]; rfl
  · left
    rw [if_neg hT, joinN_wrd hT] at e
    have h1 := near_ge (T := T.natAbs) (r := 1) (k := 0) (by decide) (by rw [show V 1 = 1 by decide]; omega)
    have h2 := nearR_le T.natAbs (-1074)
    have h3 : 1 ≤ nearR T.natAbs (-1074) := h1
    rw [← e]
    unfold wrd
    generalize nearR T.natAbs (-1074) = r at *
    split <;> omega

theorem rest_small {X Y t Q hi lo d r g : Int} (x1 : -(945667347770259133516540591210496 * g) < X) (x2 : X < 900031926162042875062659275816960 * g)
    (y1 : -(1569275433846670190958947355801916604025588861116008628224 * g) ≤ 1267650600228229401496703205376 * Y - 1828833234529184396638827839488 * X) (y2 : 1267650600228229401496703205376 * Y - 1828833234529184396638827839488 * X ≤ 1569275433846670190958947355801916604025588861116008628224 * g)
    (t1 : -(1237940039285380274899124224 * g) ≤ t - (Y + 633825300114114700748351602688 * g)) (t2 : t - (Y + 633825300114114700748351602688 * g) ≤ 1237940039285380274899124224 * g)
    (k1 : 1267650600228229401496703205376 * Q ≤ t) (k2 : t < 1267650600228229401496703205376 * Q + 1267650600228229401496703205376 * g)
    (a1 : -(1569275433846670190958947355801916604025588861116008628224 * g) ≤ 1267650600228229401496703205376 * hi - 878668439241424593572830642176 * (1267650600228229401496703205376 * Q)) (a2 : 1267650600228229401496703205376 * hi - 878668439241424593572830642176 * (1267650600228229401496703205376 * Q) ≤ 1569275433846670190958947355801916604025588861116008628224 * g)
    (b1 : -(1569275433846670190958947355801916604025588861116008628224 * g) ≤ 1267650600228229401496703205376 * lo - 241894980045432881152 * (1267650600228229401496703205376 * Q)) (b2 : 1267650600228229401496703205376 * lo - 241894980045432881152 * (1267650600228229401496703205376 * Q) ≤ 1569275433846670190958947355801916604025588861116008628224 * g)
    (d1 : -(1237940039285380274899124224 * g) ≤ d - (X - hi)) (d2 : d - (X - hi) ≤ 1237940039285380274899124224 * g)
    (r1 : -(1237940039285380274899124224 * g) ≤ r - (d - lo)) (r2 : r - (d - lo) ≤ 1237940039285380274899124224 * g) :
    -(633825300114114700748351602688 * g) ≤ r ∧ r ≤ 633825300114114700748351602688 * g := by
  constructor <;> omega

theorem exp_chain {K : Nat} {g : Int} (hs : Scale K g) {x : Nat} (hx : NumB x) (x1 : -(945667347770259133516540591210496 * g) < vI x) (x2 : vI x < 900031926162042875062659275816960 * g) :
    ∃ (y t hi lo d r : Nat) (k : Int), floatBits .mul .f64 x 4609176140021203710 = some y ∧ floatBits .add .f64 y 4602678819172646912 = some t ∧ NumB t ∧ Ieee.double.write ((Ieee.double.read t).integral .down) = fi k ∧ k * ((2 ^ K : Nat) : Int) ≤ vI t ∧ vI t < (k + 1) * ((2 ^ K : Nat) : Int) ∧ -2000 ≤ k ∧ k ≤ 2000 ∧
      floatBits .mul .f64 (fi k) 4604418534311723008 = some hi ∧ floatBits .mul .f64 (fi k) 4461442080421002358 = some lo ∧ floatBits .sub .f64 x hi = some d ∧ floatBits .sub .f64 d lo = some r ∧ NumB r ∧ r < 18446744073709551616 ∧ -(633825300114114700748351602688 * g) ≤ vI r ∧ vI r ≤ 633825300114114700748351602688 * g := by
  have hg := hs.pos
  obtain ⟨y, y0, yn, _, y1, y2⟩ := mul_near hs hx (num_dec 4609176140021203710 (by decide)) (perLog_worth hs) (by omega) (by omega)
  have hw := half_worth hs
  obtain ⟨t, t0, tn, _, t1, t2⟩ := add_near hs yn (num_dec 4602678819172646912 (by decide)) (by rw [hw]; omega) (by rw [hw]; omega)
  rw [hw] at t1 t2
  obtain ⟨k, k0, k1, k2⟩ := floor_word hs.k tn (add_pos_zero yn (num_dec 4602678819172646912 (by decide)) (by decide +kernel) t0)
  have kk1 := k1
  have kk2 := k2
  rw [hs.unit, ← Int.mul_assoc, Int.mul_comm k, Int.mul_assoc] at k1
  rw [hs.unit, Int.add_mul, Int.one_mul, ← Int.mul_assoc, Int.mul_comm k, Int.mul_assoc] at k2
  have kb1 : -2000 ≤ k := by
    by_cases h : -2000 ≤ k
    · exact h
    · have := Int.mul_le_mul_of_nonneg_right (show k ≤ -2001 by omega) (show 0 ≤ g by omega)
      omega
  have kb2 : k ≤ 2000 := by
    by_cases h : k ≤ 2000
    · exact h
    · have := Int.mul_le_mul_of_nonneg_right (show 2001 ≤ k by omega) (show 0 ≤ g by omega)
      omega
  have kb3 := Int.mul_le_mul_of_nonneg_right kb1 (show 0 ≤ g by omega)
  have kb4 := Int.mul_le_mul_of_nonneg_right kb2 (show 0 ≤ g by omega)
  obtain ⟨f1, fn, _⟩ := fi_worth hs (m := k) (by omega) (by omega)
  obtain ⟨Q, hQ⟩ : ∃ Q, k * g = Q := ⟨_, rfl⟩
  rw [hQ] at f1 k1 k2 kb3 kb4
  obtain ⟨hi, h0, hn, _, a1, a2⟩ := mul_near hs fn (num_dec 4604418534311723008 (by decide)) (high_worth hs) (by rw [f1]; omega) (by rw [f1]; omega)
  obtain ⟨lo, l0, ln, _, b1, b2⟩ := mul_near hs fn (num_dec 4461442080421002358 (by decide)) (low_worth hs) (by rw [f1]; omega) (by rw [f1]; omega)
  rw [f1] at a1 a2 b1 b2
  obtain ⟨d, d0, dn, _, d1, d2⟩ := sub_near hs hx hn (by omega) (by omega)
  obtain ⟨r, r0, rn, r64, r1, r2⟩ := sub_near hs dn ln (by omega) (by omega)
  obtain ⟨z1, z2⟩ := rest_small x1 x2 y1 y2 t1 t2 k1 k2 a1 a2 b1 b2 d1 d2 r1 r2
  exact ⟨y, t, hi, lo, d, r, k, y0, t0, tn, k0, kk1, kk2, kb1, kb2, h0, l0, d0, r0, rn, r64, z1, z2⟩
end Go.Proofs.Ytlbpekncaikabaa
