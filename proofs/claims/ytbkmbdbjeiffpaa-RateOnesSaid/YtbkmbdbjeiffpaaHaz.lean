/- The steps of Exp between its bounds: each is a number, and the rest is at most a half. Exp between its bounds tells a float from +0 to +Inf. -/
import Derived.Test.YtbkmbdbjeiffpaaHay
namespace Go.Proofs.Ytbkmbdbjeiffpaa

theorem num_dec (b : Nat) (h : decide (b % 9223372036854775808 < 9218868437227405312) = true) : NumB b := by unfold NumB; exact of_decide_eq_true h
theorem const_worth {K : Nat} {g : Int} (hs : Scale K g) {b m p : Nat} (q : Nat) (h0 : sB b = false) (hm : mg (b % 9223372036854775808) = m) (hp : pl (b % 9223372036854775808) = p) (hq : q + 974 = p) : vI b = ((m * 2 ^ q : Nat) : Int) * g := by
  rw [vI_sgZ, h0]
  unfold sgZ aV V
  rw [if_neg (by decide), hm, hp, Int.natCast_mul, hs.at_ q p hq, Int.natCast_mul, Int.mul_assoc]
theorem perLog_worth {K : Nat} {g : Int} (hs : Scale K g) : vI 4609176140021203710 = 1828833234529184396638827839488 * g := by
  rw [const_worth hs (b := 4609176140021203710) 48 (by decide +kernel) (m := 6497320848556798) (by decide +kernel) (p := 1022) (by decide +kernel) rfl]; rfl
theorem half_worth {K : Nat} {g : Int} (hs : Scale K g) : vI 4602678819172646912 = 633825300114114700748351602688 * g := by
  rw [const_worth hs (b := 4602678819172646912) 47 (by decide +kernel) (m := 4503599627370496) (by decide +kernel) (p := 1021) (by decide +kernel) rfl]; rfl
theorem high_worth {K : Nat} {g : Int} (hs : Scale K g) : vI 4604418534311723008 = 878668439241424593572830642176 * g := by
  rw [const_worth hs (b := 4604418534311723008) 47 (by decide +kernel) (m := 6243314766446592) (by decide +kernel) (p := 1021) (by decide +kernel) rfl]; rfl
theorem low_worth {K : Nat} {g : Int} (hs : Scale K g) : vI 4461442080421002358 = 241894980045432881152 * g := by
  rw [const_worth hs (b := 4461442080421002358) 15 (by decide +kernel) (m := 7382048951581814) (by decide +kernel) (p := 989) (by decide +kernel) rfl]; rfl
theorem fi_worth {K : Nat} {g : Int} (hs : Scale K g) {m : Int} (h1 : -9007199254740992 ≤ m) (h2 : m ≤ 9007199254740992) : vI (fi m) = 1267650600228229401496703205376 * (m * g) ∧ NumB (fi m) ∧ fi m < 18446744073709551616 := by
  obtain ⟨a, b, _, d⟩ := vI_fi hs.k h1 h2
  refine ⟨?_, b, d⟩
  rw [a, hs.unit, ← Int.mul_assoc, Int.mul_comm m, Int.mul_assoc]
/-- A sum with a number above 0 is never -0. -/
theorem add_pos_zero {x y t : Nat} (hx : NumB x) (hy : NumB y) (h0 : sB y = false) (ht : floatBits .add .f64 x y = some t) : t % 9223372036854775808 ≠ 0 ∨ sB t = false := by
  rw [add_num hx hy] at ht
  have e : addR (x / 9223372036854775808 % 2 == 1) (y / 9223372036854775808 % 2 == 1) (vI x + vI y) = t := Option.some.inj ht
  have hy0 : (y / 9223372036854775808 % 2 == 1) = false := h0
  rw [hy0] at e
  unfold addR at e
  generalize vI x + vI y = T at e
  by_cases hT : T = 0
  · rw [if_pos hT, Bool.and_false, if_neg (by decide)] at e
    right; rw [← e]; rfl
  · left
    rw [if_neg hT, joinN_wrd hT] at e
    have h1 := near_ge (T := T.natAbs) (r := 1) (k := 0) (by decide) (by rw [show V 1 = 1 by decide]; omega)
    have h2 := nearR_le T.natAbs (-1074)
    have h3 : 1 ≤ nearR T.natAbs (-1074) := h1
    rw [← e]
    unfold wrd
    generalize nearR T.natAbs (-1074) = r at *
    split <;> omega

theorem rest_small {X Y t Q hi lo d r g : Int} (x1 : -(945667347770259133516540591210496 * g) < X) (x2 : X < 900031926162042875062659275816960 * g)
    (y1 : -(1569275433846670190958947355801916604025588861116008628224 * g) ≤ 1267650600228229401496703205376 * Y - 1828833234529184396638827839488 * X) (y2 : 1267650600228229401496703205376 * Y - 1828833234529184396638827839488 * X ≤ 1569275433846670190958947355801916604025588861116008628224 * g)
    (t1 : -(1237940039285380274899124224 * g) ≤ t - (Y + 633825300114114700748351602688 * g)) (t2 : t - (Y + 633825300114114700748351602688 * g) ≤ 1237940039285380274899124224 * g)
    (k1 : 1267650600228229401496703205376 * Q ≤ t) (k2 : t < 1267650600228229401496703205376 * Q + 1267650600228229401496703205376 * g)
    (a1 : -(1569275433846670190958947355801916604025588861116008628224 * g) ≤ 1267650600228229401496703205376 * hi - 878668439241424593572830642176 * (1267650600228229401496703205376 * Q)) (a2 : 1267650600228229401496703205376 * hi - 878668439241424593572830642176 * (1267650600228229401496703205376 * Q) ≤ 1569275433846670190958947355801916604025588861116008628224 * g)
    (b1 : -(1569275433846670190958947355801916604025588861116008628224 * g) ≤ 1267650600228229401496703205376 * lo - 241894980045432881152 * (1267650600228229401496703205376 * Q)) (b2 : 1267650600228229401496703205376 * lo - 241894980045432881152 * (1267650600228229401496703205376 * Q) ≤ 1569275433846670190958947355801916604025588861116008628224 * g)
    (d1 : -(1237940039285380274899124224 * g) ≤ d - (X - hi)) (d2 : d - (X - hi) ≤ 1237940039285380274899124224 * g)
    (r1 : -(1237940039285380274899124224 * g) ≤ r - (d - lo)) (r2 : r - (d - lo) ≤ 1237940039285380274899124224 * g) :
    -(633825300114114700748351602688 * g) ≤ r ∧ r ≤ 633825300114114700748351602688 * g := by
  constructor <;> omega

theorem exp_chain {K : Nat} {g : Int} (hs : Scale K g) {x : Nat} (hx : NumB x) (x1 : -(945667347770259133516540591210496 * g) < vI x) (x2 : vI x < 900031926162042875062659275816960 * g) :
    ∃ (y t hi lo d r : Nat) (k : Int), floatBits .mul .f64 x 4609176140021203710 = some y ∧ floatBits .add .f64 y 4602678819172646912 = some t ∧ NumB t ∧ Ieee.double.write ((Ieee.double.read t).integral .down) = fi k ∧ k * ((2 ^ K : Nat) : Int) ≤ vI t ∧ vI t < (k + 1) * ((2 ^ K : Nat) : Int) ∧ -2000 ≤ k ∧ k ≤ 2000 ∧
      floatBits .mul .f64 (fi k) 4604418534311723008 = some hi ∧ floatBits .mul .f64 (fi k) 4461442080421002358 = some lo ∧ floatBits .sub .f64 x hi = some d ∧ floatBits .sub .f64 d lo = some r ∧ NumB r ∧ r < 18446744073709551616 ∧ -(633825300114114700748351602688 * g) ≤ vI r ∧ vI r ≤ 633825300114114700748351602688 * g := by
  have hg := hs.pos
  obtain ⟨y, y0, yn, _, y1, y2⟩ := mul_near hs hx (num_dec 4609176140021203710 (by decide)) (perLog_worth hs) (by omega) (by omega)
  have hw := half_worth hs
  obtain ⟨t, t0, tn, _, t1, t2⟩ := add_near hs yn (num_dec 4602678819172646912 (by decide)) (by rw [hw]; omega) (by rw [hw]; omega)
  rw [hw] at t1 t2
  obtain ⟨k, k0, k1, k2⟩ := floor_word hs.k tn (add_pos_zero yn (num_dec 4602678819172646912 (by decide)) (by decide +kernel) t0)
  have kk1 := k1
  have kk2 := k2
  rw [hs.unit, ← Int.mul_assoc, Int.mul_comm k, Int.mul_assoc] at k1
  rw [hs.unit, Int.add_mul, Int.one_mul, ← Int.mul_assoc, Int.mul_comm k, Int.mul_assoc] at k2
  have kb1 : -2000 ≤ k := by
    by_cases h : -2000 ≤ k
    · exact h
    · have := Int.mul_le_mul_of_nonneg_right (show k ≤ -2001 by omega) (show 0 ≤ g by omega)
      omega
  have kb2 : k ≤ 2000 := by
    by_cases h : k ≤ 2000
    · exact h
    · have := Int.mul_le_mul_of_nonneg_right (show 2001 ≤ k by omega) (show 0 ≤ g by omega)
      omega
  have kb3 := Int.mul_le_mul_of_nonneg_right kb1 (show 0 ≤ g by omega)
  have kb4 := Int.mul_le_mul_of_nonneg_right kb2 (show 0 ≤ g by omega)
  obtain ⟨f1, fn, _⟩ := fi_worth hs (m := k) (by omega) (by omega)
  obtain ⟨Q, hQ⟩ : ∃ Q, k * g = Q := ⟨_, rfl⟩
  rw [hQ] at f1 k1 k2 kb3 kb4
  obtain ⟨hi, h0, hn, _, a1, a2⟩ := mul_near hs fn (num_dec 4604418534311723008 (by decide)) (high_worth hs) (by rw [f1]; omega) (by rw [f1]; omega)
  obtain ⟨lo, l0, ln, _, b1, b2⟩ := mul_near hs fn (num_dec 4461442080421002358 (by decide)) (low_worth hs) (by rw [f1]; omega) (by rw [f1]; omega)
  rw [f1] at a1 a2 b1 b2
  obtain ⟨d, d0, dn, _, d1, d2⟩ := sub_near hs hx hn (by omega) (by omega)
  obtain ⟨r, r0, rn, r64, r1, r2⟩ := sub_near hs dn ln (by omega) (by omega)
  obtain ⟨z1, z2⟩ := rest_small x1 x2 y1 y2 t1 t2 k1 k2 a1 a2 b1 b2 d1 d2 r1 r2
  exact ⟨y, t, hi, lo, d, r, k, y0, t0, tn, k0, kk1, kk2, kb1, kb2, h0, l0, d0, r0, rn, r64, z1, z2⟩
end Go.Proofs.Ytbkmbdbjeiffpaa
namespace Go.Proofs.Ytbkmbdbjeiffpaa
open Go.RowKit

theorem abs_mul_le {a b A B : Int} (h1 : -A ≤ a) (h2 : a ≤ A) (h3 : -B ≤ b) (h4 : b ≤ B) : -(A * B) ≤ a * b ∧ a * b ≤ A * B := by
  have h5 : (a * b).natAbs ≤ (A * B).natAbs := by
    rw [Int.natAbs_mul, Int.natAbs_mul]
    exact Nat.mul_le_mul (by omega) (by omega)
  have h6 : 0 ≤ A * B := Int.mul_nonneg (by omega) (by omega)
  omega
theorem rep_units {K : Nat} {g : Int} (hs : Scale K g) (j : Int) (h1 : -10 < j) (h2 : j < 10) : Rep (1267650600228229401496703205376 * (j * g)) := by
  have := rep_grid (j := j) (E := K) (by omega) (by omega) (by have := hs.k; omega) (by have := hs.k; omega)
  rw [hs.unit, ← Int.mul_assoc, Int.mul_comm j, Int.mul_assoc] at this
  exact this
theorem mul_held {K : Nat} {g : Int} (hs : Scale K g) {p r : Nat} (hp : NumB p) (hr : NumB r) (p1 : -(2535301200456458802993406410752 * g) ≤ vI p) (p2 : vI p ≤ 2535301200456458802993406410752 * g) (r1 : -(633825300114114700748351602688 * g) ≤ vI r) (r2 : vI r ≤ 633825300114114700748351602688 * g) :
    ∃ z, floatBits .mul .f64 p r = some z ∧ NumB z ∧ z < 18446744073709551616 ∧ -(1267650600228229401496703205376 * g) ≤ vI z ∧ vI z ≤ 1267650600228229401496703205376 * g := by
  obtain ⟨a, b⟩ := abs_mul_le p1 p2 r1 r2
  have rA := rep_units hs (-1) (by decide) (by decide)
  have rB := rep_units hs 1 (by decide) (by decide)
  have e : (2535301200456458802993406410752 * g) * (633825300114114700748351602688 * g) = 1267650600228229401496703205376 * g * (1267650600228229401496703205376 * g) := by
    rw [show (2535301200456458802993406410752 : Int) * g = (1267650600228229401496703205376 * g) * 2 by omega, Int.mul_assoc (1267650600228229401496703205376 * g), show (2 : Int) * (633825300114114700748351602688 * g) = 1267650600228229401496703205376 * g by omega]
  rw [e] at a b
  have f1 : 1267650600228229401496703205376 * (-1 * g) * ((2 ^ K : Nat) : Int) ≤ vI p * vI r := by
    rw [hs.unit, show (1267650600228229401496703205376 : Int) * (-1 * g) = -(1267650600228229401496703205376 * g) by omega, Int.neg_mul]; exact a
  have f2 : vI p * vI r ≤ 1267650600228229401496703205376 * (1 * g) * ((2 ^ K : Nat) : Int) := by
    rw [hs.unit, Int.one_mul]; exact b
  obtain ⟨z, z1, z2, z3, z4⟩ := mul_worth hs.k hp hr (fin_of rA rB f1 f2)
  have a1 := round_ge rA f1
  have a2 := round_le rB f2
  rw [← z4] at a1 a2
  exact ⟨z, z1, z2, z3, by omega, by omega⟩
theorem add_held {K : Nat} {g : Int} (hs : Scale K g) {q c : Nat} (hq : NumB q) (hc : NumB c) (l : Int) (hl1 : -10 < l) (hl2 : l < 10) (t1 : 1267650600228229401496703205376 * (l * g) ≤ vI q + vI c) (t2 : vI q + vI c ≤ 2535301200456458802993406410752 * g) :
    ∃ z, floatBits .add .f64 q c = some z ∧ NumB z ∧ z < 18446744073709551616 ∧ 1267650600228229401496703205376 * (l * g) ≤ vI z ∧ vI z ≤ 2535301200456458802993406410752 * g := by
  have rA := rep_units hs l hl1 hl2
  have rB := rep_units hs 2 (by decide) (by decide)
  have f1 : 1267650600228229401496703205376 * (l * g) * ((2 ^ 0 : Nat) : Int) ≤ vI q + vI c := by rw [show ((2 ^ 0 : Nat) : Int) = 1 from rfl, Int.mul_one]; exact t1
  have f2 : vI q + vI c ≤ 1267650600228229401496703205376 * (2 * g) * ((2 ^ 0 : Nat) : Int) := by rw [show ((2 ^ 0 : Nat) : Int) = 1 from rfl, Int.mul_one]; omega
  obtain ⟨z, z1, z2, z3, z4⟩ := add_worth hq hc (fin_of rA rB f1 f2)
  have a1 := round_ge rA f1
  have a2 := round_le rB f2
  rw [← z4] at a1 a2
  exact ⟨z, z1, z2, z3, a1, by omega⟩
theorem one_worth {K : Nat} {g : Int} (hs : Scale K g) : vI 4607182418800017408 = 1267650600228229401496703205376 * g ∧ NumB 4607182418800017408 := by
  obtain ⟨a, b, _⟩ := fi_worth hs (m := 1) (by decide) (by decide)
  rw [fi_one] at a b
  rw [Int.one_mul] at a
  exact ⟨a, b⟩
theorem exp_bits : ∀ i, i < 14 → expL.getD i 0 ≤ 4607182418800017408 := by decide +kernel
theorem low_units {K : Nat} {g : Int} (hs : Scale K g) {c : Nat} (h : c ≤ 4607182418800017408) : NumB c ∧ 0 ≤ vI c ∧ vI c ≤ 1267650600228229401496703205376 * g := by
  have h1 : vI c = (V c : Int) := by
    rw [vI_sgZ]; unfold sB aV
    rw [show c / 9223372036854775808 % 2 = 0 by omega, show c % 9223372036854775808 = c by omega]; rfl
  have h2 : vI 4607182418800017408 = (V 4607182418800017408 : Int) := by
    rw [vI_sgZ]; unfold sB aV; rfl
  have h3 := V_le h
  rw [(one_worth hs).1] at h2
  refine ⟨by unfold NumB; omega, by omega, by omega⟩
theorem horn_held {K : Nat} {g : Int} (hs : Scale K g) {r : Nat} (hr : NumB r) (r1 : -(633825300114114700748351602688 * g) ≤ vI r) (r2 : vI r ≤ 633825300114114700748351602688 * g) :
    ∀ i, i ≤ 12 → ∃ p, hornAt expL r i = some p ∧ NumB p ∧ -(2535301200456458802993406410752 * g) ≤ vI p ∧ vI p ≤ 2535301200456458802993406410752 * g := by
  have hg := hs.pos
  intro i
  induction i with
  | zero =>
    intro _
    obtain ⟨a, b, c⟩ := low_units hs (exp_bits 13 (by omega))
    exact ⟨expL.getD 13 0, rfl, a, by omega, by omega⟩
  | succ i ih =>
    intro hi
    obtain ⟨p, e, hp, p1, p2⟩ := ih (by omega)
    obtain ⟨q, q0, qn, _, q1, q2⟩ := mul_held hs hp hr p1 p2 r1 r2
    obtain ⟨a, b, c⟩ := low_units hs (exp_bits (14 - 2 - i) (by omega))
    obtain ⟨z, z0, zn, _, z1, z2⟩ := add_held hs qn a (-1) (by decide) (by decide) (by omega) (by omega)
    refine ⟨z, ?_, zn, by omega, z2⟩
    show stepO r (hornAt expL r i) (expL.getD (14 - 2 - i) 0) = some z
    rw [e]
    show ((some p).bind fun p => floatBits .mul .f64 p r).bind _ = _
    rw [show ((some p).bind fun p => floatBits .mul .f64 p r) = some q from q0]
    exact z0
theorem horn_exp {K : Nat} {g : Int} (hs : Scale K g) {r : Nat} (hr : NumB r) (r1 : -(633825300114114700748351602688 * g) ≤ vI r) (r2 : vI r ≤ 633825300114114700748351602688 * g) :
    ∃ p, hornO expL r = some p ∧ NumB p ∧ p < 18446744073709551616 ∧ 0 ≤ vI p := by
  have hg := hs.pos
  obtain ⟨p, e, hp, p1, p2⟩ := horn_held hs hr r1 r2 12 (by omega)
  obtain ⟨q, q0, qn, _, q1, q2⟩ := mul_held hs hp hr p1 p2 r1 r2
  obtain ⟨o1, o2⟩ := one_worth hs
  obtain ⟨z, z0, zn, z64, z1, _⟩ := add_held hs qn o2 0 (by decide) (by decide) (by rw [o1]; omega) (by rw [o1]; omega)
  refine ⟨z, ?_, zn, z64, by omega⟩
  show stepO r (hornAt expL r 12) 4607182418800017408 = some z
  rw [e]
  show ((some p).bind fun p => floatBits .mul .f64 p r).bind _ = _
  rw [show ((some p).bind fun p => floatBits .mul .f64 p r) = some q from q0]
  exact z0

theorem spl_of {p : Nat} (hn : NumB p) (h64 : p < 18446744073709551616) (h0 : 0 ≤ vI p) : 0 ≤ splM p ∧ splM p < 9007199254740992 ∧ -2000 ≤ splE p ∧ splE p ≤ 2000 := by
  have hsz : szI (p : Int) = ((p % 9223372036854775808 : Nat) : Int) := by unfold szI; omega
  have hok : splOk (p : Int) = true := by unfold splOk; rw [hsz]; unfold NumB at hn; simp; omega
  have hE : -2000 ≤ splE p ∧ splE p ≤ 2000 := by
    unfold splE plcI
    rw [hsz]
    unfold NumB at hn
    split
    · split <;> omega
    · omega
  unfold splM
  rw [hok, if_pos rfl, hsz]
  obtain ⟨r, hr⟩ : ∃ r, p % 9223372036854775808 = r := ⟨_, rfl⟩
  have hm : 0 ≤ magI (r : Int) ∧ magI (r : Int) < 9007199254740992 := by unfold magI; split <;> omega
  have hz : sgB (p : Int) = true → r = 0 := fun h => by
    have h1 : sB p = true := by
      unfold sgB at h
      unfold sB
      have : 9223372036854775808 ≤ p := by have := of_decide_eq_true h; omega
      rw [show p / 9223372036854775808 % 2 = 1 by omega]; rfl
    rw [vI_sgZ, h1] at h0
    have h2 : aV p = 0 := by unfold sgZ at h0; simp at h0; omega
    unfold aV at h2
    rw [hr] at h2
    have := V_eq_iff (r := r) (s := 0)
    rw [V_zero] at this
    exact this.1 h2
  rw [hr]
  by_cases hsg : sgB (p : Int) = true
  · rw [if_pos hsg, hz hsg]
    refine ⟨by decide, by decide, hE.1, hE.2⟩
  · rw [if_neg hsg]
    exact ⟨hm.1, hm.2, hE.1, hE.2⟩
theorem join_top {m e : Int} (h : 0 ≤ m) : joinN m e ≤ 9218868437227405312 := by
  unfold joinN
  split
  · omega
  · rw [if_neg (by omega)]; exact nearR_le _ _

theorem toInt_all : ∀ a : Nat, a < 64 → ∀ b : Nat, b < 64 → floatToIntVal .f64 (fi (((64 * a + b : Nat) : Int) - 2000)) .i64 = some (((64 * a + b : Nat) : Int) - 2000) := by decide +kernel
theorem toInt_fi {k : Int} (h1 : -2000 ≤ k) (h2 : k ≤ 2000) : floatToIntVal .f64 (fi k) .i64 = some k := by
  have := toInt_all ((k + 2000).toNat / 64) (by omega) ((k + 2000).toNat % 64) (by omega)
  rw [show ((64 * ((k + 2000).toNat / 64) + (k + 2000).toNat % 64 : Nat) : Int) - 2000 = k by omega] at this
  exact this
theorem spl_rng {m : Int} (h1 : 0 ≤ m) (h2 : m < 9007199254740992) : -9223372036854775808 ≤ m ∧ m ≤ 9223372036854775807 := by omega

/-- Ranks of numbers, by their worths. -/
theorem rank_worth {a b : Nat} (ha : NumB a) (hb : NumB b) (ha2 : a < 18446744073709551616) (hb2 : b < 18446744073709551616) (h : rankI a < rankI b) : vI a < vI b := by
  have na : nanB (a : Int) = false := by unfold NumB at ha; unfold nanB szI; rw [decide_eq_false_iff_not]; omega
  have nb : nanB (b : Int) = false := by unfold NumB at hb; unfold nanB szI; rw [decide_eq_false_iff_not]; omega
  rw [← sgn_rank ha2 na, ← sgn_rank hb2 nb] at h
  have e1 : vI a = sgZ (a / 9223372036854775808 % 2 == 1) (V (a % 9223372036854775808)) := rfl
  have e2 : vI b = sgZ (b / 9223372036854775808 % 2 == 1) (V (b % 9223372036854775808)) := rfl
  rw [e1, e2]
  generalize a % 9223372036854775808 = r at *
  generalize b % 9223372036854775808 = s at *
  generalize (a / 9223372036854775808 % 2 == 1) = p at *
  generalize (b / 9223372036854775808 % 2 == 1) = q at *
  have h1 := V_lt_iff (r := r) (s := s)
  have h2 := V_lt_iff (r := s) (s := r)
  have h3 := V_lt_iff (r := 0) (s := s)
  have h4 := V_lt_iff (r := 0) (s := r)
  rw [V_zero] at h3 h4
  unfold sgn at h
  unfold sgZ
  cases p <;> cases q <;> simp only [Bool.false_eq_true, if_true, if_false] at * <;> omega
theorem c710 : fi 710 = 4649456441864749056 := by decide +kernel
theorem c746 : fi (-746) = 13873145138068324352 := by decide +kernel
theorem exp_ok (x : Nat) (w : World) (h : U64 x) (hn : nanB x = false) : ∃ y, (Calls Try.prog 60 #[.float .f64 x] w fun e w' => e = .returned (.float .f64 y) ∧ Below w.heap.size w w') ∧ y ≤ 9218868437227405312 := by
  have hx64 : x < 18446744073709551616 := by have := h.2; omega
  have u1 : U64 ((4649456441864749056 : Nat) : Int) := by unfold U64; omega
  have u2 : U64 ((13873145138068324352 : Nat) : Int) := by unfold U64; omega
  have n1 : nanB ((4649456441864749056 : Nat) : Int) = false := by decide +kernel
  have n2 : nanB ((13873145138068324352 : Nat) : Int) = false := by decide +kernel
  have g1 := gt_rank h u1 hn n1
  have e1 := eq_rank h u1 hn n1
  have g2 := lt_rank h u2 hn n2
  have e2 := eq_rank h u2 hn n2
  by_cases c1 : rankI ((4649456441864749056 : Nat) : Int) ≤ rankI (x : Int)
  · refine ⟨_, (exp_hi x _ _ w h hn g1 e1 ?_).mono fun e w' ⟨a, b⟩ => ⟨a, by rw [b]; exact Below.refl _ _⟩, Nat.le_refl _⟩
    simp only [Bool.or_eq_true, decide_eq_true_eq]; omega
  have f1 : (FloatKind.f64.format.order x 4649456441864749056 == some .gt) = false := by rw [g1, decide_eq_false_iff_not]; omega
  have f2 : (FloatKind.f64.format.order x 4649456441864749056 == some .eq) = false := by rw [e1, decide_eq_false_iff_not]; omega
  by_cases c2 : rankI (x : Int) ≤ rankI ((13873145138068324352 : Nat) : Int)
  · refine ⟨_, (exp_lo x _ _ w h hn f1 f2 g2 e2 ?_).mono fun e w' ⟨a, b⟩ => ⟨a, by rw [b]; exact Below.refl _ _⟩, by decide⟩
    simp only [Bool.or_eq_true, decide_eq_true_eq]; omega
  have f3 : (FloatKind.f64.format.order x 13873145138068324352 == some .lt) = false := by rw [g2, decide_eq_false_iff_not]; omega
  have f4 : (FloatKind.f64.format.order x 13873145138068324352 == some .eq) = false := by rw [e2, decide_eq_false_iff_not]; omega
  obtain ⟨K, g, hs⟩ := scale
  have hxn : NumB x := by
    have hl := nan_false hn
    have r1 : rankI ((4649456441864749056 : Nat) : Int) = 4649456441864749056 := by decide +kernel
    have r2 : rankI ((13873145138068324352 : Nat) : Int) = -4649773101213548544 := by decide +kernel
    rw [r1] at c1
    rw [r2] at c2
    rw [← sgn_rank hx64 hn] at c1 c2
    unfold NumB
    unfold sgn at c1 c2
    generalize x % 9223372036854775808 = r at *
    generalize (x / 9223372036854775808 % 2 == 1) = s at c1 c2
    cases s <;> simp only [Bool.false_eq_true, if_true, if_false] at c1 c2 <;> omega
  obtain ⟨w1, w2, w3⟩ := fi_worth hs (m := 710) (by decide) (by decide)
  obtain ⟨v1, v2, v3⟩ := fi_worth hs (m := -746) (by decide) (by decide)
  rw [c710] at w1 w2 w3
  rw [c746] at v1 v2 v3
  have b1 := rank_worth hxn w2 hx64 w3 (by omega)
  have b2 := rank_worth v2 hxn v3 hx64 (by omega)
  rw [w1] at b1
  rw [v1] at b2
  obtain ⟨y, t, hi, lo, d, r, k, q1, q2, tn, q3, _, _, k1, k2, q4, q5, q6, q7, rn, _, r1, r2⟩ := exp_chain hs hxn (by omega) (by omega)
  obtain ⟨p, p0, pn, p64, pv⟩ := horn_exp hs rn r1 r2
  obtain ⟨s1, s2, s3, s4⟩ := spl_of pn p64 pv
  exact ⟨_, exp_mid x y t (fi k) hi lo d r p k w h hn f1 f2 f3 f4 q1 q2 (fun w => floor_at t _ w tn q3) q4 q5 q6 q7 p0 (u64_of_nat p64) (toInt_fi k1 k2) ⟨k1, k2⟩ ⟨s3, s4⟩ (spl_rng s1 s2), join_top s1⟩
end Go.Proofs.Ytbkmbdbjeiffpaa
