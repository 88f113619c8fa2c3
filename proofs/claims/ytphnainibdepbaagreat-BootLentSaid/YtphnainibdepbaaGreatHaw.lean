/- Sums and products against a grid; the rest that Exp's polynomial is asked at is at most a half. NaNs, infinities, numbers: math.IsNaN, math.IsInf; comparisons by ranks. The contracts of logs and Exp, step by step. The steps of Exp between its bounds: each is a number, and the rest is at most a half. Exp between its bounds tells a float from +0 to +Inf. The contracts of about1 and Ln, step by step. The law's awake: what the document fixes. The contract of the document's Factor. The contract of the document's Yield. The contracts of the document's Forward and Convert. Curves as whole numbers and lists: no word of the program. Factors that never rise: no word of the program. The contract of the document's Check of curves. -/
import Derived.Test.YtphnainibdepbaaGreatHav
import Derived.Test.YtphnainibdepbaaGreatFlt
import Derived.Test.YtphnainibdepbaaGreatHau
import Derived.Test.YtphnainibdepbaaGreatHae
namespace Go.Proofs.YtphnainibdepbaaGreat

theorem mg_pl_at {q k : Nat} (hk1 : 4503599627370496 ≤ k) (hk2 : k < 9007199254740992) : mg (q * 4503599627370496 + k) = k ∧ pl (q * 4503599627370496 + k) = q := by
  unfold mg pl
  rw [if_neg (by omega)]
  omega
theorem rep_dyad {m E : Nat} (h : m < 9007199254740992) (hE : 52 ≤ E) (hE2 : E ≤ 1900) : Rep ((m * 2 ^ E : Nat) : Int) := by
  by_cases h0 : m = 0
  · subst h0; rw [Nat.zero_mul]; exact rep_zero
  have a := Nat.log2_self_le h0
  have b : m < 2 ^ (m.log2 + 1) := Nat.lt_log2_self
  have hl : m.log2 < 53 := (Nat.log2_lt h0).2 (by omega)
  generalize m.log2 = l at a b hl
  obtain ⟨k, hk⟩ : ∃ k, m * 2 ^ (52 - l) = k := ⟨_, rfl⟩
  have hk1 : 4503599627370496 ≤ k := by
    have := Nat.mul_le_mul_right (2 ^ (52 - l)) a
    rw [← Nat.pow_add, show l + (52 - l) = 52 by omega, hk] at this; exact this
  have hk2 : k < 9007199254740992 := by
    have := Nat.mul_lt_mul_of_pos_right b (Nat.two_pow_pos (52 - l))
    rw [← Nat.pow_add, show l + 1 + (52 - l) = 53 by omega, hk] at this; exact this
  obtain ⟨h1, h2⟩ := mg_pl_at (q := E + l - 52) hk1 hk2
  refine ⟨(E + l - 52) * 4503599627370496 + k, by omega, ?_⟩
  unfold V
  rw [h1, h2, Int.natAbs_natCast, ← hk, Nat.mul_assoc, ← Nat.pow_add, show 52 - l + (E + l - 52) = E by omega]
theorem rep_grid {j : Int} {E : Nat} (h1 : -9007199254740992 < j) (h2 : j < 9007199254740992) (hE : 52 ≤ E) (hE2 : E ≤ 1900) : Rep (j * ((2 ^ E : Nat) : Int)) := by
  obtain ⟨r, hr, e⟩ := rep_dyad (m := j.natAbs) (E := E) (by omega) hE hE2
  refine ⟨r, hr, ?_⟩
  rw [Int.natAbs_natCast] at e
  rw [natAbs_mul_pow]; exact e
theorem near_grid {k E : Nat} {T : Int} (hE : 52 ≤ E) (hE2 : E ≤ 1900) {G P : Int} (hG : G = ((2 ^ E : Nat) : Int)) (hP : P = ((2 ^ k : Nat) : Int)) (h1 : -(2097152 * (G * P)) ≤ T) (h2 : T ≤ 2097152 * (G * P)) :
    FinR k T ∧ -(G * P) ≤ rI k T * P - T ∧ rI k T * P - T ≤ G * P := by
  have hGp : 0 < G := by rw [hG]; have := Nat.two_pow_pos E; omega
  have hPp : 0 < P := by rw [hP]; have := Nat.two_pow_pos k; omega
  have hGP : 0 < G * P := Int.mul_pos hGp hPp
  obtain ⟨j, hj⟩ : ∃ j, T / (G * P) = j := ⟨_, rfl⟩
  have e1 : j * (G * P) ≤ T := by rw [← hj]; exact Int.ediv_mul_le T (by omega)
  have e2 : T < (j + 1) * (G * P) := by rw [← hj]; exact Int.lt_ediv_add_one_mul_self T hGP
  have j1 : -2097152 ≤ j := by
    rw [← hj]
    refine (Int.le_ediv_iff_mul_le hGP).2 ?_
    rw [Int.neg_mul]; exact h1
  have j2 : j ≤ 2097152 := by
    by_cases h : 2097152 < j
    · have := Int.mul_lt_mul_of_pos_right h hGP
      omega
    · omega
  have rA : Rep (j * G) := by rw [hG]; exact rep_grid (by omega) (by omega) hE hE2
  have rB : Rep ((j + 1) * G) := by rw [hG]; exact rep_grid (by omega) (by omega) hE hE2
  have f1 : j * G * ((2 ^ k : Nat) : Int) ≤ T := by rw [← hP, Int.mul_assoc]; exact e1
  have f2 : T ≤ (j + 1) * G * ((2 ^ k : Nat) : Int) := by rw [← hP, Int.mul_assoc]; omega
  have a1 := round_ge rA f1
  have a2 := round_le rB f2
  have b1 := Int.mul_le_mul_of_nonneg_right a1 (show 0 ≤ P by omega)
  have b2 := Int.mul_le_mul_of_nonneg_right a2 (show 0 ≤ P by omega)
  rw [Int.mul_assoc] at b1 b2
  have e3 : (j + 1) * (G * P) = j * (G * P) + G * P := by rw [Int.add_mul, Int.one_mul]
  rw [e3] at e2 b2
  exact ⟨fin_of rA rB f1 f2, by omega, by omega⟩

structure Scale (K : Nat) (g : Int) : Prop where
  k : K = 1074
  pos : 0 < g
  unit : ((2 ^ K : Nat) : Int) = 1267650600228229401496703205376 * g
  grid : ((2 ^ 1064 : Nat) : Int) = 1237940039285380274899124224 * g
  at_ : ∀ q p : Nat, q + 974 = p → ((2 ^ p : Nat) : Int) = ((2 ^ q : Nat) : Int) * g
theorem pow_split {a b c : Nat} (h : a + b = c) : ((2 ^ c : Nat) : Int) = ((2 ^ a : Nat) : Int) * ((2 ^ b : Nat) : Int) := by
  subst h; rw [Nat.pow_add, Int.natCast_mul]
theorem scale : ∃ K g, Scale K g := by
  obtain ⟨e, he⟩ : ∃ e, e = 974 := ⟨_, rfl⟩
  obtain ⟨K, hK⟩ : ∃ K, K = 1074 := ⟨_, rfl⟩
  obtain ⟨L, hL⟩ : ∃ L, L = 1064 := ⟨_, rfl⟩
  refine ⟨K, ((2 ^ e : Nat) : Int), hK, by have := Nat.two_pow_pos e; omega, ?_, ?_, fun q p h => pow_split (by omega)⟩
  · rw [pow_split (a := 100) (b := e) (c := K) (by omega)]; rfl
  · rw [← hL, pow_split (a := 90) (b := e) (c := L) (by omega)]; rfl

theorem add_near {K : Nat} {g : Int} (hs : Scale K g) {x y : Nat} (hx : NumB x) (hy : NumB y) (h1 : -(2596148429267413814265248164610048 * g) ≤ vI x + vI y) (h2 : vI x + vI y ≤ 2596148429267413814265248164610048 * g) :
    ∃ z, floatBits .add .f64 x y = some z ∧ NumB z ∧ z < 18446744073709551616 ∧ -(1237940039285380274899124224 * g) ≤ vI z - (vI x + vI y) ∧ vI z - (vI x + vI y) ≤ 1237940039285380274899124224 * g := by
  obtain ⟨E, hE⟩ : ∃ E, E = 1064 := ⟨_, rfl⟩
  have hg := hs.grid
  rw [← hE] at hg
  obtain ⟨f, a, b⟩ := near_grid (k := 0) (E := E) (T := vI x + vI y) (by omega) (by omega) (P := 1) rfl rfl (by rw [hg]; omega) (by rw [hg]; omega)
  obtain ⟨z, z1, z2, z3, z4⟩ := add_worth hx hy f
  rw [hg] at a b
  rw [← z4] at a b
  exact ⟨z, z1, z2, z3, by omega, by omega⟩
theorem sub_near {K : Nat} {g : Int} (hs : Scale K g) {x y : Nat} (hx : NumB x) (hy : NumB y) (h1 : -(2596148429267413814265248164610048 * g) ≤ vI x - vI y) (h2 : vI x - vI y ≤ 2596148429267413814265248164610048 * g) :
    ∃ z, floatBits .sub .f64 x y = some z ∧ NumB z ∧ z < 18446744073709551616 ∧ -(1237940039285380274899124224 * g) ≤ vI z - (vI x - vI y) ∧ vI z - (vI x - vI y) ≤ 1237940039285380274899124224 * g := by
  obtain ⟨E, hE⟩ : ∃ E, E = 1064 := ⟨_, rfl⟩
  have hg := hs.grid
  rw [← hE] at hg
  obtain ⟨f, a, b⟩ := near_grid (k := 0) (E := E) (T := vI x - vI y) (by omega) (by omega) (P := 1) rfl rfl (by rw [hg]; omega) (by rw [hg]; omega)
  obtain ⟨z, z1, z2, z3, z4⟩ := sub_worth hx hy f
  rw [hg] at a b
  rw [← z4] at a b
  exact ⟨z, z1, z2, z3, by omega, by omega⟩
theorem mul_near {K : Nat} {g : Int} (hs : Scale K g) {x y : Nat} {c : Int} (hx : NumB x) (hy : NumB y) (hc : vI y = c * g) (h1 : -(3291009114642412084309938365114701009965471731267159726697218048 * g) ≤ c * vI x) (h2 : c * vI x ≤ 3291009114642412084309938365114701009965471731267159726697218048 * g) :
    ∃ z, floatBits .mul .f64 x y = some z ∧ NumB z ∧ z < 18446744073709551616 ∧ -(1569275433846670190958947355801916604025588861116008628224 * g) ≤ 1267650600228229401496703205376 * vI z - c * vI x ∧ 1267650600228229401496703205376 * vI z - c * vI x ≤ 1569275433846670190958947355801916604025588861116008628224 * g := by
  obtain ⟨E, hE⟩ : ∃ E, E = 1064 := ⟨_, rfl⟩
  have hg := hs.grid
  rw [← hE] at hg
  have hgp := hs.pos
  have eT : vI x * vI y = (c * vI x) * g := by rw [hc, ← Int.mul_assoc, Int.mul_comm (vI x) c]
  have eGP : ((2 ^ E : Nat) : Int) * ((2 ^ K : Nat) : Int) = (1569275433846670190958947355801916604025588861116008628224 * g) * g := by
    rw [hg, hs.unit, ← Int.mul_assoc, show (1237940039285380274899124224 * g * 1267650600228229401496703205376 : Int) = 1569275433846670190958947355801916604025588861116008628224 * g by omega]
  have b1 := Int.mul_le_mul_of_nonneg_right h1 (show 0 ≤ g by omega)
  have b2 := Int.mul_le_mul_of_nonneg_right h2 (show 0 ≤ g by omega)
  have e3 : (2097152 : Int) * (1569275433846670190958947355801916604025588861116008628224 * g * g) = 3291009114642412084309938365114701009965471731267159726697218048 * g * g := by rw [← Int.mul_assoc, ← Int.mul_assoc]; rfl
  rw [Int.neg_mul] at b1
  obtain ⟨f, a, b⟩ := near_grid (k := K) (E := E) (T := vI x * vI y) (by omega) (by omega) rfl rfl (by rw [eGP, e3, eT]; exact b1) (by rw [eGP, e3, eT]; exact b2)
  obtain ⟨z, z1, z2, z3, z4⟩ := mul_worth hs.k hx hy f
  rw [eGP, eT, ← eT, ← z4, eT, hs.unit, ← Int.mul_assoc, Int.mul_comm (vI z), ← Int.sub_mul] at a b
  refine ⟨z, z1, z2, z3, ?_, ?_⟩
  · rw [← Int.neg_mul] at a
    exact Int.le_of_mul_le_mul_right a hgp
  · exact Int.le_of_mul_le_mul_right b hgp
end Go.Proofs.YtphnainibdepbaaGreat
namespace Go.Proofs.YtphnainibdepbaaGreat
open Go.RowKit

set_option maxHeartbeats 400000 in
theorem isNaN_math (b : Nat) (w : World) (h : U64 b) :
    Calls Tryz.prog 33 #[.float .f64 b] w fun e w' => e = .returned (.bool (nanB b)) ∧ w' = w := by
  have h1 : (FloatKind.f64.format.order b b != some .eq) = nanB b := by rw [bne, eq_self h, Bool.not_not]
  clear h
  go_enter Tryz.func33, Tryz.ntmps33
  go_wp2
  go_ret
  exact ⟨rfl, rfl⟩

theorem compare_gt_iff (x y : Int) : (compare x y == .gt) = decide (y < x) := by
  show (compareOfLessAndEq x y == .gt) = _
  unfold compareOfLessAndEq
  by_cases a : x < y
  · have : ¬ y < x := by omega
    simp [a, this]
  · by_cases b : x = y
    · simp [b]
    · have : y < x := by omega
      simp [a, b, this]
theorem gt_rank {a b : Nat} (ha : U64 a) (hb : U64 b) (hna : nanB a = false) (hnb : nanB b = false) : (FloatKind.f64.format.order a b == some .gt) = decide (rankI b < rankI a) := by
  rw [order_rank (by have := ha.2; omega) (by have := hb.2; omega) hna hnb, ← compare_gt_iff]; rfl

theorem rkp_nan {r : Nat} (h : r ≤ 9218868437227405312) : nanB (r : Int) = false := by unfold nanB szI; rw [decide_eq_false_iff_not]; omega
theorem rkp_rank {r : Nat} (h : r ≤ 9218868437227405312) : rankI (r : Int) = r := by
  unfold rankI
  have hs : sgB (r : Int) = false := by unfold sgB; rw [decide_eq_false_iff_not]; omega
  rw [rkp_nan h, hs]
  show szI (r : Int) = r
  unfold szI; omega
theorem szN (x : Nat) : szI (x : Int) = ((x % 9223372036854775808 : Nat) : Int) := by unfold szI; omega
theorem inf_gt {x : Nat} (h : nanB (x : Int) = false) : (FloatKind.f64.format.order (x % 9223372036854775808) 9218868437227405311 == some .gt) = !finB (x : Int) := by
  have h1 := nan_false h
  have e : finB (x : Int) = decide (x % 9223372036854775808 < 9218868437227405312) := by
    unfold finB; rw [szN]; exact decide_eq_decide.2 (by omega)
  rw [e]
  generalize x % 9223372036854775808 = a at *
  rw [gt_rank (u64_of_nat (by omega)) (u64_of_nat (by omega)) (rkp_nan h1) (rkp_nan (r := 9218868437227405311) (by omega)), rkp_rank h1, rkp_rank (r := 9218868437227405311) (by omega)]
  by_cases c : a < 9218868437227405312
  · rw [decide_eq_true c]; exact decide_eq_false (by omega)
  · rw [decide_eq_false c]; exact decide_eq_true (by omega)

theorem fin_nan {x : Nat} (h : nanB (x : Int) = true) : finB (x : Int) = false := by
  unfold nanB at h; unfold finB
  have := of_decide_eq_true h
  exact decide_eq_false (by omega)

set_option maxHeartbeats 400000 in
theorem abs_math (x : Nat) (w : World) (h : U64 x) :
    Calls Tryz.prog 65 #[.float .f64 x] w fun e w' => e = .returned (.float .f64 (x % 9223372036854775808)) ∧ w' = w := by
  have h1 := call_bits
  have h2 := call_frombits
  have h3 := andNot_sz h
  have h4 : (szI (x : Int)).toNat = x % 9223372036854775808 := by rw [szN]; rfl
  clear h
  go_enter Tryz.func65, Tryz.ntmps65
  go_wp2
  go_ret
  exact ⟨rfl, rfl⟩

set_option maxHeartbeats 400000 in
theorem isInf_both (x : Nat) (g : Bool) (w : World) (h : U64 x) (hg : (FloatKind.f64.format.order (x % 9223372036854775808) 9218868437227405311 == some .gt) = g) :
    Calls Tryz.prog 45 #[.float .f64 x, .int .i64 0] w fun e w' => e = .returned (.bool g) ∧ w' = w := by
  have H := hideS fun w => abs_math x w h
  clear h
  generalize x % 9223372036854775808 = a at *
  go_enter Tryz.func45, Tryz.ntmps45
  go_wp2_with fail
  refine (H.out _).mono ?_
  rintro e w' ⟨rfl, rfl⟩
  go_wp2_with fail
  go_ret
  exact ⟨rfl, rfl⟩

end Go.Proofs.YtphnainibdepbaaGreat
namespace Go.Proofs.YtphnainibdepbaaGreat
open Go.RowKit

set_option maxHeartbeats 400000 in
theorem logs_at (k h l : Nat) (w : World) (h1 : floatBits .mul .f64 k 4604418534311723008 = some h) (h2 : floatBits .mul .f64 k 4461442080421002358 = some l) :
    Calls Tryz.prog 150 #[.float .f64 k] w fun e w' => e = .returned (.tuple #[.float .f64 h, .float .f64 l]) ∧ w' = w := by
  have r1 := fun w => run_float_arith (P := Tryz.prog) w .mul 42 .f64 _ _ _ h1
  have r2 := fun w => run_float_arith (P := Tryz.prog) w .mul 42 .f64 _ _ _ h2
  clear h1 h2
  go_enter Tryz.func150, Tryz.ntmps150
  go_wp2
  go_ret2
  exact ⟨rfl, rfl⟩

set_option maxHeartbeats 400000 in
theorem inf_pos (w : World) :
    Calls Tryz.prog 78 #[.int .i64 1] w fun e w' => e = .returned (.float .f64 9218868437227405312) ∧ w' = w := by
  have h2 := call_frombits
  go_enter Tryz.func78, Tryz.ntmps78
  go_wp2
  go_ret
  exact ⟨rfl, rfl⟩

set_option maxHeartbeats 400000 in
theorem exp_nan (x : Nat) (w : World) (h : U64 x) (hn : nanB x = true) :
    Calls Tryz.prog 137 #[.float .f64 x] w fun e w' => e = .returned (.float .f64 x) ∧ w' = w := by
  have H := hideS (isNaN_math x w h)
  rw [hn] at H
  clear h hn
  go_enter Tryz.func137, Tryz.ntmps137
  go_wp2_with fail
  refine H.out.mono ?_
  rintro e w' ⟨rfl, rfl⟩
  go_wp2_with fail
  go_ret
  exact ⟨rfl, rfl⟩

set_option maxHeartbeats 400000 in
theorem exp_hi (x : Nat) (g e : Bool) (w : World) (h : U64 x) (hn : nanB x = false) (hg : (FloatKind.f64.format.order x 4649456441864749056 == some .gt) = g) (he : (FloatKind.f64.format.order x 4649456441864749056 == some .eq) = e) (hge : (g || e) = true) :
    Calls Tryz.prog 137 #[.float .f64 x] w fun e w' => e = .returned (.float .f64 9218868437227405312) ∧ w' = w := by
  have H := hideS (isNaN_math x w h)
  rw [hn] at H
  clear h hn
  cases g <;> cases e <;> first | (cases hge; done) | skip
  all_goals
    clear hge
    go_enter Tryz.func137, Tryz.ntmps137
    go_wp2_with fail
    refine H.out.mono ?_
    rintro e w' ⟨rfl, rfl⟩
    go_wp2_with fail
    refine (inf_pos _).mono ?_
    rintro e w' ⟨rfl, rfl⟩
    go_wp2_with fail
    go_ret
    exact ⟨rfl, rfl⟩

set_option maxHeartbeats 400000 in
theorem exp_lo (x : Nat) (g e : Bool) (w : World) (h : U64 x) (hn : nanB x = false) (hg1 : (FloatKind.f64.format.order x 4649456441864749056 == some .gt) = false) (he1 : (FloatKind.f64.format.order x 4649456441864749056 == some .eq) = false)
    (hg : (FloatKind.f64.format.order x 13873145138068324352 == some .lt) = g) (he : (FloatKind.f64.format.order x 13873145138068324352 == some .eq) = e) (hge : (g || e) = true) :
    Calls Tryz.prog 137 #[.float .f64 x] w fun e w' => e = .returned (.float .f64 0) ∧ w' = w := by
  have H := hideS (isNaN_math x w h)
  rw [hn] at H
  clear h hn
  cases g <;> cases e <;> first | (cases hge; done) | skip
  all_goals
    clear hge
    go_enter Tryz.func137, Tryz.ntmps137
    go_wp2_with fail
    refine H.out.mono ?_
    rintro e w' ⟨rfl, rfl⟩
    go_wp2_with fail
    go_ret
    exact ⟨rfl, rfl⟩

set_option maxRecDepth 20000 in
set_option maxHeartbeats 1600000 in
theorem exp_mid (x y t f hi lo d r p : Nat) (k : Int) (w : World) (h : U64 x) (hn : nanB x = false) (hg1 : (FloatKind.f64.format.order x 4649456441864749056 == some .gt) = false) (he1 : (FloatKind.f64.format.order x 4649456441864749056 == some .eq) = false)
    (hg2 : (FloatKind.f64.format.order x 13873145138068324352 == some .lt) = false) (he2 : (FloatKind.f64.format.order x 13873145138068324352 == some .eq) = false)
    (q1 : floatBits .mul .f64 x 4609176140021203710 = some y) (q2 : floatBits .add .f64 y 4602678819172646912 = some t) (hf : Hid (∀ w, Calls Tryz.prog 149 #[.float .f64 t] w fun e w' => e = .returned (.float .f64 f) ∧ w' = w))
    (q3 : floatBits .mul .f64 f 4604418534311723008 = some hi) (q4 : floatBits .mul .f64 f 4461442080421002358 = some lo) (q5 : floatBits .sub .f64 x hi = some d) (q6 : floatBits .sub .f64 d lo = some r)
    (q7 : Hid (hornO expL r = some p)) (up : Hid (U64 p)) (q8 : floatToIntVal .f64 f .i64 = some k) (hk : -2000 ≤ k ∧ k ≤ 2000) (hsp : -2000 ≤ splE p ∧ splE p ≤ 2000) (hsm : -9223372036854775808 ≤ splM p ∧ splM p ≤ 9223372036854775807) :
    Calls Tryz.prog 137 #[.float .f64 x] w fun e w' => e = .returned (.float .f64 (joinN (splM p) (splE p + k))) ∧ Below w.heap.size w w' := by
  have H := hideS (isNaN_math x w h)
  rw [hn] at H
  have r1 := fun w => run_float_arith (P := Tryz.prog) w .mul 42 .f64 _ _ _ q1
  have r2 := fun w => run_float_arith (P := Tryz.prog) w .add 42 .f64 _ _ _ q2
  have r5 := fun w => run_float_arith (P := Tryz.prog) w .sub 42 .f64 _ _ _ q5
  have r6 := fun w => run_float_arith (P := Tryz.prog) w .sub 42 .f64 _ _ _ q6
  have r8 := fun w => run_convert_float_int (P := Tryz.prog) w 42 3 .f64 .i64 f k (by kernel_rfl) Tryz.underlying3 q8
  have HL : Hid (∀ w, Calls Tryz.prog 150 #[.float .f64 f] w fun e w' => e = .returned (.tuple #[.float .f64 hi, .float .f64 lo]) ∧ w' = w) := fun w => logs_at f hi lo w q3 q4
  have HSp : Hid (∀ w, Calls Tryz.prog 50 #[.float .f64 p] w fun e w' => e = .returned (.tuple #[.int .i64 (splM p), .int .i64 (splE p), .bool (splOk p)]) ∧ w' = w) := fun w => split_as p p w rfl up.out
  have HJ : Hid (∀ w, Calls Tryz.prog 83 #[.int .i64 (splM p), .int .i64 (splE p + k)] w fun e w' => e = .returned (.float .f64 (joinN (splM p) (splE p + k))) ∧ ∃ n, w' = w.drewN n) := fun w => join_any _ _ w hsm.1 hsm.2
  clear h hn q1 q2 q3 q4 q5 q6 q8 hsm
  generalize joinN (splM p) (splE p + k) = res at HJ
  generalize splM p = sm at HJ HSp
  generalize splE p = se at HJ HSp hsp
  generalize splOk p = so at HSp
  go_enter Tryz.func137, Tryz.ntmps137
  go_wp2_with fail
  refine (turned H.out).mono ?_
  rintro e w' ⟨rfl, rfl⟩
  clear H
  go_wp2_with fail
  refine (turned (hf.out _)).mono ?_
  rintro e w' ⟨rfl, rfl⟩
  go_wp2_with fail
  refine (turned (HL.out _)).mono ?_
  rintro e w' ⟨rfl, rfl⟩
  go_wp2_with fail
  have HT := hideS (expTerms_any w)
  refine HT.out.mono ?_
  rintro e w1 ⟨rfl, hs, hb⟩
  have HB := hideS hb
  have HH : Hid (Calls Tryz.prog 151 #[.slice (some ⟨w.heap.size, 0, none⟩) 14 14, .float .f64 r] w1 fun e w' => ∃ r', e = .returned (.float .f64 r') ∧ Ag (hornO expL r) r' ∧ ∃ q, w' = w1.drewN q) := horner_any _ _ _ 14 r 14 expL w1 hs rfl (by decide)
  rw [q7.out] at HH
  clear hs hb HT
  go_wp2_with fail
  refine HH.out.mono ?_
  rintro e w2 ⟨r', rfl, hag, q, rfl⟩
  obtain rfl := ag_some hag
  go_wp2_with fail
  refine (turned (HSp.out _)).mono ?_
  rintro e w' ⟨rfl, rfl⟩
  go_wp2_with fail
  refine (HJ.out _).mono ?_
  rintro e w' ⟨rfl, q', rfl⟩
  go_wp2_with fail
  go_ret
  exact ⟨rfl, ⟨HB.out.os, HB.out.tape, HB.out.output, HB.out.size, HB.out.block⟩⟩
end Go.Proofs.YtphnainibdepbaaGreat
namespace Go.Proofs.YtphnainibdepbaaGreat

theorem num_dec (b : Nat) (h : decide (b % 9223372036854775808 < 9218868437227405312) = true) : NumB b := by unfold NumB; exact of_decide_eq_true h
theorem const_worth {K : Nat} {g : Int} (hs : Scale K g) {b m p : Nat} (q : Nat) (h0 : sB b = false) (hm : mg (b % 9223372036854775808) = m) (hp : pl (b % 9223372036854775808) = p) (hq : q + 974 = p) : vI b = ((m * 2 ^ q : Nat) : Int) * g := by
  rw [vI_sgZ, h0]
  unfold sgZ aV V
  rw [if_neg (by decide), hm, hp, Int.natCast_mul, hs.at_ q p hq, Int.natCast_mul, Int.mul_assoc]
theorem perLog_worth {K : Nat} {g : Int} (hs : Scale K g) : vI 4609176140021203710 = 1828833234529184396638827839488 * g := by
  rw [const_worth hs (b := 4609176140021203710) 48 (by decide +kernel) (m := 6497320848556798) (by decide +kernel) (p := 1022) (by decide +kernel) rfl]; rfl
theorem half_worth {K : Nat} {g : Int} (hs : Scale K g) : vI 4602678819172646912 = 633825300114114700748351602688 * g := by
  rw [const_worth hs (b := 4602678819172646912) 47 (by decide +kernel) (m := 4503599627370496) (by decide +kernel) (p := 1021) (by decide +kernel) rfl]; rfl
theorem high_worth {K : Nat} {g : Int} (hs : Scale K g) : vI 4604418534311723008 = 878668439241424593572830642176 * g := by
  rw [const_worth hs (b := 4604418534311723008) 47 (by decide +kernel) (m := 6243314766446592) (by decide +kernel) (p := 1021) (by decide +kernel) rfl]; rfl
theorem low_worth {K : Nat} {g : Int} (hs : Scale K g) : vI 4461442080421002358 = 241894980045432881152 * g := by
  rw [const_worth hs (b := 4461442080421002358) 15 (by decide +kernel) (m := 7382048951581814) (by decide +kernel) (p := 989) (by decide +kernel) rfl]; rfl
theorem fi_worth {K : Nat} {g : Int} (hs : Scale K g) {m : Int} (h1 : -9007199254740992 ≤ m) (h2 : m ≤ 9007199254740992) : vI (fi m) = 1267650600228229401496703205376 * (m * g) ∧ NumB (fi m) ∧ fi m < 18446744073709551616 := by
  obtain ⟨a, b, _, d⟩ := vI_fi hs.k h1 h2
  refine ⟨?_, b, d⟩
  rw [a, hs.unit, ← Int.mul_assoc, Int.mul_comm m, Int.mul_assoc]
theorem add_pos_zero {x y t : Nat} (hx : NumB x) (hy : NumB y) (h0 : sB y = false) (ht : floatBits .add .f64 x y = some t) : t % 9223372036854775808 ≠ 0 ∨ sB t = false := by
  rw [add_num hx hy] at ht
  have e : addR (x / 9223372036854775808 % 2 == 1) (y / 9223372036854775808 % 2 == 1) (vI x + vI y) = t := Option.some.inj ht
  have hy0 : (y / 9223372036854775808 % 2 == 1) = false := h0
  rw [hy0] at e
  unfold addR at e
  generalize vI x + vI y = T at e
  by_cases hT : T = 0
  · rw [if_pos hT, Bool.and_false, if_neg (by decide)] at e
    right; rw [← e]; rfl
  · left
    rw [if_neg hT, joinN_wrd hT] at e
    have h1 := near_ge (T := T.natAbs) (r := 1) (k := 0) (by decide) (by rw [show V 1 = 1 by decide]; omega)
    have h2 := nearR_le T.natAbs (-1074)
    have h3 : 1 ≤ nearR T.natAbs (-1074) := h1
    rw [← e]
    unfold wrd
    generalize nearR T.natAbs (-1074) = r at *
    split <;> omega

theorem rest_small {X Y t Q hi lo d r g : Int} (x1 : -(945667347770259133516540591210496 * g) < X) (x2 : X < 900031926162042875062659275816960 * g)
    (y1 : -(1569275433846670190958947355801916604025588861116008628224 * g) ≤ 1267650600228229401496703205376 * Y - 1828833234529184396638827839488 * X) (y2 : 1267650600228229401496703205376 * Y - 1828833234529184396638827839488 * X ≤ 1569275433846670190958947355801916604025588861116008628224 * g)
    (t1 : -(1237940039285380274899124224 * g) ≤ t - (Y + 633825300114114700748351602688 * g)) (t2 : t - (Y + 633825300114114700748351602688 * g) ≤ 1237940039285380274899124224 * g)
    (k1 : 1267650600228229401496703205376 * Q ≤ t) (k2 : t < 1267650600228229401496703205376 * Q + 1267650600228229401496703205376 * g)
    (a1 : -(1569275433846670190958947355801916604025588861116008628224 * g) ≤ 1267650600228229401496703205376 * hi - 878668439241424593572830642176 * (1267650600228229401496703205376 * Q)) (a2 : 1267650600228229401496703205376 * hi - 878668439241424593572830642176 * (1267650600228229401496703205376 * Q) ≤ 1569275433846670190958947355801916604025588861116008628224 * g)
    (b1 : -(1569275433846670190958947355801916604025588861116008628224 * g) ≤ 1267650600228229401496703205376 * lo - 241894980045432881152 * (1267650600228229401496703205376 * Q)) (b2 : 1267650600228229401496703205376 * lo - 241894980045432881152 * (1267650600228229401496703205376 * Q) ≤ 1569275433846670190958947355801916604025588861116008628224 * g)
    (d1 : -(1237940039285380274899124224 * g) ≤ d - (X - hi)) (d2 : d - (X - hi) ≤ 1237940039285380274899124224 * g)
    (r1 : -(1237940039285380274899124224 * g) ≤ r - (d - lo)) (r2 : r - (d - lo) ≤ 1237940039285380274899124224 * g) :
    -(633825300114114700748351602688 * g) ≤ r ∧ r ≤ 633825300114114700748351602688 * g := by
  constructor <;> omega

theorem exp_chain {K : Nat} {g : Int} (hs : Scale K g) {x : Nat} (hx : NumB x) (x1 : -(945667347770259133516540591210496 * g) < vI x) (x2 : vI x < 900031926162042875062659275816960 * g) :
    ∃ (y t hi lo d r : Nat) (k : Int), floatBits .mul .f64 x 4609176140021203710 = some y ∧ floatBits .add .f64 y 4602678819172646912 = some t ∧ NumB t ∧ Ieee.double.write ((Ieee.double.read t).integral .down) = fi k ∧ k * ((2 ^ K : Nat) : Int) ≤ vI t ∧ vI t < (k + 1) * ((2 ^ K : Nat) : Int) ∧ -2000 ≤ k ∧ k ≤ 2000 ∧
      floatBits .mul .f64 (fi k) 4604418534311723008 = some hi ∧ floatBits .mul .f64 (fi k) 4461442080421002358 = some lo ∧ floatBits .sub .f64 x hi = some d ∧ floatBits .sub .f64 d lo = some r ∧ NumB r ∧ r < 18446744073709551616 ∧ -(633825300114114700748351602688 * g) ≤ vI r ∧ vI r ≤ 633825300114114700748351602688 * g := by
  have hg := hs.pos
  obtain ⟨y, y0, yn, _, y1, y2⟩ := mul_near hs hx (num_dec 4609176140021203710 (by decide)) (perLog_worth hs) (by omega) (by omega)
  have hw := half_worth hs
  obtain ⟨t, t0, tn, _, t1, t2⟩ := add_near hs yn (num_dec 4602678819172646912 (by decide)) (by rw [hw]; omega) (by rw [hw]; omega)
  rw [hw] at t1 t2
  obtain ⟨k, k0, k1, k2⟩ := floor_word hs.k tn (add_pos_zero yn (num_dec 4602678819172646912 (by decide)) (by decide +kernel) t0)
  have kk1 := k1
  have kk2 := k2
  rw [hs.unit, ← Int.mul_assoc, Int.mul_comm k, Int.mul_assoc] at k1
  rw [hs.unit, Int.add_mul, Int.one_mul, ← Int.mul_assoc, Int.mul_comm k, Int.mul_assoc] at k2
  have kb1 : -2000 ≤ k := by
    by_cases h : -2000 ≤ k
    · exact h
    · have := Int.mul_le_mul_of_nonneg_right (show k ≤ -2001 by omega) (show 0 ≤ g by omega)
      omega
  have kb2 : k ≤ 2000 := by
    by_cases h : k ≤ 2000
    · exact h
    · have := Int.mul_le_mul_of_nonneg_right (show 2001 ≤ k by omega) (show 0 ≤ g by omega)
      omega
  have kb3 := Int.mul_le_mul_of_nonneg_right kb1 (show 0 ≤ g by omega)
  have kb4 := Int.mul_le_mul_of_nonneg_right kb2 (show 0 ≤ g by omega)
  obtain ⟨f1, fn, _⟩ := fi_worth hs (m := k) (by omega) (by omega)
  obtain ⟨Q, hQ⟩ : ∃ Q, k * g = Q := ⟨_, rfl⟩
  rw [hQ] at f1 k1 k2 kb3 kb4
  obtain ⟨hi, h0, hn, _, a1, a2⟩ := mul_near hs fn (num_dec 4604418534311723008 (by decide)) (high_worth hs) (by rw [f1]; omega) (by rw [f1]; omega)
  obtain ⟨lo, l0, ln, _, b1, b2⟩ := mul_near hs fn (num_dec 4461442080421002358 (by decide)) (low_worth hs) (by rw [f1]; omega) (by rw [f1]; omega)
  rw [f1] at a1 a2 b1 b2
  obtain ⟨d, d0, dn, _, d1, d2⟩ := sub_near hs hx hn (by omega) (by omega)
  obtain ⟨r, r0, rn, r64, r1, r2⟩ := sub_near hs dn ln (by omega) (by omega)
  obtain ⟨z1, z2⟩ := rest_small x1 x2 y1 y2 t1 t2 k1 k2 a1 a2 b1 b2 d1 d2 r1 r2
  exact ⟨y, t, hi, lo, d, r, k, y0, t0, tn, k0, kk1, kk2, kb1, kb2, h0, l0, d0, r0, rn, r64, z1, z2⟩
end Go.Proofs.YtphnainibdepbaaGreat
namespace Go.Proofs.YtphnainibdepbaaGreat
open Go.RowKit

theorem abs_mul_le {a b A B : Int} (h1 : -A ≤ a) (h2 : a ≤ A) (h3 : -B ≤ b) (h4 : b ≤ B) : -(A * B) ≤ a * b ∧ a * b ≤ A * B := by
  have h5 : (a * b).natAbs ≤ (A * B).natAbs := by
    rw [Int.natAbs_mul, Int.natAbs_mul]
    exact Nat.mul_le_mul (by omega) (by omega)
  have h6 : 0 ≤ A * B := Int.mul_nonneg (by omega) (by omega)
  omega
theorem rep_units {K : Nat} {g : Int} (hs : Scale K g) (j : Int) (h1 : -10 < j) (h2 : j < 10) : Rep (1267650600228229401496703205376 * (j * g)) := by
  have := rep_grid (j := j) (E := K) (by omega) (by omega) (by have := hs.k; omega) (by have := hs.k; omega)
  rw [hs.unit, ← Int.mul_assoc, Int.mul_comm j, Int.mul_assoc] at this
  exact this
theorem mul_held {K : Nat} {g : Int} (hs : Scale K g) {p r : Nat} (hp : NumB p) (hr : NumB r) (p1 : -(2535301200456458802993406410752 * g) ≤ vI p) (p2 : vI p ≤ 2535301200456458802993406410752 * g) (r1 : -(633825300114114700748351602688 * g) ≤ vI r) (r2 : vI r ≤ 633825300114114700748351602688 * g) :
    ∃ z, floatBits .mul .f64 p r = some z ∧ NumB z ∧ z < 18446744073709551616 ∧ -(1267650600228229401496703205376 * g) ≤ vI z ∧ vI z ≤ 1267650600228229401496703205376 * g := by
  obtain ⟨a, b⟩ := abs_mul_le p1 p2 r1 r2
  have rA := rep_units hs (-1) (by decide) (by decide)
  have rB := rep_units hs 1 (by decide) (by decide)
  have e : (2535301200456458802993406410752 * g) * (633825300114114700748351602688 * g) = 1267650600228229401496703205376 * g * (1267650600228229401496703205376 * g) := by
    rw [show (2535301200456458802993406410752 : Int) * g = (1267650600228229401496703205376 * g) * 2 by omega, Int.mul_assoc (1267650600228229401496703205376 * g), show (2 : Int) * (633825300114114700748351602688 * g) = 1267650600228229401496703205376 * g by omega]
  rw [e] at a b
  have f1 : 1267650600228229401496703205376 * (-1 * g) * ((2 ^ K : Nat) : Int) ≤ vI p * vI r := by
    rw [hs.unit, show (1267650600228229401496703205376 : Int) * (-1 * g) = -(1267650600228229401496703205376 * g) by omega, Int.neg_mul]; exact a
  have f2 : vI p * vI r ≤ 1267650600228229401496703205376 * (1 * g) * ((2 ^ K : Nat) : Int) := by
    rw [hs.unit, Int.one_mul]; exact b
  obtain ⟨z, z1, z2, z3, z4⟩ := mul_worth hs.k hp hr (fin_of rA rB f1 f2)
  have a1 := round_ge rA f1
  have a2 := round_le rB f2
  rw [← z4] at a1 a2
  exact ⟨z, z1, z2, z3, by omega, by omega⟩
theorem add_held {K : Nat} {g : Int} (hs : Scale K g) {q c : Nat} (hq : NumB q) (hc : NumB c) (l : Int) (hl1 : -10 < l) (hl2 : l < 10) (t1 : 1267650600228229401496703205376 * (l * g) ≤ vI q + vI c) (t2 : vI q + vI c ≤ 2535301200456458802993406410752 * g) :
    ∃ z, floatBits .add .f64 q c = some z ∧ NumB z ∧ z < 18446744073709551616 ∧ 1267650600228229401496703205376 * (l * g) ≤ vI z ∧ vI z ≤ 2535301200456458802993406410752 * g := by
  have rA := rep_units hs l hl1 hl2
  have rB := rep_units hs 2 (by decide) (by decide)
  have f1 : 1267650600228229401496703205376 * (l * g) * ((2 ^ 0 : Nat) : Int) ≤ vI q + vI c := by rw [show ((2 ^ 0 : Nat) : Int) = 1 from rfl, Int.mul_one]; exact t1
  have f2 : vI q + vI c ≤ 1267650600228229401496703205376 * (2 * g) * ((2 ^ 0 : Nat) : Int) := by rw [show ((2 ^ 0 : Nat) : Int) = 1 from rfl, Int.mul_one]; omega
  obtain ⟨z, z1, z2, z3, z4⟩ := add_worth hq hc (fin_of rA rB f1 f2)
  have a1 := round_ge rA f1
  have a2 := round_le rB f2
  rw [← z4] at a1 a2
  exact ⟨z, z1, z2, z3, a1, by omega⟩
theorem one_worth {K : Nat} {g : Int} (hs : Scale K g) : vI 4607182418800017408 = 1267650600228229401496703205376 * g ∧ NumB 4607182418800017408 := by
  obtain ⟨a, b, _⟩ := fi_worth hs (m := 1) (by decide) (by decide)
  rw [fi_one] at a b
  rw [Int.one_mul] at a
  exact ⟨a, b⟩
theorem exp_bits : ∀ i, i < 14 → expL.getD i 0 ≤ 4607182418800017408 := by decide +kernel
theorem low_units {K : Nat} {g : Int} (hs : Scale K g) {c : Nat} (h : c ≤ 4607182418800017408) : NumB c ∧ 0 ≤ vI c ∧ vI c ≤ 1267650600228229401496703205376 * g := by
  have h1 : vI c = (V c : Int) := by
    rw [vI_sgZ]; unfold sB aV
    rw [show c / 9223372036854775808 % 2 = 0 by omega, show c % 9223372036854775808 = c by omega]; rfl
  have h2 : vI 4607182418800017408 = (V 4607182418800017408 : Int) := by
    rw [vI_sgZ]; unfold sB aV; rfl
  have h3 := V_le h
  rw [(one_worth hs).1] at h2
  refine ⟨by unfold NumB; omega, by omega, by omega⟩
theorem horn_held {K : Nat} {g : Int} (hs : Scale K g) {r : Nat} (hr : NumB r) (r1 : -(633825300114114700748351602688 * g) ≤ vI r) (r2 : vI r ≤ 633825300114114700748351602688 * g) :
    ∀ i, i ≤ 12 → ∃ p, hornAt expL r i = some p ∧ NumB p ∧ -(2535301200456458802993406410752 * g) ≤ vI p ∧ vI p ≤ 2535301200456458802993406410752 * g := by
  have hg := hs.pos
  intro i
  induction i with
  | zero =>
    intro _
    obtain ⟨a, b, c⟩ := low_units hs (exp_bits 13 (by omega))
    exact ⟨expL.getD 13 0, rfl, a, by omega, by omega⟩
  | succ i ih =>
    intro hi
    obtain ⟨p, e, hp, p1, p2⟩ := ih (by omega)
    obtain ⟨q, q0, qn, _, q1, q2⟩ := mul_held hs hp hr p1 p2 r1 r2
    obtain ⟨a, b, c⟩ := low_units hs (exp_bits (14 - 2 - i) (by omega))
    obtain ⟨z, z0, zn, _, z1, z2⟩ := add_held hs qn a (-1) (by decide) (by decide) (by omega) (by omega)
    refine ⟨z, ?_, zn, by omega, z2⟩
    show stepO r (hornAt expL r i) (expL.getD (14 - 2 - i) 0) = some z
    rw [e]
    show ((some p).bind fun p => floatBits .mul .f64 p r).bind _ = _
    rw [show ((some p).bind fun p => floatBits .mul .f64 p r) = some q from q0]
    exact z0
theorem horn_exp {K : Nat} {g : Int} (hs : Scale K g) {r : Nat} (hr : NumB r) (r1 : -(633825300114114700748351602688 * g) ≤ vI r) (r2 : vI r ≤ 633825300114114700748351602688 * g) :
    ∃ p, hornO expL r = some p ∧ NumB p ∧ p < 18446744073709551616 ∧ 0 ≤ vI p := by
  have hg := hs.pos
  obtain ⟨p, e, hp, p1, p2⟩ := horn_held hs hr r1 r2 12 (by omega)
  obtain ⟨q, q0, qn, _, q1, q2⟩ := mul_held hs hp hr p1 p2 r1 r2
  obtain ⟨o1, o2⟩ := one_worth hs
  obtain ⟨z, z0, zn, z64, z1, _⟩ := add_held hs qn o2 0 (by decide) (by decide) (by rw [o1]; omega) (by rw [o1]; omega)
  refine ⟨z, ?_, zn, z64, by omega⟩
  show stepO r (hornAt expL r 12) 4607182418800017408 = some z
  rw [e]
  show ((some p).bind fun p => floatBits .mul .f64 p r).bind _ = _
  rw [show ((some p).bind fun p => floatBits .mul .f64 p r) = some q from q0]
  exact z0

theorem spl_of {p : Nat} (hn : NumB p) (h64 : p < 18446744073709551616) (h0 : 0 ≤ vI p) : 0 ≤ splM p ∧ splM p < 9007199254740992 ∧ -2000 ≤ splE p ∧ splE p ≤ 2000 := by
  have hsz : szI (p : Int) = ((p % 9223372036854775808 : Nat) : Int) := by unfold szI; omega
  have hok : splOk (p : Int) = true := by unfold splOk; rw [hsz]; unfold NumB at hn; simp; omega
  have hE : -2000 ≤ splE p ∧ splE p ≤ 2000 := by
    unfold splE plcI
    rw [hsz]
    unfold NumB at hn
    split
    · split <;> omega
    · omega
  unfold splM
  rw [hok, if_pos rfl, hsz]
  obtain ⟨r, hr⟩ : ∃ r, p % 9223372036854775808 = r := ⟨_, rfl⟩
  have hm : 0 ≤ magI (r : Int) ∧ magI (r : Int) < 9007199254740992 := by unfold magI; split <;> omega
  have hz : sgB (p : Int) = true → r = 0 := fun h => by
    have h1 : sB p = true := by
      unfold sgB at h
      unfold sB
      have : 9223372036854775808 ≤ p := by have := of_decide_eq_true h; omega
      rw [show p / 9223372036854775808 % 2 = 1 by omega]; rfl
    rw [vI_sgZ, h1] at h0
    have h2 : aV p = 0 := by unfold sgZ at h0; simp at h0; omega
    unfold aV at h2
    rw [hr] at h2
    have := V_eq_iff (r := r) (s := 0)
    rw [V_zero] at this
    exact this.1 h2
  rw [hr]
  by_cases hsg : sgB (p : Int) = true
  · rw [if_pos hsg, hz hsg]
    refine ⟨by decide, by decide, hE.1, hE.2⟩
  · rw [if_neg hsg]
    exact ⟨hm.1, hm.2, hE.1, hE.2⟩
theorem join_top {m e : Int} (h : 0 ≤ m) : joinN m e ≤ 9218868437227405312 := by
  unfold joinN
  split
  · omega
  · rw [if_neg (by omega)]; exact nearR_le _ _

theorem toInt_all : ∀ a : Nat, a < 64 → ∀ b : Nat, b < 64 → floatToIntVal .f64 (fi (((64 * a + b : Nat) : Int) - 2000)) .i64 = some (((64 * a + b : Nat) : Int) - 2000) := by decide +kernel
theorem toInt_fi {k : Int} (h1 : -2000 ≤ k) (h2 : k ≤ 2000) : floatToIntVal .f64 (fi k) .i64 = some k := by
  have := toInt_all ((k + 2000).toNat / 64) (by omega) ((k + 2000).toNat % 64) (by omega)
  rw [show ((64 * ((k + 2000).toNat / 64) + (k + 2000).toNat % 64 : Nat) : Int) - 2000 = k by omega] at this
  exact this
theorem spl_rng {m : Int} (h1 : 0 ≤ m) (h2 : m < 9007199254740992) : -9223372036854775808 ≤ m ∧ m ≤ 9223372036854775807 := by omega

theorem rank_worth {a b : Nat} (ha : NumB a) (hb : NumB b) (ha2 : a < 18446744073709551616) (hb2 : b < 18446744073709551616) (h : rankI a < rankI b) : vI a < vI b := by
  have na : nanB (a : Int) = false := by unfold NumB at ha; unfold nanB szI; rw [decide_eq_false_iff_not]; omega
  have nb : nanB (b : Int) = false := by unfold NumB at hb; unfold nanB szI; rw [decide_eq_false_iff_not]; omega
  rw [← sgn_rank ha2 na, ← sgn_rank hb2 nb] at h
  have e1 : vI a = sgZ (a / 9223372036854775808 % 2 == 1) (V (a % 9223372036854775808)) := rfl
  have e2 : vI b = sgZ (b / 9223372036854775808 % 2 == 1) (V (b % 9223372036854775808)) := rfl
  rw [e1, e2]
  generalize a % 9223372036854775808 = r at *
  generalize b % 9223372036854775808 = s at *
  generalize (a / 9223372036854775808 % 2 == 1) = p at *
  generalize (b / 9223372036854775808 % 2 == 1) = q at *
  have h1 := V_lt_iff (r := r) (s := s)
  have h2 := V_lt_iff (r := s) (s := r)
  have h3 := V_lt_iff (r := 0) (s := s)
  have h4 := V_lt_iff (r := 0) (s := r)
  rw [V_zero] at h3 h4
  unfold sgn at h
  unfold sgZ
  cases p <;> cases q <;> simp only [Bool.false_eq_true, if_true, if_false] at * <;> omega
theorem c710 : fi 710 = 4649456441864749056 := by decide +kernel
theorem c746 : fi (-746) = 13873145138068324352 := by decide +kernel
end Go.Proofs.YtphnainibdepbaaGreat
namespace Go.Proofs.YtphnainibdepbaaGreat
open Go.RowKit

set_option maxHeartbeats 400000 in
theorem inf_neg (w : World) :
    Calls Tryz.prog 78 #[.int .i64 (-1)] w fun e w' => e = .returned (.float .f64 18442240474082181120) ∧ w' = w := by
  have h2 := call_frombits
  go_enter Tryz.func78, Tryz.ntmps78
  go_wp2
  go_ret
  exact ⟨rfl, rfl⟩
set_option maxHeartbeats 400000 in
theorem nan_math (w : World) :
    Calls Tryz.prog 22 #[] w fun e w' => e = .returned (.float .f64 9221120237041090561) ∧ w' = w := by
  have h2 := call_frombits
  go_enter Tryz.func22, Tryz.ntmps22
  go_wp2
  go_ret
  exact ⟨rfl, rfl⟩
set_option maxHeartbeats 400000 in
theorem isInf_pos (x : Nat) (g : Bool) (w : World) (hg : (FloatKind.f64.format.order x 9218868437227405311 == some .gt) = g) :
    Calls Tryz.prog 45 #[.float .f64 x, .int .i64 1] w fun e w' => e = .returned (.bool g) ∧ w' = w := by
  go_enter Tryz.func45, Tryz.ntmps45
  go_wp2
  go_ret
  exact ⟨rfl, rfl⟩

set_option maxRecDepth 20000 in
set_option maxHeartbeats 800000 in
theorem about1_at (x m0 m1 : Nat) (n e L : Int) (ok g : Bool) (w : World) (hS : Hid (∀ w, Calls Tryz.prog 50 #[.float .f64 x] w fun r w' => r = .returned (.tuple #[.int .i64 n, .int .i64 e, .bool ok]) ∧ w' = w))
    (hn : 0 < n ∧ n < 9007199254740992) (he : -2000 ≤ e ∧ e ≤ 2000) (hL : Hid (∀ w, Calls Tryz.prog 160 #[.int .u64 n] w fun r w' => r = .returned (.int .i64 L) ∧ w' = w)) (hL2 : 0 ≤ L ∧ L ≤ 64)
    (hJ : Hid (∀ w, Calls Tryz.prog 83 #[.int .i64 n, .int .i64 (1 - L)] w fun r w' => r = .returned (.float .f64 m0) ∧ ∃ q, w' = w.drewN q))
    (hg : (FloatKind.f64.format.order m0 4609047870845172685 == some .gt) = g) (hd : floatBits .quo .f64 m0 4611686018427387904 = some m1) :
    Calls Tryz.prog 153 #[.float .f64 x] w fun r w' => r = .returned (.tuple #[.float .f64 (if g then m1 else m0), .int .i64 (if g then e + L else e + L - 1)]) ∧ ∃ q, w' = w.drewN q := by
  have r1 := fun w => run_float_arith (P := Tryz.prog) w .quo 42 .f64 _ _ _ hd
  clear hd
  cases g
  all_goals
    simp only [Bool.false_eq_true, if_true, if_false]
    go_enter Tryz.func153, Tryz.ntmps153
    go_wp2_with fail
    refine (turned (hS.out _)).mono ?_
    rintro r w' ⟨rfl, rfl⟩
    go_wp2_with fail
    refine (turned (hL.out _)).mono ?_
    rintro r w' ⟨rfl, rfl⟩
    go_wp2_with fail
    refine (hJ.out _).mono ?_
    rintro r w' ⟨rfl, q, rfl⟩
    go_wp2_with fail
    go_ret2
    exact ⟨rfl, _, rfl⟩

set_option maxHeartbeats 400000 in
theorem ln_nan (x : Nat) (w : World) (h : U64 x) (hn : nanB x = true) :
    Calls Tryz.prog 138 #[.float .f64 x] w fun e w' => e = .returned (.float .f64 9221120237041090561) ∧ w' = w := by
  have H := hideS (isNaN_math x w h)
  rw [hn] at H
  clear h hn
  go_enter Tryz.func138, Tryz.ntmps138
  go_wp2_with fail
  refine H.out.mono ?_
  rintro e w' ⟨rfl, rfl⟩
  go_wp2_with fail
  refine (nan_math _).mono ?_
  rintro e w' ⟨rfl, rfl⟩
  go_wp2_with fail
  go_ret
  exact ⟨rfl, rfl⟩

set_option maxHeartbeats 400000 in
theorem ln_neg (x : Nat) (w : World) (h : U64 x) (hn : nanB x = false) (hl : (FloatKind.f64.format.order x 0 == some .lt) = true) :
    Calls Tryz.prog 138 #[.float .f64 x] w fun e w' => e = .returned (.float .f64 9221120237041090561) ∧ w' = w := by
  have H := hideS (isNaN_math x w h)
  rw [hn] at H
  clear h hn
  go_enter Tryz.func138, Tryz.ntmps138
  go_wp2_with fail
  refine H.out.mono ?_
  rintro e w' ⟨rfl, rfl⟩
  go_wp2_with fail
  refine (nan_math _).mono ?_
  rintro e w' ⟨rfl, rfl⟩
  go_wp2_with fail
  go_ret
  exact ⟨rfl, rfl⟩

set_option maxHeartbeats 400000 in
theorem ln_zero (x : Nat) (w : World) (h : U64 x) (hn : nanB x = false) (hl : (FloatKind.f64.format.order x 0 == some .lt) = false) (he : (FloatKind.f64.format.order x 0 == some .eq) = true) :
    Calls Tryz.prog 138 #[.float .f64 x] w fun e w' => e = .returned (.float .f64 18442240474082181120) ∧ w' = w := by
  have H := hideS (isNaN_math x w h)
  rw [hn] at H
  clear h hn
  go_enter Tryz.func138, Tryz.ntmps138
  go_wp2_with fail
  refine H.out.mono ?_
  rintro e w' ⟨rfl, rfl⟩
  go_wp2_with fail
  refine (inf_neg _).mono ?_
  rintro e w' ⟨rfl, rfl⟩
  go_wp2_with fail
  go_ret
  exact ⟨rfl, rfl⟩

set_option maxHeartbeats 400000 in
theorem ln_inf (x : Nat) (w : World) (h : U64 x) (hn : nanB x = false) (hl : (FloatKind.f64.format.order x 0 == some .lt) = false) (he : (FloatKind.f64.format.order x 0 == some .eq) = false) (hi : (FloatKind.f64.format.order x 9218868437227405311 == some .gt) = true) :
    Calls Tryz.prog 138 #[.float .f64 x] w fun e w' => e = .returned (.float .f64 x) ∧ w' = w := by
  have H := hideS (isNaN_math x w h)
  rw [hn] at H
  have HI := hideS (isInf_pos x true w hi)
  clear h hn hi
  go_enter Tryz.func138, Tryz.ntmps138
  go_wp2_with fail
  refine H.out.mono ?_
  rintro e w' ⟨rfl, rfl⟩
  go_wp2_with fail
  refine HI.out.mono ?_
  rintro e w' ⟨rfl, rfl⟩
  go_wp2_with fail
  go_ret
  exact ⟨rfl, rfl⟩

end Go.Proofs.YtphnainibdepbaaGreat
namespace Go.Proofs.YtphnainibdepbaaGreat
open Go.RowKit

end Go.Proofs.YtphnainibdepbaaGreat
namespace Go.Proofs.YtphnainibdepbaaGreat
open Go.RowKit

end Go.Proofs.YtphnainibdepbaaGreat
namespace Go.Proofs.YtphnainibdepbaaGreat
open Go.RowKit

end Go.Proofs.YtphnainibdepbaaGreat
namespace Go.Proofs.YtphnainibdepbaaGreat
open Go.RowKit

end Go.Proofs.YtphnainibdepbaaGreat
namespace Go.Proofs.YtphnainibdepbaaGreat
open Go.RowKit

def prvC (base : Int) (ds : List Int) : Nat → Int
  | 0 => base
  | k + 1 => ds.getD k 0
def nodC (base : Int) (ds : List Int) (fs : List Nat) (i : Nat) : Bool := decide (ds.getD i 0 ≤ prvC base ds i) || decide (109572 < ds.getD i 0) || !finB (fs.getD i 0 : Nat) || !ltB 0 (fs.getD i 0 : Nat)
structure OkV (base kind : Int) (ds : List Int) (fs : List Nat) : Prop where
  b0 : 0 ≤ base
  b1 : base ≤ 109572
  k1 : 1 ≤ kind
  k4 : kind ≤ 4
  lo : 1 ≤ ds.length
  hi : ds.length ≤ 255
  len : fs.length = ds.length
  node : ∀ i < ds.length, nodC base ds fs i = false
inductive CurR (base kind : Int) (ds : List Int) (fs : List Nat) : Int → Prop
  | ok (h : OkV base kind ds fs) : CurR base kind ds fs 0
  | base (h : base < 0 ∨ 109572 < base) : CurR base kind ds fs 51
  | kind (b0 : 0 ≤ base) (b1 : base ≤ 109572) (h : kind < 1 ∨ 4 < kind) : CurR base kind ds fs 90
  | len (b0 : 0 ≤ base) (b1 : base ≤ 109572) (h1 : 1 ≤ kind) (h4 : kind ≤ 4) (h : ds.length < 1 ∨ 255 < ds.length ∨ fs.length ≠ ds.length) : CurR base kind ds fs 100
  | node (b0 : 0 ≤ base) (b1 : base ≤ 109572) (h1 : 1 ≤ kind) (h4 : kind ≤ 4) (lo : 1 ≤ ds.length) (hi : ds.length ≤ 255) (len : fs.length = ds.length) (K : Nat) (hK : K < ds.length) (bad : nodC base ds fs K = true) (fine : ∀ i < K, nodC base ds fs i = false) : CurR base kind ds fs 100
theorem curR_ex (base kind : Int) (ds : List Int) (fs : List Nat) : ∃ E, CurR base kind ds fs E := by
  by_cases hb : base < 0 ∨ 109572 < base
  · exact ⟨51, .base hb⟩
  · by_cases hk : kind < 1 ∨ 4 < kind
    · exact ⟨90, .kind (by omega) (by omega) hk⟩
    · by_cases hl : ds.length < 1 ∨ 255 < ds.length ∨ fs.length ≠ ds.length
      · exact ⟨100, .len (by omega) (by omega) (by omega) (by omega) hl⟩
      · by_cases hb : ∃ i < ds.length, nodC base ds fs i = true
        · obtain ⟨K, hK, h1, h2⟩ := least_bad _ hb
          exact ⟨100, .node (by omega) (by omega) (by omega) (by omega) (by omega) (by omega) (by omega) K hK h1 h2⟩
        · exact ⟨0, .ok ⟨by omega, by omega, by omega, by omega, by omega, by omega, by omega, fun i hi => by
            cases hc : nodC base ds fs i
            · rfl
            · exact absurd ⟨i, hi, hc⟩ hb⟩⟩
theorem curR_ok {base kind : Int} {ds : List Int} {fs : List Nat} (h : CurR base kind ds fs 0) : OkV base kind ds fs := by
  generalize hE : (0 : Int) = E at h
  cases h with
  | ok h => exact h
  | base h => cases hE
  | kind => cases hE
  | len => cases hE
  | node => cases hE
theorem nodC_fine {base : Int} {ds : List Int} {fs : List Nat} {i : Nat} (h : nodC base ds fs i = false) : prvC base ds i < ds.getD i 0 ∧ ds.getD i 0 ≤ 109572 ∧ finB (fs.getD i 0 : Nat) = true ∧ ltB 0 (fs.getD i 0 : Nat) = true := by
  unfold nodC at h
  simp only [Bool.or_eq_false_iff, decide_eq_false_iff_not, Bool.not_eq_false'] at h
  obtain ⟨⟨⟨a, b⟩, c⟩, d⟩ := h
  exact ⟨by omega, by omega, c, d⟩
def ctX (base : Int) (ds : List Int) : List Int := base :: ds
def ctY (fs : List Nat) : List Nat := 4607182418800017408 :: fs
theorem ctX_at (base : Int) (ds : List Int) (i : Nat) : (ctX base ds).getD i 0 = prvC base ds i := by
  cases i <;> rfl
theorem OkV.pos {base kind : Int} {ds : List Int} {fs : List Nat} (h : OkV base kind ds fs) : ∀ i ≤ ds.length, 0 ≤ prvC base ds i
  | 0, _ => h.b0
  | i + 1, hi => by
    have := nodC_fine (h.node i (by omega))
    have := OkV.pos h i (by omega)
    show 0 ≤ ds.getD i 0
    omega
theorem OkV.top {base kind : Int} {ds : List Int} {fs : List Nat} (h : OkV base kind ds fs) : ∀ i ≤ ds.length, prvC base ds i ≤ 109572
  | 0, _ => h.b1
  | i + 1, hi => (nodC_fine (h.node i (by omega))).2.1
theorem OkV.table {base kind : Int} {ds : List Int} {fs : List Nat} (h : OkV base kind ds fs) : OkT kind (ctX base ds) (ctY fs) := by
  refine ⟨h.k1, h.k4, by simp [ctX], by have := h.hi; simp [ctX]; omega, by simp [ctX, ctY, h.len], fun i hi => ?_⟩
  have hi' : i ≤ ds.length := by have : i < ds.length + 1 := hi; omega
  have p := h.pos i hi'
  have t := h.top i hi'
  unfold nodeB
  rw [ctX_at, decide_eq_false (show ¬ prvC base ds i < 0 by omega), decide_eq_false (show ¬ 109572 < prvC base ds i by omega)]
  cases i with
  | zero =>
    show (false || false || (decide (0 < 0) && _) || !finB (4607182418800017408 : Nat) || (decide (kind = 4) && !ltB 0 (4607182418800017408 : Nat))) = false
    rw [show finB (4607182418800017408 : Nat) = true by decide, show ltB 0 (4607182418800017408 : Nat) = true by decide]; simp
  | succ i =>
    obtain ⟨a, b, c, d⟩ := nodC_fine (h.node i (by omega))
    have e1 : (ctX base ds).getD (i + 1 - 1) 0 = prvC base ds i := by rw [Nat.add_sub_cancel, ctX_at]
    have e2 : (ctY fs).getD (i + 1) 0 = fs.getD i 0 := rfl
    have e3 : prvC base ds (i + 1) = ds.getD i 0 := rfl
    rw [e1, e2, e3, c, d, decide_eq_false (show ¬ ds.getD i 0 ≤ prvC base ds i by omega)]; simp
end Go.Proofs.YtphnainibdepbaaGreat
namespace Go.Proofs.YtphnainibdepbaaGreat
open Go.RowKit

def prvF (fs : List Nat) : Nat → Nat
  | 0 => 4607182418800017408
  | k + 1 => fs.getD k 0
def fallB (fs : List Nat) : Bool := (List.range fs.length).all fun i => !ltB (prvF fs i : Nat) (fs.getD i 0 : Nat)
inductive FallR (fs : List Nat) : Bool → Prop
  | yes (h : ∀ i < fs.length, ltB (prvF fs i : Nat) (fs.getD i 0 : Nat) = false) : FallR fs true
  | no (K : Nat) (hK : K < fs.length) (bad : ltB (prvF fs K : Nat) (fs.getD K 0 : Nat) = true) (fine : ∀ i < K, ltB (prvF fs i : Nat) (fs.getD i 0 : Nat) = false) : FallR fs false
theorem fallR_of (fs : List Nat) : FallR fs (fallB fs) := by
  by_cases hb : ∃ i < fs.length, ltB (prvF fs i : Nat) (fs.getD i 0 : Nat) = true
  · obtain ⟨K, hK, h1, h2⟩ := least_bad _ hb
    have : fallB fs = false := by
      unfold fallB
      rw [List.all_eq_false]
      exact ⟨K, List.mem_range.2 hK, by rw [h1]; decide⟩
    rw [this]; exact .no K hK h1 h2
  · have hf : ∀ i < fs.length, ltB (prvF fs i : Nat) (fs.getD i 0 : Nat) = false := fun i hi => by
      cases hc : ltB (prvF fs i : Nat) (fs.getD i 0 : Nat)
      · rfl
      · exact absurd ⟨i, hi, hc⟩ hb
    have : fallB fs = true := by
      unfold fallB
      rw [List.all_eq_true]
      intro i hi
      rw [hf i (List.mem_range.1 hi)]; rfl
    rw [this]; exact .yes hf
end Go.Proofs.YtphnainibdepbaaGreat
namespace Go.Proofs.YtphnainibdepbaaGreat
open Go.RowKit

structure VBox (w : World) (base kind : Int) (vd vf : Value) (wr : World) : Prop where
  t0 : wr.cell? ⟨w.heap.size, 0, none⟩ = some (.int .i64 base)
  t1 : wr.cell? ⟨w.heap.size, 1, none⟩ = some (.int .i64 kind)
  t2 : wr.cell? ⟨w.heap.size, 2, none⟩ = some vd
  t3 : wr.cell? ⟨w.heap.size, 3, none⟩ = some vf
  bl : Below w.heap.size w wr
  lt : w.heap.size < wr.heap.size
theorem vboxA_at (w : World) (base kind : Int) (vd vf : Value) : VBox w base kind vd vf (w.alloc (.cells #[.int .i64 base, .int .i64 kind, vd, vf] 34)) :=
  ⟨by simp, by simp, by simp, by simp, (Below.refl _ _).alloc (Nat.le_refl _) _, by simp⟩
theorem VBox.step {w wr w' : World} {base kind : Int} {vd vf : Value} (h : VBox w base kind vd vf wr) (hb : Below wr.heap.size wr w') : VBox w base kind vd vf w' :=
  ⟨(hb.cell (p := ⟨w.heap.size, 0, none⟩) h.lt).trans h.t0, (hb.cell (p := ⟨w.heap.size, 1, none⟩) h.lt).trans h.t1, (hb.cell (p := ⟨w.heap.size, 2, none⟩) h.lt).trans h.t2, (hb.cell (p := ⟨w.heap.size, 3, none⟩) h.lt).trans h.t3, h.bl.trans (hb.mono h.bl.size), Nat.lt_of_lt_of_le h.lt hb.size⟩
theorem VBox.drewN {w wr : World} {base kind : Int} {vd vf : Value} (h : VBox w base kind vd vf wr) (m : Nat) : VBox w base kind vd vf (wr.drewN m) := ⟨h.t0, h.t1, h.t2, h.t3, ⟨h.bl.os, h.bl.tape, h.bl.output, h.bl.size, h.bl.block⟩, h.lt⟩
structure CSrcD (w : World) (pd pf : Option Addr) (bd od b2 o2 : Nat) (ds : List Int) (fs : List Nat) : Prop where
  d : VSrc w pd bd od ds.length (xV ds)
  f : VSrc w pf b2 o2 fs.length (yV fs)
  u : ∀ i < fs.length, U64 (fs.getD i 0 : Nat)
theorem CSrcD.below {w w' : World} {pd pf : Option Addr} {bd od b2 o2 : Nat} {ds : List Int} {fs : List Nat} (h : CSrcD w pd pf bd od b2 o2 ds fs) (hb : Below w.heap.size w w') : CSrcD w' pd pf bd od b2 o2 ds fs := ⟨h.d.below hb, h.f.below hb, h.u⟩

end Go.Proofs.YtphnainibdepbaaGreat
