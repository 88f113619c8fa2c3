/- Sums and products against a grid; the rest that Exp's polynomial is asked at is at most a half. The contracts of logs and Exp, step by step. -/
import Derived.Test.YtbkmbdbjeiffpaaHax
import Derived.Test.YtbkmbdbjeiffpaaHai
namespace Go.Proofs.Ytbkmbdbjeiffpaa

theorem mg_pl_at {q k : Nat} (hk1 : 4503599627370496 ≤ k) (hk2 : k < 9007199254740992) : mg (q * 4503599627370496 + k) = k ∧ pl (q * 4503599627370496 + k) = q := by
  unfold mg pl
  rw [if_neg (by omega)]
  omega
theorem rep_dyad {m E : Nat} (h : m < 9007199254740992) (hE : 52 ≤ E) (hE2 : E ≤ 1900) : Rep ((m * 2 ^ E : Nat) : Int) := by
  by_cases h0 : m = 0
  · subst h0; rw [Nat.zero_mul]; exact rep_zero
  have a := Nat.log2_self_le h0
  have b : m < 2 ^ (m.log2 + 1) := Nat.lt_log2_self
  have hl : m.log2 < 53 := (Nat.log2_lt h0).2 (by omega)
  generalize m.log2 = l at a b hl
  obtain ⟨k, hk⟩ : ∃ k, m * 2 ^ (52 - l) = k := ⟨_, rfl⟩
  have hk1 : 4503599627370496 ≤ k := by
    have := Nat.mul_le_mul_right (2 ^ (52 - l)) a
    rw [← Nat.pow_add, show l + (52 - l) = 52 by omega, hk] at this; exact this
  have hk2 : k < 9007199254740992 := by
    have := Nat.mul_lt_mul_of_pos_right b (Nat.two_pow_pos (52 - l))
    rw [← Nat.pow_add, show l + 1 + (52 - l) = 53 by omega, hk] at this; exact this
  obtain ⟨h1, h2⟩ := mg_pl_at (q := E + l - 52) hk1 hk2
  refine ⟨(E + l - 52) * 4503599627370496 + k, by omega, ?_⟩
  unfold V
  rw [h1, h2, Int.natAbs_natCast, ← hk, Nat.mul_assoc, ← Nat.pow_add, show 52 - l + (E + l - 52) = E by omega]
theorem rep_grid {j : Int} {E : Nat} (h1 : -9007199254740992 < j) (h2 : j < 9007199254740992) (hE : 52 ≤ E) (hE2 : E ≤ 1900) : Rep (j * ((2 ^ E : Nat) : Int)) := by
  obtain ⟨r, hr, e⟩ := rep_dyad (m := j.natAbs) (E := E) (by omega) hE hE2
  refine ⟨r, hr, ?_⟩
  rw [Int.natAbs_natCast] at e
  rw [natAbs_mul_pow]; exact e
/-- Rounded to a number within a step of the grid. -/
theorem near_grid {k E : Nat} {T : Int} (hE : 52 ≤ E) (hE2 : E ≤ 1900) {G P : Int} (hG : G = ((2 ^ E : Nat) : Int)) (hP : P = ((2 ^ k : Nat) : Int)) (h1 : -(2097152 * (G * P)) ≤ T) (h2 : T ≤ 2097152 * (G * P)) :
    FinR k T ∧ -(G * P) ≤ rI k T * P - T ∧ rI k T * P - T ≤ G * P := by
  have hGp : 0 < G := by rw [hG]; have := Nat.two_pow_pos E; omega
  have hPp : 0 < P := by rw [hP]; have := Nat.two_pow_pos k; omega
  have hGP : 0 < G * P := Int.mul_pos hGp hPp
  obtain ⟨j, hj⟩ : ∃ j, T / (G * P) = j := ⟨_, rfl⟩
  have e1 : j * (G * P) ≤ T := by rw [← hj]; exact Int.ediv_mul_le T (by omega)
  have e2 : T < (j + 1) * (G * P) := by rw [← hj]; exact Int.lt_ediv_add_one_mul_self T hGP
  have j1 : -2097152 ≤ j := by
    rw [← hj]
    refine (Int.le_ediv_iff_mul_le hGP).2 ?_
    rw [Int.neg_mul]; exact h1
  have j2 : j ≤ 2097152 := by
    by_cases h : 2097152 < j
    · have := Int.mul_lt_mul_of_pos_right h hGP
      omega
    · omega
  have rA : Rep (j * G) := by rw [hG]; exact rep_grid (by omega) (by omega) hE hE2
  have rB : Rep ((j + 1) * G) := by rw [hG]; exact rep_grid (by omega) (by omega) hE hE2
  have f1 : j * G * ((2 ^ k : Nat) : Int) ≤ T := by rw [← hP, Int.mul_assoc]; exact e1
  have f2 : T ≤ (j + 1) * G * ((2 ^ k : Nat) : Int) := by rw [← hP, Int.mul_assoc]; omega
  have a1 := round_ge rA f1
  have a2 := round_le rB f2
  have b1 := Int.mul_le_mul_of_nonneg_right a1 (show 0 ≤ P by omega)
  have b2 := Int.mul_le_mul_of_nonneg_right a2 (show 0 ≤ P by omega)
  rw [Int.mul_assoc] at b1 b2
  have e3 : (j + 1) * (G * P) = j * (G * P) + G * P := by rw [Int.add_mul, Int.one_mul]
  rw [e3] at e2 b2
  exact ⟨fin_of rA rB f1 f2, by omega, by omega⟩

/-- Powers of 2 as letters: the unit is 2^100 g. -/
structure Scale (K : Nat) (g : Int) : Prop where
  k : K = 1074
  pos : 0 < g
  unit : ((2 ^ K : Nat) : Int) = 1267650600228229401496703205376 * g
  grid : ((2 ^ 1064 : Nat) : Int) = 1237940039285380274899124224 * g
  at_ : ∀ q p : Nat, q + 974 = p → ((2 ^ p : Nat) : Int) = ((2 ^ q : Nat) : Int) * g
theorem pow_split {a b c : Nat} (h : a + b = c) : ((2 ^ c : Nat) : Int) = ((2 ^ a : Nat) : Int) * ((2 ^ b : Nat) : Int) := by
  subst h; rw [Nat.pow_add, Int.natCast_mul]
theorem scale : ∃ K g, Scale K g := by
  obtain ⟨e, he⟩ : ∃ e, e = 974 := ⟨_, rfl⟩
  obtain ⟨K, hK⟩ : ∃ K, K = 1074 := ⟨_, rfl⟩
  obtain ⟨L, hL⟩ : ∃ L, L = 1064 := ⟨_, rfl⟩
  refine ⟨K, ((2 ^ e : Nat) : Int), hK, by have := Nat.two_pow_pos e; omega, ?_, ?_, fun q p h => pow_split (by omega)⟩
  · rw [pow_split (a := 100) (b := e) (c := K) (by omega)]; rfl
  · rw [← hL, pow_split (a := 90) (b := e) (c := L) (by omega)]; rfl

theorem add_near {K : Nat} {g : Int} (hs : Scale K g) {x y : Nat} (hx : NumB x) (hy : NumB y) (h1 : -(2596148429267413814265248164610048 * g) ≤ vI x + vI y) (h2 : vI x + vI y ≤ 2596148429267413814265248164610048 * g) :
    ∃ z, floatBits .add .f64 x y = some z ∧ NumB z ∧ z < 18446744073709551616 ∧ -(1237940039285380274899124224 * g) ≤ vI z - (vI x + vI y) ∧ vI z - (vI x + vI y) ≤ 1237940039285380274899124224 * g := by
  obtain ⟨E, hE⟩ : ∃ E, E = 1064 := ⟨_, rfl⟩
  have hg := hs.grid
  rw [← hE] at hg
  obtain ⟨f, a, b⟩ := near_grid (k := 0) (E := E) (T := vI x + vI y) (by omega) (by omega) (P := 1) rfl rfl (by rw [hg]; omega) (by rw [hg]; omega)
  obtain ⟨z, z1, z2, z3, z4⟩ := add_worth hx hy f
  rw [hg] at a b
  rw [← z4] at a b
  exact ⟨z, z1, z2, z3, by omega, by omega⟩
theorem sub_near {K : Nat} {g : Int} (hs : Scale K g) {x y : Nat} (hx : NumB x) (hy : NumB y) (h1 : -(2596148429267413814265248164610048 * g) ≤ vI x - vI y) (h2 : vI x - vI y ≤ 2596148429267413814265248164610048 * g) :
    ∃ z, floatBits .sub .f64 x y = some z ∧ NumB z ∧ z < 18446744073709551616 ∧ -(1237940039285380274899124224 * g) ≤ vI z - (vI x - vI y) ∧ vI z - (vI x - vI y) ≤ 1237940039285380274899124224 * g := by
  obtain ⟨E, hE⟩ : ∃ E, E = 1064 := ⟨_, rfl⟩
  have hg := hs.grid
  rw [← hE] at hg
  obtain ⟨f, a, b⟩ := near_grid (k := 0) (E := E) (T := vI x - vI y) (by omega) (by omega) (P := 1) rfl rfl (by rw [hg]; omega) (by rw [hg]; omega)
  obtain ⟨z, z1, z2, z3, z4⟩ := sub_worth hx hy f
  rw [hg] at a b
  rw [← z4] at a b
  exact ⟨z, z1, z2, z3, by omega, by omega⟩
/-- A product with a constant of worth c g. -/
theorem mul_near {K : Nat} {g : Int} (hs : Scale K g) {x y : Nat} {c : Int} (hx : NumB x) (hy : NumB y) (hc : vI y = c * g) (h1 : -(3291009114642412084309938365114701009965471731267159726697218048 * g) ≤ c * vI x) (h2 : c * vI x ≤ 3291009114642412084309938365114701009965471731267159726697218048 * g) :
    ∃ z, floatBits .mul .f64 x y = some z ∧ NumB z ∧ z < 18446744073709551616 ∧ -(1569275433846670190958947355801916604025588861116008628224 * g) ≤ 1267650600228229401496703205376 * vI z - c * vI x ∧ 1267650600228229401496703205376 * vI z - c * vI x ≤ 1569275433846670190958947355801916604025588861116008628224 * g := by
  obtain ⟨E, hE⟩ : ∃ E, E = 1064 := ⟨_, rfl⟩
  have hg := hs.grid
  rw [← hE] at hg
  have hgp := hs.pos
  have eT : vI x * vI y = (c * vI x) * g := by rw [hc, ← Int.mul_assoc, Int.mul_comm (vI x) c]
  have eGP : ((2 ^ E : Nat) : Int) * ((2 ^ K : Nat) : Int) = (1569275433846670190958947355801916604025588861116008628224 * g) * g := by
    rw [hg, hs.unit, ← Int.mul_assoc, show (1237940039285380274899124224 * g * 1267650600228229401496703205376 : Int) = 1569275433846670190958947355801916604025588861116008628224 * g by omega]
  have b1 := Int.mul_le_mul_of_nonneg_right h1 (show 0 ≤ g by omega)
  have b2 := Int.mul_le_mul_of_nonneg_right h2 (show 0 ≤ g by omega)
  have e3 : (2097152 : Int) * (1569275433846670190958947355801916604025588861116008628224 * g * g) = 3291009114642412084309938365114701009965471731267159726697218048 * g * g := by rw [← Int.mul_assoc, ← Int.mul_assoc]; rfl
  rw [Int.neg_mul] at b1
  obtain ⟨f, a, b⟩ := near_grid (k := K) (E := E) (T := vI x * vI y) (by omega) (by omega) rfl rfl (by rw [eGP, e3, eT]; exact b1) (by rw [eGP, e3, eT]; exact b2)
  obtain ⟨z, z1, z2, z3, z4⟩ := mul_worth hs.k hx hy f
  rw [eGP, eT, ← eT, ← z4, eT, hs.unit, ← Int.mul_assoc, Int.mul_comm (vI z), ← Int.sub_mul] at a b
  refine ⟨z, z1, z2, z3, ?_, ?_⟩
  · rw [← Int.neg_mul] at a
    exact Int.le_of_mul_le_mul_right a hgp
  · exact Int.le_of_mul_le_mul_right b hgp
end Go.Proofs.Ytbkmbdbjeiffpaa
namespace Go.Proofs.Ytbkmbdbjeiffpaa
open Go.RowKit

set_option maxHeartbeats 400000 in
theorem isNaN_math (b : Nat) (w : World) (h : U64 b) :
    Calls Try.prog 42 #[.float .f64 b] w fun e w' => e = .returned (.bool (nanB b)) ∧ w' = w := by
  have h1 : (FloatKind.f64.format.order b b != some .eq) = nanB b := by rw [bne, eq_self h, Bool.not_not]
  clear h
  go_enter Try.func42, Try.ntmps42
  go_wp2
  go_ret
  exact ⟨rfl, rfl⟩

set_option maxHeartbeats 400000 in
theorem logs_at (k h l : Nat) (w : World) (h1 : floatBits .mul .f64 k 4604418534311723008 = some h) (h2 : floatBits .mul .f64 k 4461442080421002358 = some l) :
    Calls Try.prog 78 #[.float .f64 k] w fun e w' => e = .returned (.tuple #[.float .f64 h, .float .f64 l]) ∧ w' = w := by
  have r1 := fun w => run_float_arith (P := Try.prog) w .mul 22 .f64 _ _ _ h1
  have r2 := fun w => run_float_arith (P := Try.prog) w .mul 22 .f64 _ _ _ h2
  clear h1 h2
  go_enter Try.func78, Try.ntmps78
  go_wp2
  go_ret2
  exact ⟨rfl, rfl⟩

set_option maxHeartbeats 400000 in
theorem inf_pos (w : World) :
    Calls Try.prog 76 #[.int .i64 1] w fun e w' => e = .returned (.float .f64 9218868437227405312) ∧ w' = w := by
  have h2 := call_frombits
  go_enter Try.func76, Try.ntmps76
  go_wp2
  go_ret
  exact ⟨rfl, rfl⟩

set_option maxHeartbeats 400000 in
theorem exp_nan (x : Nat) (w : World) (h : U64 x) (hn : nanB x = true) :
    Calls Try.prog 60 #[.float .f64 x] w fun e w' => e = .returned (.float .f64 x) ∧ w' = w := by
  have H := hideS (isNaN_math x w h)
  rw [hn] at H
  clear h hn
  go_enter Try.func60, Try.ntmps60
  go_wp2_with fail
  refine H.out.mono ?_
  rintro e w' ⟨rfl, rfl⟩
  go_wp2_with fail
  go_ret
  exact ⟨rfl, rfl⟩

theorem compare_gt_iff (x y : Int) : (compare x y == .gt) = decide (y < x) := by
  show (compareOfLessAndEq x y == .gt) = _
  unfold compareOfLessAndEq
  by_cases a : x < y
  · have : ¬ y < x := by omega
    simp [a, this]
  · by_cases b : x = y
    · simp [b]
    · have : y < x := by omega
      simp [a, b, this]
theorem gt_rank {a b : Nat} (ha : U64 a) (hb : U64 b) (hna : nanB a = false) (hnb : nanB b = false) : (FloatKind.f64.format.order a b == some .gt) = decide (rankI b < rankI a) := by
  rw [order_rank (by have := ha.2; omega) (by have := hb.2; omega) hna hnb, ← compare_gt_iff]; rfl

set_option maxHeartbeats 400000 in
theorem exp_hi (x : Nat) (g e : Bool) (w : World) (h : U64 x) (hn : nanB x = false) (hg : (FloatKind.f64.format.order x 4649456441864749056 == some .gt) = g) (he : (FloatKind.f64.format.order x 4649456441864749056 == some .eq) = e) (hge : (g || e) = true) :
    Calls Try.prog 60 #[.float .f64 x] w fun e w' => e = .returned (.float .f64 9218868437227405312) ∧ w' = w := by
  have H := hideS (isNaN_math x w h)
  rw [hn] at H
  clear h hn
  cases g <;> cases e <;> first | (cases hge; done) | skip
  all_goals
    clear hge
    go_enter Try.func60, Try.ntmps60
    go_wp2_with fail
    refine H.out.mono ?_
    rintro e w' ⟨rfl, rfl⟩
    go_wp2_with fail
    refine (inf_pos _).mono ?_
    rintro e w' ⟨rfl, rfl⟩
    go_wp2_with fail
    go_ret
    exact ⟨rfl, rfl⟩

set_option maxHeartbeats 400000 in
theorem exp_lo (x : Nat) (g e : Bool) (w : World) (h : U64 x) (hn : nanB x = false) (hg1 : (FloatKind.f64.format.order x 4649456441864749056 == some .gt) = false) (he1 : (FloatKind.f64.format.order x 4649456441864749056 == some .eq) = false)
    (hg : (FloatKind.f64.format.order x 13873145138068324352 == some .lt) = g) (he : (FloatKind.f64.format.order x 13873145138068324352 == some .eq) = e) (hge : (g || e) = true) :
    Calls Try.prog 60 #[.float .f64 x] w fun e w' => e = .returned (.float .f64 0) ∧ w' = w := by
  have H := hideS (isNaN_math x w h)
  rw [hn] at H
  clear h hn
  cases g <;> cases e <;> first | (cases hge; done) | skip
  all_goals
    clear hge
    go_enter Try.func60, Try.ntmps60
    go_wp2_with fail
    refine H.out.mono ?_
    rintro e w' ⟨rfl, rfl⟩
    go_wp2_with fail
    go_ret
    exact ⟨rfl, rfl⟩

set_option maxRecDepth 20000 in
set_option maxHeartbeats 1600000 in
theorem exp_mid (x y t f hi lo d r p : Nat) (k : Int) (w : World) (h : U64 x) (hn : nanB x = false) (hg1 : (FloatKind.f64.format.order x 4649456441864749056 == some .gt) = false) (he1 : (FloatKind.f64.format.order x 4649456441864749056 == some .eq) = false)
    (hg2 : (FloatKind.f64.format.order x 13873145138068324352 == some .lt) = false) (he2 : (FloatKind.f64.format.order x 13873145138068324352 == some .eq) = false)
    (q1 : floatBits .mul .f64 x 4609176140021203710 = some y) (q2 : floatBits .add .f64 y 4602678819172646912 = some t) (hf : Hid (∀ w, Calls Try.prog 77 #[.float .f64 t] w fun e w' => e = .returned (.float .f64 f) ∧ w' = w))
    (q3 : floatBits .mul .f64 f 4604418534311723008 = some hi) (q4 : floatBits .mul .f64 f 4461442080421002358 = some lo) (q5 : floatBits .sub .f64 x hi = some d) (q6 : floatBits .sub .f64 d lo = some r)
    (q7 : Hid (hornO expL r = some p)) (up : Hid (U64 p)) (q8 : floatToIntVal .f64 f .i64 = some k) (hk : -2000 ≤ k ∧ k ≤ 2000) (hsp : -2000 ≤ splE p ∧ splE p ≤ 2000) (hsm : -9223372036854775808 ≤ splM p ∧ splM p ≤ 9223372036854775807) :
    Calls Try.prog 60 #[.float .f64 x] w fun e w' => e = .returned (.float .f64 (joinN (splM p) (splE p + k))) ∧ Below w.heap.size w w' := by
  have H := hideS (isNaN_math x w h)
  rw [hn] at H
  have r1 := fun w => run_float_arith (P := Try.prog) w .mul 22 .f64 _ _ _ q1
  have r2 := fun w => run_float_arith (P := Try.prog) w .add 22 .f64 _ _ _ q2
  have r5 := fun w => run_float_arith (P := Try.prog) w .sub 22 .f64 _ _ _ q5
  have r6 := fun w => run_float_arith (P := Try.prog) w .sub 22 .f64 _ _ _ q6
  have r8 := fun w => run_convert_float_int (P := Try.prog) w 22 3 .f64 .i64 f k (by kernel_rfl) Try.underlying3 q8
  have HL : Hid (∀ w, Calls Try.prog 78 #[.float .f64 f] w fun e w' => e = .returned (.tuple #[.float .f64 hi, .float .f64 lo]) ∧ w' = w) := fun w => logs_at f hi lo w q3 q4
  have HSp : Hid (∀ w, Calls Try.prog 81 #[.float .f64 p] w fun e w' => e = .returned (.tuple #[.int .i64 (splM p), .int .i64 (splE p), .bool (splOk p)]) ∧ w' = w) := fun w => split_as p p w rfl up.out
  have HJ : Hid (∀ w, Calls Try.prog 82 #[.int .i64 (splM p), .int .i64 (splE p + k)] w fun e w' => e = .returned (.float .f64 (joinN (splM p) (splE p + k))) ∧ ∃ n, w' = w.drewN n) := fun w => join_any _ _ w hsm.1 hsm.2
  clear h hn q1 q2 q3 q4 q5 q6 q8 hsm
  generalize joinN (splM p) (splE p + k) = res at HJ
  generalize splM p = sm at HJ HSp
  generalize splE p = se at HJ HSp hsp
  generalize splOk p = so at HSp
  go_enter Try.func60, Try.ntmps60
  go_wp2_with fail
  refine (turned H.out).mono ?_
  rintro e w' ⟨rfl, rfl⟩
  clear H
  go_wp2_with fail
  refine (turned (hf.out _)).mono ?_
  rintro e w' ⟨rfl, rfl⟩
  go_wp2_with fail
  refine (turned (HL.out _)).mono ?_
  rintro e w' ⟨rfl, rfl⟩
  go_wp2_with fail
  have HT := hideS (expTerms_any w)
  refine HT.out.mono ?_
  rintro e w1 ⟨rfl, hs, hb⟩
  have HB := hideS hb
  have HH : Hid (Calls Try.prog 79 #[.slice (some ⟨w.heap.size, 0, none⟩) 14 14, .float .f64 r] w1 fun e w' => ∃ r', e = .returned (.float .f64 r') ∧ Ag (hornO expL r) r' ∧ ∃ q, w' = w1.drewN q) := horner_any _ _ _ 14 r 14 expL w1 hs rfl (by decide)
  rw [q7.out] at HH
  clear hs hb HT
  go_wp2_with fail
  refine HH.out.mono ?_
  rintro e w2 ⟨r', rfl, hag, q, rfl⟩
  obtain rfl := ag_some hag
  go_wp2_with fail
  refine (turned (HSp.out _)).mono ?_
  rintro e w' ⟨rfl, rfl⟩
  go_wp2_with fail
  refine (HJ.out _).mono ?_
  rintro e w' ⟨rfl, q', rfl⟩
  go_wp2_with fail
  go_ret
  exact ⟨rfl, ⟨HB.out.os, HB.out.tape, HB.out.output, HB.out.size, HB.out.block⟩⟩
end Go.Proofs.Ytbkmbdbjeiffpaa
