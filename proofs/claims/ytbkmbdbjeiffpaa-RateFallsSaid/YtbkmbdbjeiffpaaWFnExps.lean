/- The walk of FnExps: Exp of any float. -/
import Derived.Test.YtbkmbdbjeiffpaaHba
import Derived.Test.YtbkmbdbjeiffpaaWFnHorners
namespace Go.Proofs.Ytbkmbdbjeiffpaa
open Go.RowKit

/-- What the program and the document tell. -/
structure Both (f g : Nat) (x : Nat) (u : Int) (y : Nat) (z : Int) : Prop where
  prog : ∀ w, Calls Try.prog f #[.float .f64 x] w fun e w' => e = .returned (.float .f64 y) ∧ Below w.heap.size w w'
  doc : ∀ w, Calls Try.prog g #[.int .u64 u] w fun e w' => e = .returned (.int .u64 z) ∧ Below w.heap.size w w'
  same : sameB (y : Int) z = true
  uy : U64 (y : Int)
  uz : U64 z
theorem to_below {f : Nat} {args : Array Value} {v : Value} {w : World} (h : Calls Try.prog f args w fun e w' => e = .returned v ∧ w' = w) : Calls Try.prog f args w fun e w' => e = .returned v ∧ Below w.heap.size w w' :=
  h.mono fun _ _ ⟨a, b⟩ => ⟨a, by rw [b]; exact Below.refl _ _⟩
theorem same_cast {y : Nat} {z : Int} (h : z = (y : Int)) : sameB (y : Int) z = true := by rw [h]; exact sameB_refl _
theorem joinN_lt (m e : Int) : joinN m e < 18446744073709551616 := by
  unfold joinN
  have h1 := nearR_le m.natAbs e
  split
  · decide
  · split <;> omega

theorem exp_bothP (x : Nat) (u : Int) (hu : u = (x : Int)) (h : U64 x) : ∃ y z, Both 60 29 x u y z ∧ (nanB (x : Int) = true → z = 9221120237041090561) ∧ (nanB (x : Int) = false → y ≤ 9218868437227405312 ∧ z = (y : Int)) := by
  have hx64 : x < 18446744073709551616 := by have := h.2; omega
  have h' : U64 u := by rw [hu]; exact h
  cases hn : nanB (x : Int) with
  | true => exact ⟨x, 9221120237041090561, ⟨fun w => to_below (exp_nan x w h hn), fun w => refExp_nan u w h' (by rw [hu]; exact hn), sameB_nan hn cn_nan, h, by unfold U64; omega⟩, fun _ => rfl, fun a => by cases a⟩
  | false =>
    have hn' : nanB u = false := by rw [hu]; exact hn
    have u1 : U64 ((4649456441864749056 : Nat) : Int) := by unfold U64; omega
    have u2 : U64 ((13873145138068324352 : Nat) : Int) := by unfold U64; omega
    have n1 : nanB ((4649456441864749056 : Nat) : Int) = false := by decide +kernel
    have n2 : nanB ((13873145138068324352 : Nat) : Int) = false := by decide +kernel
    have g1 := gt_rank h u1 hn n1
    have e1 := eq_rank h u1 hn n1
    have g2 := lt_rank h u2 hn n2
    have e2 := eq_rank h u2 hn n2
    have r1 : rankI ((4649456441864749056 : Nat) : Int) = 4649456441864749056 := by decide +kernel
    have r2 : rankI ((13873145138068324352 : Nat) : Int) = -4649773101213548544 := by decide +kernel
    have r1' : rankI (4649456441864749056 : Int) = 4649456441864749056 := by decide +kernel
    have r2' : rankI (13873145138068324352 : Int) = -4649773101213548544 := by decide +kernel
    rw [r1] at g1 e1
    rw [r2] at g2 e2
    by_cases c1 : 4649456441864749056 ≤ rankI (x : Int)
    · refine ⟨9218868437227405312, 9218868437227405312, ⟨fun w => to_below (exp_hi x _ _ w h hn g1 e1 ?_), fun w => refExp_hi u w h' hn' ?_, rfl, by unfold U64; omega, by unfold U64; omega⟩, fun a => (by cases a), fun _ => ⟨Nat.le_refl _, rfl⟩⟩
      · simp only [Bool.or_eq_true, decide_eq_true_eq]; omega
      · rw [r1', hu, decide_eq_false_iff_not]; omega
    have f1 : (FloatKind.f64.format.order x 4649456441864749056 == some .gt) = false := by rw [g1, decide_eq_false_iff_not]; omega
    have f2 : (FloatKind.f64.format.order x 4649456441864749056 == some .eq) = false := by rw [e1, decide_eq_false_iff_not]; omega
    have d1 : decide (rankI u < rankI 4649456441864749056) = true := by rw [r1', hu, decide_eq_true_eq]; omega
    by_cases c2 : rankI (x : Int) ≤ -4649773101213548544
    · refine ⟨0, 0, ⟨fun w => to_below (exp_lo x _ _ w h hn f1 f2 g2 e2 ?_), fun w => refExp_lo u w h' hn' d1 ?_, rfl, by unfold U64; omega, by unfold U64; omega⟩, fun a => (by cases a), fun _ => ⟨Nat.zero_le _, rfl⟩⟩
      · simp only [Bool.or_eq_true, decide_eq_true_eq]; omega
      · rw [r2', hu, decide_eq_false_iff_not]; omega
    have f3 : (FloatKind.f64.format.order x 13873145138068324352 == some .lt) = false := by rw [g2, decide_eq_false_iff_not]; omega
    have f4 : (FloatKind.f64.format.order x 13873145138068324352 == some .eq) = false := by rw [e2, decide_eq_false_iff_not]; omega
    have d2 : decide (rankI 13873145138068324352 < rankI u) = true := by rw [r2', hu, decide_eq_true_eq]; omega
    obtain ⟨K, g, hs⟩ := scale
    have hxn : NumB x := by
      have hl := nan_false hn
      rw [← sgn_rank hx64 hn] at c1 c2
      unfold NumB
      unfold sgn at c1 c2
      generalize x % 9223372036854775808 = r at *
      generalize (x / 9223372036854775808 % 2 == 1) = s at c1 c2
      cases s <;> simp only [Bool.false_eq_true, if_true, if_false] at c1 c2 <;> omega
    obtain ⟨w1, w2, w3⟩ := fi_worth hs (m := 710) (by decide) (by decide)
    obtain ⟨v1, v2, v3⟩ := fi_worth hs (m := -746) (by decide) (by decide)
    rw [c710] at w1 w2 w3
    rw [c746] at v1 v2 v3
    have b1 := rank_worth hxn w2 hx64 w3 (by rw [r1]; omega)
    have b2 := rank_worth v2 hxn v3 hx64 (by rw [r2]; omega)
    rw [w1] at b1
    rw [v1] at b2
    obtain ⟨y, t, hi, lo, d, r, k, q1, q2, tn, q3, kf1, kf2, k1, k2, q4, q5, q6, q7, rn, _, r1, r2⟩ := exp_chain hs hxn (by omega) (by omega)
    obtain ⟨p, p0, pn, p64, pv⟩ := horn_exp hs rn r1 r2
    obtain ⟨s1, s2, s3, s4⟩ := spl_of pn p64 pv
    refine ⟨joinN (splM p) (splE p + k), (joinN (splM p) (splE p + k) : Int), ⟨fun w => exp_mid x y t (fi k) hi lo d r p k w h hn f1 f2 f3 f4 q1 q2 (fun w => floor_at t _ w tn q3) q4 q5 q6 q7 p0 (u64_of_nat p64) (toInt_fi k1 k2) ⟨k1, k2⟩ ⟨s3, s4⟩ (spl_rng s1 s2), fun w => refExp_mid x y t hi lo d r p u k _ K w hu h' hn' d1 d2 q1 q2 tn hs.k kf1 kf2 k1 k2 q4 q5 q6 q7 p0 pn p64 pv rfl, same_cast rfl, u64_of_nat (joinN_lt _ _), u64_of_nat (joinN_lt _ _)⟩, fun a => (by cases a), fun _ => ⟨join_top s1, rfl⟩⟩

theorem exp_both (x : Nat) (u : Int) (hu : u = (x : Int)) (h : U64 x) : ∃ y z, Both 60 29 x u y z := by
  obtain ⟨y, z, hb, _⟩ := exp_bothP x u hu h
  exact ⟨y, z, hb⟩
