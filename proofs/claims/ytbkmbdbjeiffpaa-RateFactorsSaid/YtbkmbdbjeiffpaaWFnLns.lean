/- The walk of FnLns: Ln of any float. -/
import Derived.Test.YtbkmbdbjeiffpaaHbg
import Derived.Test.YtbkmbdbjeiffpaaWFnHorners
namespace Go.Proofs.Ytbkmbdbjeiffpaa
open Go.RowKit

set_option maxHeartbeats 800000 in
theorem refLn_nan (u : Int) (w : World) (h : U64 u) (hc : nanB u = true ∨ (nanB u = false ∧ sgB u = true ∧ (szI u == 0) = false)) :
    Calls Try.prog 31 #[.int .u64 u] w fun e w' => e = .returned (.int .u64 9221120237041090561) ∧ w' = w := by
  rcases hc with h1 | ⟨h1, h2, h3⟩
  · have HN := hideS (refNaN_any u · h)
    rw [h1] at HN
    clear h h1
    go_enter Try.func31, Try.ntmps31
    go_wp2_with fail
    refine (HN.out _).mono ?_
    rintro e w' ⟨rfl, rfl⟩
    go_wp2_with fail
    go_ret
    exact ⟨rfl, rfl⟩
  · have HN := hideS (refNaN_any u · h)
    have HNg : Hid (∀ w, Calls Try.prog 57 #[.int .u64 u] w fun e w' => e = .returned (.bool true) ∧ w' = w) := fun w => by
      have := refNegative_any u w
      rw [h2] at this; exact this
    have HSz := hideS (refSize_any u · h)
    have h4 : (szI u != 0) = true := by rw [bne, h3]; rfl
    rw [h1] at HN
    clear h h1 h2
    go_enter Try.func31, Try.ntmps31
    go_wp2_with fail
    refine (HN.out _).mono ?_
    rintro e w' ⟨rfl, rfl⟩
    go_wp2_with fail
    refine (HNg.out _).mono ?_
    rintro e w' ⟨rfl, rfl⟩
    go_wp2_with fail
    refine (HSz.out _).mono ?_
    rintro e w' ⟨rfl, rfl⟩
    go_wp2_with fail
    go_ret
    exact ⟨rfl, rfl⟩

set_option maxHeartbeats 800000 in
theorem refLn_zero (u : Int) (w : World) (h : U64 u) (h1 : nanB u = false) (h3 : (szI u == 0) = true) :
    Calls Try.prog 31 #[.int .u64 u] w fun e w' => e = .returned (.int .u64 18442240474082181120) ∧ w' = w := by
  have HN := hideS (refNaN_any u · h)
  have HSz := hideS (refSize_any u · h)
  have HF := hideS fun w => refFlip_at 9218868437227405312 9218868437227405312 18442240474082181120 w rfl (by unfold U64; omega) rfl
  have h4 : (szI u != 0) = false := by rw [bne, h3]; rfl
  rw [h1] at HN
  cases h2 : sgB u
  all_goals
    have HNg : Hid (∀ w, Calls Try.prog 57 #[.int .u64 u] w fun e w' => e = .returned (.bool (sgB u)) ∧ w' = w) := fun w => refNegative_any u w
    rw [h2] at HNg
    clear h1 h2
    go_enter Try.func31, Try.ntmps31
    go_wp2_with fail
    refine (HN.out _).mono ?_
    rintro e w' ⟨rfl, rfl⟩
    go_wp2_with fail
    refine (HNg.out _).mono ?_
    rintro e w' ⟨rfl, rfl⟩
    go_wp2_with (first | (go_at_call 32; refine (HSz.out _).mono ?_; rintro e w' ⟨rfl, rfl⟩) | (go_at_call 30; refine (HF.out _).mono ?_; rintro e w' ⟨rfl, rfl⟩))
    go_ret
    exact ⟨rfl, rfl⟩

set_option maxHeartbeats 800000 in
theorem refLn_inf (u : Int) (w : World) (h : U64 u) (h1 : nanB u = false) (h2 : sgB u = false) (h3 : (szI u == 0) = false) (h4 : infB u = true) :
    Calls Try.prog 31 #[.int .u64 u] w fun e w' => e = .returned (.int .u64 u) ∧ w' = w := by
  have HN := hideS (refNaN_any u · h)
  have HSz := hideS (refSize_any u · h)
  have HI := hideS (refInf_any u · h)
  have HNg : Hid (∀ w, Calls Try.prog 57 #[.int .u64 u] w fun e w' => e = .returned (.bool false) ∧ w' = w) := fun w => by
    have := refNegative_any u w
    rw [h2] at this; exact this
  rw [h1] at HN
  rw [h4] at HI
  clear h h1 h2 h4
  go_enter Try.func31, Try.ntmps31
  go_wp2_with fail
  refine (HN.out _).mono ?_
  rintro e w' ⟨rfl, rfl⟩
  go_wp2_with fail
  refine (HNg.out _).mono ?_
  rintro e w' ⟨rfl, rfl⟩
  go_wp2_with (first | (go_at_call 32; refine (HSz.out _).mono ?_; rintro e w' ⟨rfl, rfl⟩) | (go_at_call 48; refine (HI.out _).mono ?_; rintro e w' ⟨rfl, rfl⟩))
  go_ret
  exact ⟨rfl, rfl⟩

/-- What the program and the document tell of one float. -/
structure BothL (x : Nat) (u z : Int) : Prop where
  prog : ∀ w, Calls Try.prog 61 #[.float .f64 x] w fun e w' => ∃ y, e = .returned (.float .f64 y) ∧ (sameB (y : Int) z = true ∧ U64 (y : Int)) ∧ Below w.heap.size w w'
  doc : ∀ w, Calls Try.prog 31 #[.int .u64 u] w fun e w' => e = .returned (.int .u64 z) ∧ Below w.heap.size w w'
  uz : U64 z
theorem bothL_of {x : Nat} {u z : Int} {y : Nat} (hp : ∀ w, Calls Try.prog 61 #[.float .f64 x] w fun e w' => e = .returned (.float .f64 y) ∧ w' = w) (hd : ∀ w, Calls Try.prog 31 #[.int .u64 u] w fun e w' => e = .returned (.int .u64 z) ∧ w' = w) (hz : z = (y : Int)) (hy : U64 (y : Int)) : BothL x u z :=
  ⟨fun w => (hp w).mono fun _ _ ⟨a, b⟩ => ⟨y, a, ⟨by rw [hz]; exact sameB_refl _, hy⟩, by rw [b]; exact Below.refl _ _⟩, fun w => (hd w).mono fun _ _ ⟨a, b⟩ => ⟨a, by rw [b]; exact Below.refl _ _⟩, by rw [hz]; exact hy⟩
theorem opO_some_lt {op : BinOp} (ho : op = .add ∨ op = .sub ∨ op = .mul ∨ op = .quo) {o o' : Option Nat} {q : Nat} (h : opO op o o' = some q) : q < 18446744073709551616 := by
  rw [← opO_cn] at h; exact float_lt ho h

/-- The same, over what may be a NaN. -/
structure BothO (x : Nat) (u : Int) (o : Option Nat) : Prop where
  prog : ∀ w, Calls Try.prog 61 #[.float .f64 x] w fun e w' => ∃ y, e = .returned (.float .f64 y) ∧ Ag o y ∧ Below w.heap.size w w'
  doc : ∀ w, Calls Try.prog 31 #[.int .u64 u] w fun e w' => e = .returned (.int .u64 (cn o)) ∧ Below w.heap.size w w'
  lt : cn o < 18446744073709551616
  nan : nanB (x : Int) = true → o = none
  fin : NumB x → sB x = false → x % 9223372036854775808 ≠ 0 → ∃ y, o = some y ∧ NumB y
theorem bothO_of {x : Nat} {u z : Int} {y : Nat} (hp : ∀ w, Calls Try.prog 61 #[.float .f64 x] w fun e w' => e = .returned (.float .f64 y) ∧ w' = w) (hd : ∀ w, Calls Try.prog 31 #[.int .u64 u] w fun e w' => e = .returned (.int .u64 z) ∧ w' = w) (hz : z = (y : Int)) (hy : U64 (y : Int)) (hn : nanB (x : Int) = false) (hc : ¬ (NumB x ∧ x % 9223372036854775808 ≠ 0)) : BothO x u (some y) :=
  ⟨fun w => (hp w).mono fun _ _ ⟨a, b⟩ => ⟨y, a, rfl, by rw [b]; exact Below.refl _ _⟩, fun w => (hd w).mono fun _ _ ⟨a, b⟩ => ⟨by rw [a, hz]; rfl, by rw [b]; exact Below.refl _ _⟩, by have := hy.2; rw [cn_some]; omega, fun a => (by rw [hn] at a; cases a), fun a _ b => absurd ⟨a, b⟩ hc⟩
theorem bothO_nan {x : Nat} {u : Int} {y : Nat} (hp : ∀ w, Calls Try.prog 61 #[.float .f64 x] w fun e w' => e = .returned (.float .f64 y) ∧ w' = w) (hd : ∀ w, Calls Try.prog 31 #[.int .u64 u] w fun e w' => e = .returned (.int .u64 9221120237041090561) ∧ w' = w) (hn : nanB (y : Int) = true := by first | assumption | decide) (hy : y < 18446744073709551616 := by first | assumption | decide) (hc : NumB x → sB x = true) : BothO x u none :=
  ⟨fun w => (hp w).mono fun _ _ ⟨a, b⟩ => ⟨y, a, ⟨hn, hy⟩, by rw [b]; exact Below.refl _ _⟩, fun w => (hd w).mono fun _ _ ⟨a, b⟩ => ⟨by rw [a]; rfl, by rw [b]; exact Below.refl _ _⟩, by rw [cn_none]; omega, fun _ => rfl, fun a b _ => by rw [hc a] at b; cases b⟩

theorem ln_bothO (x : Nat) (u : Int) (hu : u = (x : Int)) (h : U64 x) : ∃ o, BothO x u o := by
  have hx64 : x < 18446744073709551616 := by have := h.2; omega
  have h' : U64 u := by rw [hu]; exact h
  have un : U64 ((9221120237041090561 : Nat) : Int) := by unfold U64; omega
  cases hn : nanB (x : Int) with
  | true => exact ⟨none, bothO_nan (fun w => ln_nan x w h hn) (fun w => refLn_nan u w h' (Or.inl (by rw [hu]; exact hn))) (hc := fun a => by rw [num_nan a] at hn; cases hn)⟩
  | false =>
    have hn' : nanB u = false := by rw [hu]; exact hn
    have cx := bits_class hu
    have z0 : U64 ((0 : Nat) : Int) := by unfold U64; omega
    have o1 := lt_rank h z0 hn (by decide)
    have o2 := eq_rank h z0 hn (by decide)
    have hr0 : rankI ((0 : Nat) : Int) = 0 := by decide
    rw [hr0] at o1 o2
    have hrk := sgn_rank hx64 hn
    have hsu : sgB u = sB x := by rw [hu]; exact sgB_nat hx64
    have hl := nan_false hn
    by_cases hz : x % 9223372036854775808 = 0
    · have hzu : (szI u == 0) = true := by rw [cx, hz]; rfl
      have hrz : rankI (x : Int) = 0 := by rw [← hrk, hz]; unfold sgn; split <;> rfl
      refine ⟨some 18442240474082181120, bothO_of (fun w => ln_zero x w h hn ?_ ?_) (fun w => refLn_zero u w h' hn' hzu) rfl (by unfold U64; omega) hn (fun a => a.2 hz)⟩
      · rw [o1, hrz]; rfl
      · rw [o2, hrz]; rfl
    · have hzu : (szI u == 0) = false := by rw [cx]; simp; omega
      cases hs : sB x with
      | true =>
        have hneg : rankI (x : Int) < 0 := by
          rw [← hrk]
          have hs' : (x / 9223372036854775808 % 2 == 1) = true := hs
          rw [hs']; unfold sgn; simp; omega
        refine ⟨none, bothO_nan (fun w => ln_neg x w h hn ?_) (fun w => refLn_nan u w h' (Or.inr ⟨hn', by rw [hsu]; exact hs, hzu⟩)) (hc := fun _ => hs)⟩
        rw [o1]; exact decide_eq_true hneg
      | false =>
        have hs' : (x / 9223372036854775808 % 2 == 1) = false := hs
        have hpos : rankI (x : Int) = ((x % 9223372036854775808 : Nat) : Int) := by rw [← hrk, hs']; rfl
        have a1 : (FloatKind.f64.format.order x 0 == some .lt) = false := by rw [o1, hpos, decide_eq_false_iff_not]; omega
        have a2 : (FloatKind.f64.format.order x 0 == some .eq) = false := by rw [o2, hpos, decide_eq_false_iff_not]; omega
        have um : U64 ((9218868437227405311 : Nat) : Int) := by unfold U64; omega
        have o3 := gt_rank h um hn (by decide)
        have hrm : rankI ((9218868437227405311 : Nat) : Int) = 9218868437227405311 := by decide
        rw [hrm, hpos] at o3
        by_cases hinf : x % 9223372036854775808 = 9218868437227405312
        · refine ⟨some x, ?_⟩
          refine bothO_of (y := x) (fun w => ln_inf x w h hn a1 a2 ?_) (fun w => refLn_inf u w h' hn' (by rw [hsu]; exact hs) hzu (by unfold infB; rw [cx, hinf]; rfl)) hu h hn (fun a => by have := a.1; unfold NumB at this; omega)
          rw [o3]; exact decide_eq_true (by omega)
        · have hxn : NumB x := by unfold NumB; omega
          have a3 : (FloatKind.f64.format.order x 9218868437227405311 == some .gt) = false := by rw [o3, decide_eq_false_iff_not]; omega
          have hio : infB u = false := by unfold infB; rw [cx]; simp; omega
          -- its real
          have hN0 : mg (x % 9223372036854775808) ≠ 0 := mg_pos hz
          have hpl : pl (x % 9223372036854775808) ≤ 2045 := by unfold pl; omega
          obtain ⟨N, hN⟩ : ∃ N, N = mg (x % 9223372036854775808) := ⟨_, rfl⟩
          obtain ⟨e, he⟩ : ∃ e : Int, e = -1074 + (pl (x % 9223372036854775808) : Int) := ⟨_, rfl⟩
          have ho : OfR x false N e := ⟨by rw [hN]; exact mg_lt _, by omega, by omega, by rw [hN, he]; unfold aV V; congr 2; omega, fun _ => hs.symm, fun _ => ⟨hN, he⟩⟩
          rw [← hN] at hN0
          have hlt := ho.lt
          have hlo := ho.lo
          have hhi := ho.hi
          have hlg : N.log2 ≤ 52 := by have := (Nat.log2_lt hN0).2 (show N < 2 ^ 53 from hlt); omega
          have hk : -2000 ≤ lnK N e ∧ lnK N e ≤ 2000 := by unfold lnK; split <;> omega
          have hm := (lnM_num hN0 hlt).1
          have n1 : NumB 4607182418800017408 := by unfold NumB; decide
          have fk := (aV_fi (a := lnK N e) rfl (by omega) (by omega)).2.2.1
          have q1 := sub_num hm n1
          have q2 := add_num hm n1
          have q8 := mul_num fk (show NumB 4604418534311723008 by unfold NumB; decide)
          have q9 := mul_num fk (show NumB 4461442080421002358 by unfold NumB; decide)
          refine ⟨_, ⟨fun w => (ln_ag x (lnM N) _ _ _ _ _ (lnK N e) w h hn a1 a2 a3 (fun w => about1_any x N e h hxn ho hN0 w) q1 q2 rfl q8 q9).mono ?_, fun w => refLn_mid x N _ _ _ _ u e _ w hu h' hn' (by rw [hsu]; exact hs) hzu hio hxn ho hN0 q1 q2 q8 q9 rfl, opO_lt (by simp) _ _, fun a => (by rw [hn] at a; cases a), fun _ _ _ => ln_number hN0 hlt hk q1 q2 q8 q9⟩⟩
          rintro r w' ⟨y, rfl, hag, hb⟩
          exact ⟨y, rfl, hag, hb⟩

theorem ln_both (x : Nat) (u : Int) (hu : u = (x : Int)) (h : U64 x) : ∃ z, BothL x u z := by
  obtain ⟨o, hb⟩ := ln_bothO x u hu h
  refine ⟨_, ⟨fun w => (hb.prog w).mono ?_, hb.doc, u64_of_nat hb.lt⟩⟩
  rintro r w' ⟨y, rfl, hag, hbb⟩
  exact ⟨y, rfl, ⟨ag_same hag, u64_of_nat (ag_lt hag fun q hq => by have := hb.lt; rw [hq, cn_some] at this; exact this)⟩, hbb⟩
