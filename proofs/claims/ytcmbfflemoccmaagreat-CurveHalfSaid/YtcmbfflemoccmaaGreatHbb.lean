/- The walk of FnLns: Ln of any float. Exp and Ln of the program alone. Exp and Ln of program and document as plain functions over what may be a NaN; the document's steps likewise. The contracts of package rate's small functions: isNumber, isPositive, number. The contracts of package rate's formulas. The contracts of package rate's compound formulas. The document's Factor, Yield and Forward over plain values. The document's Year. The year of a fraction: one rounding of a quotient; it rises. No word of the program. Go's quotient of two whole floats is the year's rounding. No word of the program. The contract of Year: one rounding of a quotient of whole numbers. -/
import Derived.Test.YtcmbfflemoccmaaGreatHba
import Derived.Test.YtcmbfflemoccmaaGreatHaz
import Derived.Test.YtcmbfflemoccmaaGreatHar
import Derived.Test.YtcmbfflemoccmaaGreatHap
import Derived.Deep.RegionHeld3
import Derived.Test.YtcmbfflemoccmaaGreatHaj
import Derived.Test.YtcmbfflemoccmaaGreatHav
import Derived.Test.YtcmbfflemoccmaaGreatHay
import Derived.Test.YtcmbfflemoccmaaGreatNFrac
namespace Go.Proofs.YtcmbfflemoccmaaGreat
open Go.RowKit

set_option maxHeartbeats 800000 in
theorem refLn_nan (u : Int) (w : World) (h : U64 u) (hc : nanB u = true ∨ (nanB u = false ∧ sgB u = true ∧ (szI u == 0) = false)) :
    Calls Tryz.prog 62 #[.int .u64 u] w fun e w' => e = .returned (.int .u64 9221120237041090561) ∧ w' = w := by
  rcases hc with h1 | ⟨h1, h2, h3⟩
  · have HN := hideS (refNaN_any u · h)
    rw [h1] at HN
    clear h h1
    go_enter Tryz.func62, Tryz.ntmps62
    go_wp2_with fail
    refine (HN.out _).mono ?_
    rintro e w' ⟨rfl, rfl⟩
    go_wp2_with fail
    go_ret
    exact ⟨rfl, rfl⟩
  · have HN := hideS (refNaN_any u · h)
    have HNg : Hid (∀ w, Calls Tryz.prog 103 #[.int .u64 u] w fun e w' => e = .returned (.bool true) ∧ w' = w) := fun w => by
      have := refNegative_any u w
      rw [h2] at this; exact this
    have HSz := hideS (refSize_any u · h)
    have h4 : (szI u != 0) = true := by rw [bne, h3]; rfl
    rw [h1] at HN
    clear h h1 h2
    go_enter Tryz.func62, Tryz.ntmps62
    go_wp2_with fail
    refine (HN.out _).mono ?_
    rintro e w' ⟨rfl, rfl⟩
    go_wp2_with fail
    refine (HNg.out _).mono ?_
    rintro e w' ⟨rfl, rfl⟩
    go_wp2_with fail
    refine (HSz.out _).mono ?_
    rintro e w' ⟨rfl, rfl⟩
    go_wp2_with fail
    go_ret
    exact ⟨rfl, rfl⟩

set_option maxHeartbeats 800000 in
theorem refLn_zero (u : Int) (w : World) (h : U64 u) (h1 : nanB u = false) (h3 : (szI u == 0) = true) :
    Calls Tryz.prog 62 #[.int .u64 u] w fun e w' => e = .returned (.int .u64 18442240474082181120) ∧ w' = w := by
  have HN := hideS (refNaN_any u · h)
  have HSz := hideS (refSize_any u · h)
  have HF := hideS fun w => refFlip_at 9218868437227405312 9218868437227405312 18442240474082181120 w rfl (by unfold U64; omega) rfl
  have h4 : (szI u != 0) = false := by rw [bne, h3]; rfl
  rw [h1] at HN
  cases h2 : sgB u
  all_goals
    have HNg : Hid (∀ w, Calls Tryz.prog 103 #[.int .u64 u] w fun e w' => e = .returned (.bool (sgB u)) ∧ w' = w) := fun w => refNegative_any u w
    rw [h2] at HNg
    clear h1 h2
    go_enter Tryz.func62, Tryz.ntmps62
    go_wp2_with fail
    refine (HN.out _).mono ?_
    rintro e w' ⟨rfl, rfl⟩
    go_wp2_with fail
    refine (HNg.out _).mono ?_
    rintro e w' ⟨rfl, rfl⟩
    go_wp2_with (first | (go_at_call 47; refine (HSz.out _).mono ?_; rintro e w' ⟨rfl, rfl⟩) | (go_at_call 74; refine (HF.out _).mono ?_; rintro e w' ⟨rfl, rfl⟩))
    go_ret
    exact ⟨rfl, rfl⟩

set_option maxHeartbeats 800000 in
theorem refLn_inf (u : Int) (w : World) (h : U64 u) (h1 : nanB u = false) (h2 : sgB u = false) (h3 : (szI u == 0) = false) (h4 : infB u = true) :
    Calls Tryz.prog 62 #[.int .u64 u] w fun e w' => e = .returned (.int .u64 u) ∧ w' = w := by
  have HN := hideS (refNaN_any u · h)
  have HSz := hideS (refSize_any u · h)
  have HI := hideS (refInf_any u · h)
  have HNg : Hid (∀ w, Calls Tryz.prog 103 #[.int .u64 u] w fun e w' => e = .returned (.bool false) ∧ w' = w) := fun w => by
    have := refNegative_any u w
    rw [h2] at this; exact this
  rw [h1] at HN
  rw [h4] at HI
  clear h h1 h2 h4
  go_enter Tryz.func62, Tryz.ntmps62
  go_wp2_with fail
  refine (HN.out _).mono ?_
  rintro e w' ⟨rfl, rfl⟩
  go_wp2_with fail
  refine (HNg.out _).mono ?_
  rintro e w' ⟨rfl, rfl⟩
  go_wp2_with (first | (go_at_call 47; refine (HSz.out _).mono ?_; rintro e w' ⟨rfl, rfl⟩) | (go_at_call 79; refine (HI.out _).mono ?_; rintro e w' ⟨rfl, rfl⟩))
  go_ret
  exact ⟨rfl, rfl⟩

structure BothL (x : Nat) (u z : Int) : Prop where
  prog : ∀ w, Calls Tryz.prog 128 #[.float .f64 x] w fun e w' => ∃ y, e = .returned (.float .f64 y) ∧ (sameB (y : Int) z = true ∧ U64 (y : Int)) ∧ Below w.heap.size w w'
  doc : ∀ w, Calls Tryz.prog 62 #[.int .u64 u] w fun e w' => e = .returned (.int .u64 z) ∧ Below w.heap.size w w'
  uz : U64 z
theorem bothL_of {x : Nat} {u z : Int} {y : Nat} (hp : ∀ w, Calls Tryz.prog 128 #[.float .f64 x] w fun e w' => e = .returned (.float .f64 y) ∧ w' = w) (hd : ∀ w, Calls Tryz.prog 62 #[.int .u64 u] w fun e w' => e = .returned (.int .u64 z) ∧ w' = w) (hz : z = (y : Int)) (hy : U64 (y : Int)) : BothL x u z :=
  ⟨fun w => (hp w).mono fun _ _ ⟨a, b⟩ => ⟨y, a, ⟨by rw [hz]; exact sameB_refl _, hy⟩, by rw [b]; exact Below.refl _ _⟩, fun w => (hd w).mono fun _ _ ⟨a, b⟩ => ⟨a, by rw [b]; exact Below.refl _ _⟩, by rw [hz]; exact hy⟩
structure BothO (x : Nat) (u : Int) (o : Option Nat) : Prop where
  prog : ∀ w, Calls Tryz.prog 128 #[.float .f64 x] w fun e w' => ∃ y, e = .returned (.float .f64 y) ∧ Ag o y ∧ Below w.heap.size w w'
  doc : ∀ w, Calls Tryz.prog 62 #[.int .u64 u] w fun e w' => e = .returned (.int .u64 (cn o)) ∧ Below w.heap.size w w'
  lt : cn o < 18446744073709551616
  nan : nanB (x : Int) = true → o = none
  fin : NumB x → sB x = false → x % 9223372036854775808 ≠ 0 → ∃ y, o = some y ∧ NumB y
theorem bothO_of {x : Nat} {u z : Int} {y : Nat} (hp : ∀ w, Calls Tryz.prog 128 #[.float .f64 x] w fun e w' => e = .returned (.float .f64 y) ∧ w' = w) (hd : ∀ w, Calls Tryz.prog 62 #[.int .u64 u] w fun e w' => e = .returned (.int .u64 z) ∧ w' = w) (hz : z = (y : Int)) (hy : U64 (y : Int)) (hn : nanB (x : Int) = false) (hc : ¬ (NumB x ∧ x % 9223372036854775808 ≠ 0)) : BothO x u (some y) :=
  ⟨fun w => (hp w).mono fun _ _ ⟨a, b⟩ => ⟨y, a, rfl, by rw [b]; exact Below.refl _ _⟩, fun w => (hd w).mono fun _ _ ⟨a, b⟩ => ⟨by rw [a, hz]; rfl, by rw [b]; exact Below.refl _ _⟩, by have := hy.2; rw [cn_some]; omega, fun a => (by rw [hn] at a; cases a), fun a _ b => absurd ⟨a, b⟩ hc⟩
theorem bothO_nan {x : Nat} {u : Int} {y : Nat} (hp : ∀ w, Calls Tryz.prog 128 #[.float .f64 x] w fun e w' => e = .returned (.float .f64 y) ∧ w' = w) (hd : ∀ w, Calls Tryz.prog 62 #[.int .u64 u] w fun e w' => e = .returned (.int .u64 9221120237041090561) ∧ w' = w) (hn : nanB (y : Int) = true := by first | assumption | decide) (hy : y < 18446744073709551616 := by first | assumption | decide) (hc : NumB x → sB x = true) : BothO x u none :=
  ⟨fun w => (hp w).mono fun _ _ ⟨a, b⟩ => ⟨y, a, ⟨hn, hy⟩, by rw [b]; exact Below.refl _ _⟩, fun w => (hd w).mono fun _ _ ⟨a, b⟩ => ⟨by rw [a]; rfl, by rw [b]; exact Below.refl _ _⟩, by rw [cn_none]; omega, fun _ => rfl, fun a b _ => by rw [hc a] at b; cases b⟩

theorem ln_bothO (x : Nat) (u : Int) (hu : u = (x : Int)) (h : U64 x) : ∃ o, BothO x u o := by
  have hx64 : x < 18446744073709551616 := by have := h.2; omega
  have h' : U64 u := by rw [hu]; exact h
  have un : U64 ((9221120237041090561 : Nat) : Int) := by unfold U64; omega
  cases hn : nanB (x : Int) with
  | true => exact ⟨none, bothO_nan (fun w => ln_nan x w h hn) (fun w => refLn_nan u w h' (Or.inl (by rw [hu]; exact hn))) (hc := fun a => by rw [num_nan a] at hn; cases hn)⟩
  | false =>
    have hn' : nanB u = false := by rw [hu]; exact hn
    have cx := bits_class hu
    have z0 : U64 ((0 : Nat) : Int) := by unfold U64; omega
    have o1 := lt_rank h z0 hn (by decide)
    have o2 := eq_rank h z0 hn (by decide)
    have hr0 : rankI ((0 : Nat) : Int) = 0 := by decide
    rw [hr0] at o1 o2
    have hrk := sgn_rank hx64 hn
    have hsu : sgB u = sB x := by rw [hu]; exact sgB_nat hx64
    have hl := nan_false hn
    by_cases hz : x % 9223372036854775808 = 0
    · have hzu : (szI u == 0) = true := by rw [cx, hz]; rfl
      have hrz : rankI (x : Int) = 0 := by rw [← hrk, hz]; unfold sgn; split <;> rfl
      refine ⟨some 18442240474082181120, bothO_of (fun w => ln_zero x w h hn ?_ ?_) (fun w => refLn_zero u w h' hn' hzu) rfl (by unfold U64; omega) hn (fun a => a.2 hz)⟩
      · rw [o1, hrz]; rfl
      · rw [o2, hrz]; rfl
    · have hzu : (szI u == 0) = false := by rw [cx]; simp; omega
      cases hs : sB x with
      | true =>
        have hneg : rankI (x : Int) < 0 := by
          rw [← hrk]
          have hs' : (x / 9223372036854775808 % 2 == 1) = true := hs
          rw [hs']; unfold sgn; simp; omega
        refine ⟨none, bothO_nan (fun w => ln_neg x w h hn ?_) (fun w => refLn_nan u w h' (Or.inr ⟨hn', by rw [hsu]; exact hs, hzu⟩)) (hc := fun _ => hs)⟩
        rw [o1]; exact decide_eq_true hneg
      | false =>
        have hs' : (x / 9223372036854775808 % 2 == 1) = false := hs
        have hpos : rankI (x : Int) = ((x % 9223372036854775808 : Nat) : Int) := by rw [← hrk, hs']; rfl
        have a1 : (FloatKind.f64.format.order x 0 == some .lt) = false := by rw [o1, hpos, decide_eq_false_iff_not]; omega
        have a2 : (FloatKind.f64.format.order x 0 == some .eq) = false := by rw [o2, hpos, decide_eq_false_iff_not]; omega
        have um : U64 ((9218868437227405311 : Nat) : Int) := by unfold U64; omega
        have o3 := gt_rank h um hn (by decide)
        have hrm : rankI ((9218868437227405311 : Nat) : Int) = 9218868437227405311 := by decide
        rw [hrm, hpos] at o3
        by_cases hinf : x % 9223372036854775808 = 9218868437227405312
        · refine ⟨some x, ?_⟩
          refine bothO_of (y := x) (fun w => ln_inf x w h hn a1 a2 ?_) (fun w => refLn_inf u w h' hn' (by rw [hsu]; exact hs) hzu (by unfold infB; rw [cx, hinf]; rfl)) hu h hn (fun a => by have := a.1; unfold NumB at this; omega)
          rw [o3]; exact decide_eq_true (by omega)
        · have hxn : NumB x := by unfold NumB; omega
          have a3 : (FloatKind.f64.format.order x 9218868437227405311 == some .gt) = false := by rw [o3, decide_eq_false_iff_not]; omega
          have hio : infB u = false := by unfold infB; rw [cx]; simp; omega
          -- its real
          have hN0 : mg (x % 9223372036854775808) ≠ 0 := mg_pos hz
          have hpl : pl (x % 9223372036854775808) ≤ 2045 := by unfold pl; omega
          obtain ⟨N, hN⟩ : ∃ N, N = mg (x % 9223372036854775808) := ⟨_, rfl⟩
          obtain ⟨e, he⟩ : ∃ e : Int, e = -1074 + (pl (x % 9223372036854775808) : Int) := ⟨_, rfl⟩
          have ho : OfR x false N e := ⟨by rw [hN]; exact mg_lt _, by omega, by omega, by rw [hN, he]; unfold aV V; congr 2; omega, fun _ => hs.symm, fun _ => ⟨hN, he⟩⟩
          rw [← hN] at hN0
          have hlt := ho.lt
          have hlo := ho.lo
          have hhi := ho.hi
          have hlg : N.log2 ≤ 52 := by have := (Nat.log2_lt hN0).2 (show N < 2 ^ 53 from hlt); omega
          have hk : -2000 ≤ lnK N e ∧ lnK N e ≤ 2000 := by unfold lnK; split <;> omega
          have hm := (lnM_num hN0 hlt).1
          have n1 : NumB 4607182418800017408 := by unfold NumB; decide
          have fk := (aV_fi (a := lnK N e) rfl (by omega) (by omega)).2.2.1
          have q1 := sub_num hm n1
          have q2 := add_num hm n1
          have q8 := mul_num fk (show NumB 4604418534311723008 by unfold NumB; decide)
          have q9 := mul_num fk (show NumB 4461442080421002358 by unfold NumB; decide)
          refine ⟨_, ⟨fun w => (ln_ag x (lnM N) _ _ _ _ _ (lnK N e) w h hn a1 a2 a3 (fun w => about1_any x N e h hxn ho hN0 w) q1 q2 rfl q8 q9).mono ?_, fun w => refLn_mid x N _ _ _ _ u e _ w hu h' hn' (by rw [hsu]; exact hs) hzu hio hxn ho hN0 q1 q2 q8 q9 rfl, opO_lt (by simp) _ _, fun a => (by rw [hn] at a; cases a), fun _ _ _ => ln_number hN0 hlt hk q1 q2 q8 q9⟩⟩
          rintro r w' ⟨y, rfl, hag, hb⟩
          exact ⟨y, rfl, hag, hb⟩

end Go.Proofs.YtcmbfflemoccmaaGreat
namespace Go.Proofs.YtcmbfflemoccmaaGreat
open Go.RowKit

end Go.Proofs.YtcmbfflemoccmaaGreat
namespace Go.Proofs.YtcmbfflemoccmaaGreat
open Go.RowKit

theorem same_nan {a b : Int} (h : sameB a b = true) (hb : nanB b = true) : nanB a = true := by
  unfold sameB at h
  rw [Bool.or_eq_true] at h
  rcases h with h | h
  · rw [of_decide_eq_true h]; exact hb
  · exact (Bool.and_eq_true_iff.1 h).1

structure ExpR (x : Nat) (o : Option Nat) : Prop where
  prog : ∀ w, Calls Tryz.prog 127 #[.float .f64 x] w fun e w' => ∃ y, e = .returned (.float .f64 y) ∧ (Ag o y ∧ y < 18446744073709551616) ∧ Below w.heap.size w w'
  doc : Stp1 61 (x : Int) (cn o)
  nan : nanB (x : Int) = true → o = none
  num : nanB (x : Int) = false → ∃ y, o = some y ∧ y ≤ 9218868437227405312
theorem exp_ex (x : Nat) : ∃ o, x < 18446744073709551616 → ExpR x o := by
  by_cases h : x < 18446744073709551616
  · obtain ⟨y, z, hb, h1, h2⟩ := exp_bothP x (x : Int) rfl (u64_of_nat h)
    have hy : y < 18446744073709551616 := by have := hb.uy.2; omega
    cases hn : nanB (x : Int) with
    | true =>
      have hz := h1 hn
      have hny : nanB (y : Int) = true := same_nan hb.same (by rw [hz]; decide)
      exact ⟨none, fun _ => ⟨fun w => (hb.prog w).mono fun _ _ ⟨a, b⟩ => ⟨y, a, ⟨⟨hny, hy⟩, hy⟩, b⟩, fun w => (hb.doc w).mono fun _ _ ⟨a, b⟩ => ⟨by rw [a, hz]; rfl, b⟩, fun _ => rfl, fun a => by rw [hn] at a; cases a⟩⟩
    | false =>
      obtain ⟨h3, h4⟩ := h2 hn
      exact ⟨some y, fun _ => ⟨fun w => (hb.prog w).mono fun _ _ ⟨a, b⟩ => ⟨y, a, ⟨rfl, hy⟩, b⟩, fun w => (hb.doc w).mono fun _ _ ⟨a, b⟩ => ⟨by rw [a, h4]; rfl, b⟩, fun a => (by rw [hn] at a; cases a), fun _ => ⟨y, rfl, h3⟩⟩⟩
  · exact ⟨none, fun a => absurd a h⟩
noncomputable def expF (x : Nat) : Option Nat := Classical.choose (exp_ex x)
theorem expF_says {x : Nat} (h : x < 18446744073709551616) : ExpR x (expF x) := Classical.choose_spec (exp_ex x) h
structure LnR (x : Nat) (o : Option Nat) : Prop where
  prog : ∀ w, Calls Tryz.prog 128 #[.float .f64 x] w fun e w' => ∃ y, e = .returned (.float .f64 y) ∧ (Ag o y ∧ y < 18446744073709551616) ∧ Below w.heap.size w w'
  doc : Stp1 62 (x : Int) (cn o)
  lt : cn o < 18446744073709551616
  nan : nanB (x : Int) = true → o = none
  fin : NumB x → sB x = false → x % 9223372036854775808 ≠ 0 → ∃ y, o = some y ∧ NumB y
theorem ln_ex (x : Nat) : ∃ o, x < 18446744073709551616 → LnR x o := by
  by_cases h : x < 18446744073709551616
  · obtain ⟨o, hb⟩ := ln_bothO x (x : Int) rfl (u64_of_nat h)
    refine ⟨o, fun _ => ⟨fun w => (hb.prog w).mono ?_, hb.doc, hb.lt, hb.nan, hb.fin⟩⟩
    rintro _ w' ⟨y, rfl, hag, hbb⟩
    exact ⟨y, rfl, ⟨hag, ag_lt hag fun q hq => by have := hb.lt; rw [hq, cn_some] at this; exact this⟩, hbb⟩
  · exact ⟨none, fun a => absurd a h⟩
noncomputable def lnF (x : Nat) : Option Nat := Classical.choose (ln_ex x)
theorem lnF_says {x : Nat} (h : x < 18446744073709551616) : LnR x (lnF x) := Classical.choose_spec (ln_ex x) h
def AgU (o : Option Nat) (x : Nat) : Prop := Ag o x ∧ x < 18446744073709551616
theorem agU_some {x : Nat} (h : x < 18446744073709551616) : AgU (some x) x := ⟨rfl, h⟩
theorem AgU.u {o : Option Nat} {x : Nat} (h : AgU o x) : U64 (x : Int) := u64_of_nat h.2
theorem op_prog (op : BinOp) (ho : op = .add ∨ op = .sub ∨ op = .mul ∨ op = .quo) (t : TypeId) {o o' : Option Nat} {x y : Nat} (h : AgU o x) (h' : AgU o' y) (w : World) : ∃ r, (∃ q, (binOp op t (.float .f64 x) (.float .f64 y)).run Tryz.prog w = .ok (.float .f64 r) (w.drewN q)) ∧ AgU (opO op o o') r := by
  obtain ⟨r, hr, g⟩ := run_op_ag op ho t x y w
  rw [← opO_ag h.1 h'.1] at g
  refine ⟨r, hr, g, ?_⟩
  cases e : opO op o o' with
  | none => rw [e] at g; exact (ag_none g).2
  | some q => rw [e] at g; rw [ag_some g]; rw [opO_ag h.1 h'.1] at e; exact float_lt ho e
end Go.Proofs.YtcmbfflemoccmaaGreat
namespace Go.Proofs.YtcmbfflemoccmaaGreat
open Go.RowKit

set_option maxHeartbeats 400000 in
theorem isNum_any (x : Nat) (w : World) (h : U64 x) :
    Calls Tryz.prog 88 #[.float .f64 x] w fun e w' => e = .returned (.bool (finB (x : Int))) ∧ w' = w := by
  have H1 := hideS fun w => isNaN_math x w h
  cases hn : nanB (x : Int) with
  | true =>
    rw [hn] at H1
    rw [fin_nan hn]
    clear h hn
    go_enter Tryz.func88, Tryz.ntmps88
    go_wp2_with fail
    refine (H1.out _).mono ?_
    rintro e w' ⟨rfl, rfl⟩
    go_wp2_with fail
    go_ret
    exact ⟨rfl, rfl⟩
  | false =>
    have H2 := hideS fun w => isInf_both x _ w h (inf_gt hn)
    rw [hn] at H1
    clear h hn
    generalize finB (x : Int) = b at *
    cases b
    all_goals
      go_enter Tryz.func88, Tryz.ntmps88
      go_wp2_with fail
      refine (H1.out _).mono ?_
      rintro e w' ⟨rfl, rfl⟩
      go_wp2_with fail
      refine (H2.out _).mono ?_
      rintro e w' ⟨rfl, rfl⟩
      go_wp2_with fail
      go_ret
      exact ⟨rfl, rfl⟩

theorem zero_rank : rankI ((0 : Nat) : Int) = 0 := by decide
theorem gt_lt {x : Nat} (h : U64 (x : Int)) : (FloatKind.f64.format.order x 0 == some .gt) = ltB 0 (x : Int) := by
  cases hn : nanB (x : Int) with
  | true =>
    rw [order_nan_left hn]
    unfold ltB
    rw [hn]; rfl
  | false =>
    rw [gt_rank h (by unfold U64; omega) hn (by decide), zero_rank]
    unfold ltB
    rw [hn, show nanB 0 = false by decide, show rankI 0 = 0 by decide]; rfl

set_option maxHeartbeats 400000 in
theorem isPos_any (x : Nat) (w : World) (h : U64 x) :
    Calls Tryz.prog 53 #[.float .f64 x] w fun e w' => e = .returned (.bool (posB (x : Int))) ∧ w' = w := by
  have H1 := hideS fun w => isNum_any x w h
  have hg := gt_lt h
  unfold posB
  clear h
  generalize finB (x : Int) = b at *
  generalize ltB 0 (x : Int) = c at *
  cases b <;> cases c
  all_goals
    go_enter Tryz.func53, Tryz.ntmps53
    go_wp2_with fail
    refine (H1.out _).mono ?_
    rintro e w' ⟨rfl, rfl⟩
    go_wp2_with fail
    go_ret
    exact ⟨rfl, rfl⟩

def enyN (x : Nat) : Nat := if finB (x : Int) = true then x else 0
set_option maxHeartbeats 400000 in
theorem number_any (x : Nat) (w : World) (h : U64 x) :
    Calls Tryz.prog 54 #[.float .f64 x] w fun e w' => e = .returned (.tuple #[.float .f64 (enyN x), .int .i64 (enyE (x : Int))]) ∧ w' = w := by
  have H1 := hideS fun w => isNum_any x w h
  unfold enyN enyE
  clear h
  generalize finB (x : Int) = b at *
  cases b
  all_goals
    go_enter Tryz.func54, Tryz.ntmps54
    go_wp2_with fail
    refine (H1.out _).mono ?_
    rintro e w' ⟨rfl, rfl⟩
    go_wp2_with fail
    go_ret2
    exact ⟨rfl, rfl⟩
theorem eny_ag {o : Option Nat} {x y : Nat} (h : Ag o x) (h' : Ag o y) : enyN x = enyN y ∧ enyE (x : Int) = enyE (y : Int) := by
  cases o with
  | none =>
    unfold enyN enyE
    rw [fin_nan (ag_none h).1, fin_nan (ag_none h').1]
    exact ⟨rfl, rfl⟩
  | some r => rw [ag_some h, ag_some h']; exact ⟨rfl, rfl⟩

def endN (x : Nat) : Nat := if finB (x : Int) = true ∧ szI (x : Int) ≠ 0 then x else 0
end Go.Proofs.YtcmbfflemoccmaaGreat
namespace Go.Proofs.YtcmbfflemoccmaaGreat
open Go.RowKit

abbrev one64 : Nat := 4607182418800017408
theorem below_dN {w w' : World} (h : Below w.heap.size w w') (q : Nat) : Below w.heap.size w (w'.drewN q) := ⟨h.os, h.tape, h.output, h.size, h.block⟩

end Go.Proofs.YtcmbfflemoccmaaGreat
namespace Go.Proofs.YtcmbfflemoccmaaGreat
open Go.RowKit

end Go.Proofs.YtcmbfflemoccmaaGreat
namespace Go.Proofs.YtcmbfflemoccmaaGreat
open Go.RowKit

theorem agU_one : AgU (some one64) 4607182418800017408 := agU_some (by decide)
def fwdO (a b c : Nat) : Option Nat := opO .quo (opO .sub (opO .quo (some a) (some b)) (some one64)) (some c)

end Go.Proofs.YtcmbfflemoccmaaGreat
namespace Go.Proofs.YtcmbfflemoccmaaGreat
open Go.RowKit

def yearK (X Y : Nat) : Nat := (70 - (bl X : Int) + (bl Y : Int)).toNat
def Two (b : Nat) (P Q : Int) (w : World) : Prop := w.cell? ⟨b, 0, none⟩ = some (.int .i64 P) ∧ w.cell? ⟨b, 1, none⟩ = some (.int .i64 Q)
end Go.Proofs.YtcmbfflemoccmaaGreat
namespace Go.Proofs.YtcmbfflemoccmaaGreat
open Go.RowKit

def yearR (X Y : Nat) : Nat := nearR (quoS X Y 200) (-1 - ((200 : Nat) : Int))
theorem yearK_le {X Y : Nat} (hX : X ≠ 0) (hY : Y ≠ 0) (hY' : Y ≤ 1000000000) : yearK X Y ≤ 200 ∧ 54 + Y.log2 ≤ X.log2 + yearK X Y := by
  have h1 := bl_pos hX
  have h2 := bl_pos hY
  have h3 : Y.log2 < 30 := (Nat.log2_lt hY).2 (by omega)
  unfold yearK
  omega
end Go.Proofs.YtcmbfflemoccmaaGreat
namespace Go.Proofs.YtcmbfflemoccmaaGreat
open Go.RowKit

theorem quoS_upN (X Y a k : Nat) : quoS (X * 2 ^ a) Y k = quoS X Y (a + k) := by
  unfold quoS
  rw [Nat.mul_assoc, ← Nat.pow_add]
theorem quoS_scaleN (X Y k c : Nat) (hc : 0 < c) : quoS (X * c) (Y * c) k = quoS X Y k := by
  unfold quoS
  rw [show X * c * 2 ^ k = X * 2 ^ k * c by rw [Nat.mul_assoc, Nat.mul_comm c, ← Nat.mul_assoc], Nat.mul_div_mul_right _ _ hc, Nat.mul_mod_mul_right]
  have : (X * 2 ^ k % Y * c = 0) ↔ (X * 2 ^ k % Y = 0) := by
    rw [Nat.mul_eq_zero]; omega
  simp only [this]
theorem quoS_same {A B X Y p q m t : Nat} (hA : A * 2 ^ p = X * 2 ^ t) (hB : B * 2 ^ q = Y * 2 ^ t) : quoS A B (p + m) = quoS X Y (q + m) := by
  rw [← quoS_upN A B p m, hA, ← quoS_scaleN _ B m (2 ^ q) (Nat.two_pow_pos _), hB, show X * 2 ^ t * 2 ^ q = X * 2 ^ q * 2 ^ t by rw [Nat.mul_assoc, Nat.mul_comm (2 ^ t), ← Nat.mul_assoc], quoS_scaleN _ _ _ _ (Nat.two_pow_pos _), quoS_upN]
theorem quo_whole {x y X Y : Nat} (hx : NumB x) (hy : NumB y) (hX : aV x = X * 2 ^ 1074) (hY : aV y = Y * 2 ^ 1074) (hX0 : X ≠ 0) (hY0 : Y ≠ 0) (hY' : Y ≤ 1000000000) :
    floatBits .quo .f64 x y = some (wrd (sB x ^^ sB y) (yearR X Y)) := by
  have px := Nat.two_pow_pos 1074
  have h0 : x % 9223372036854775808 ≠ 0 := by
    intro h
    unfold aV at hX
    rw [h, V_zero] at hX
    have := Nat.mul_pos (show 0 < X by omega) px
    omega
  have h1 : y % 9223372036854775808 ≠ 0 := by
    intro h
    unfold aV at hY
    rw [h, V_zero] at hY
    have := Nat.mul_pos (show 0 < Y by omega) px
    omega
  unfold aV V at hX hY
  have mx := mg_pos h0
  have my := mg_pos h1
  have lx := mg_lt (x % 9223372036854775808)
  have ly := mg_lt (y % 9223372036854775808)
  have hl : (mg (y % 9223372036854775808)).log2 < 53 := (Nat.log2_lt my).2 (by omega)
  rw [quo_num hx hy h0 h1 rfl rfl rfl rfl (k := pl (x % 9223372036854775808) + 300) (by omega), quoS_same hX hY]
  obtain ⟨k1, k2⟩ := yearK_le hX0 hY0 hY'
  have hb := quo_bits hX0 hY0 k2
  have e1 := near_quo (X := X) (Y := Y) (p := -1) (by omega) (show yearK X Y ≤ pl (y % 9223372036854775808) + 300 by omega) hb.2
  have e2 := near_quo (X := X) (Y := Y) (p := -1) (by omega) k1 hb.2
  unfold yearR
  rw [← e2, e1]
  congr 3
  omega
end Go.Proofs.YtcmbfflemoccmaaGreat
namespace Go.Proofs.YtcmbfflemoccmaaGreat
open Go.RowKit

theorem floatOf_fi7 (m : Int) : floatOfInt .f64 m = fi m := by
  show Ieee.double.nearest (decide (m < 0)) m.natAbs 0 = _
  unfold fi joinN
  by_cases h0 : m = 0
  · subst h0; rfl
  · rw [if_neg h0, nearest_eq _ (by omega)]
    by_cases hn : m < 0
    · simp only [hn, decide_true, if_true]; rw [word_true]
    · simp only [hn, decide_false, if_false]; rw [word_false]
theorem aV_fi7 {m : Int} {K : Nat} (hK : K = 1074) (h1 : -1000000000 ≤ m) (h2 : m ≤ 1000000000) : NumB (fi m) ∧ aV (fi m) = m.natAbs * 2 ^ K ∧ sB (fi m) = decide (m < 0) ∧ fi m < 18446744073709551616 := by
  obtain ⟨a, b, c, d⟩ := vI_fi (m := m) hK (by omega) (by omega)
  refine ⟨b, ?_, c, d⟩
  unfold aV
  have hn : (vI (fi m)).natAbs = V (fi m % 9223372036854775808) := by
    unfold vI
    split <;> simp
  rw [← hn, a, Int.natAbs_mul, Int.natAbs_natCast]
def yW (P Q : Int) : Nat := if P = 0 then 0 else wrd (decide (P < 0)) (yearR P.natAbs Q.natAbs)
theorem quo_year {P Q : Int} (h1 : -1000000000 ≤ P) (h2 : P ≤ 1000000000) (h3 : 0 < Q) (h4 : Q ≤ 1000000000) : floatBits .quo .f64 (fi P) (fi Q) = some (yW P Q) := by
  obtain ⟨K, hK⟩ : ∃ K : Nat, K = 1074 := ⟨_, rfl⟩
  obtain ⟨a1, a2, a3, _⟩ := aV_fi7 (m := P) hK h1 h2
  obtain ⟨b1, b2, b3, _⟩ := aV_fi7 (m := Q) hK (by omega) h4
  have hs : decide (Q < 0) = false := decide_eq_false (by omega)
  have hp := Nat.two_pow_pos K
  unfold yW
  by_cases h0 : P = 0
  · rw [if_pos h0]
    subst h0
    have hq : fi Q % 9223372036854775808 ≠ 0 := fun e => by
      unfold aV at b2
      rw [e, V_zero] at b2
      have := Nat.mul_pos (show 0 < Q.natAbs by omega) hp
      omega
    rw [show fi 0 = 0 from fi_zero, quo_zero (by rfl) b1 hq, b3, hs]
    rfl
  · rw [if_neg h0]
    subst hK
    rw [quo_whole a1 b1 a2 b2 (by omega) (by omega) (by omega), a3, b3, hs]
    simp
set_option maxHeartbeats 800000 in
theorem yearP_ok (kind W a b P Q : Int) (v : Value) (w : World) (h1 : -1000000000 ≤ P) (h2 : P ≤ 1000000000) (h3 : 0 < Q) (h4 : Q ≤ 1000000000) (H : Hid (FracH w kind W a b P Q 0 v)) :
    Calls Tryz.prog 35 #[.int .i64 kind, .agg #[.int .i64 W, v], .int .i64 a, .int .i64 b] w fun e w' => e = .returned (.tuple #[.float .f64 (yW P Q), .int .i64 0]) ∧ Below w.heap.size w w' := by
  have HB := hideS (cbox_first w W v)
  have f1 := floatOf_fi7 P
  have f2 := floatOf_fi7 Q
  have hq := quo_year h1 h2 h3 h4
  unfold FracH at H
  clear h1 h2 h3 h4
  generalize yW P Q = R at *
  generalize fi P = X at *
  generalize fi Q = Y at *
  have hr := fun wx => run_float_arith (P := Tryz.prog) wx .quo 38 .f64 X Y R hq
  clear hq
  go_enter Tryz.func35, Tryz.ntmps35
  go_wp2_with (go_at_call 52; refine (H.out _ HB.out).mono ?_; rintro e w1 ⟨rfl, hb⟩)
  go_ret2
  exact ⟨rfl, HB.out.trans (hb.mono HB.out.size)⟩
end Go.Proofs.YtcmbfflemoccmaaGreat
