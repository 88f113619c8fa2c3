/- The walk of RateOnes: no rate, no time; what Factor tells is a number above 0. -/
import Derived.Test.YtbkmbdbjeiffpaaRaN
namespace Go.Proofs.Ytbkmbdbjeiffpaa
open Go.RowKit

set_option maxRecDepth 20000 in
set_option maxHeartbeats 3200000 in
/-- Where nothing is asked. -/
theorem rateOnes_out (kind : Int) (r t : Nat) (w : World) (hr : r < 18446744073709551616) (ht : t < 18446744073709551616) (h : ¬ ((1 ≤ kind ∧ kind ≤ 6) ∧ fitB (t : Int) = true ∧ NumB r)) :
    Calls Try.prog 5 #[.int .i64 kind, .float .f64 r, .float .f64 t] w fun e w' => e = .returned (.bool true) ∧ Below w.heap.size w w' := by
  have HF := hideS fun w => turned (fits_any t w (u64_of_nat ht))
  obtain ⟨d, ⟨q, hrun⟩, hd⟩ := sub_test r hr w
  have hc : (decide (kind < 1) = true) ∨ (decide (kind < 1) = false ∧ decide (6 < kind) = true) ∨ (decide (kind < 1) = false ∧ decide (6 < kind) = false ∧ fitB (t : Int) = false) ∨ (decide (kind < 1) = false ∧ decide (6 < kind) = false ∧ fitB (t : Int) = true ∧ decide (NumB r) = false) := by
    by_cases k1 : kind < 1
    · exact Or.inl (decide_eq_true k1)
    · by_cases k6 : 6 < kind
      · exact Or.inr (Or.inl ⟨decide_eq_false k1, decide_eq_true k6⟩)
      · cases hf : fitB (t : Int) with
        | false => exact Or.inr (Or.inr (Or.inl ⟨decide_eq_false k1, decide_eq_false k6, rfl⟩))
        | true => exact Or.inr (Or.inr (Or.inr ⟨decide_eq_false k1, decide_eq_false k6, rfl, decide_eq_false fun hn => h ⟨by omega, hf, hn⟩⟩))
  clear h hr ht
  generalize decide (NumB r) = b at *
  generalize fitB (t : Int) = f at *
  rcases hc with c1 | ⟨c1, c2⟩ | ⟨c1, c2, rfl⟩ | ⟨c1, c2, rfl, rfl⟩
  all_goals
    go_enter Try.func5, Try.ntmps5
    go_wp2_with (first | (go_at_call 14; refine (HF.out _).mono ?_; rintro e w' ⟨rfl, rfl⟩) | (go_at_call 11; refine (awake9 _).mono ?_; rintro e w9 ⟨rfl, hb⟩))
    go_ret
    first | exact ⟨rfl, hb⟩ | exact ⟨rfl, hb.os, hb.tape, hb.output, hb.size, hb.block⟩

set_option maxRecDepth 20000 in
set_option maxHeartbeats 6400000 in
theorem rateOnes_go (kind : Int) (r t F G : Nat) (E H : Int) (D : Nat) (pos gt : Bool) (w : World) (hk : 1 ≤ kind ∧ kind ≤ 6) (ht : t < 18446744073709551616) (hfit : fitB (t : Int) = true) (hn : NumB r)
    (HA : Hid (∀ w, Calls Try.prog 7 #[.int .i64 kind, .float .f64 0, .float .f64 t] w fun e w' => e = .returned (.tuple #[.float .f64 4607182418800017408, .int .i64 0]) ∧ Below w.heap.size w w'))
    (HB : Hid (∀ w, Calls Try.prog 7 #[.int .i64 kind, .float .f64 r, .float .f64 0] w fun e w' => e = .returned (.tuple #[.float .f64 F, .int .i64 E]) ∧ Below w.heap.size w w'))
    (hE : (E = 0 ∧ F = 4607182418800017408) ∨ (E = 91 ∧ (kind == 1) = false ∧ (kind == 6) = false ∧ gt = false)) (hgt : (FloatKind.f64.format.order r 13830554455654793216 == some .gt) = gt)
    (HC : Hid (∀ w, Calls Try.prog 7 #[.int .i64 kind, .float .f64 r, .float .f64 t] w fun e w' => e = .returned (.tuple #[.float .f64 G, .int .i64 H]) ∧ Below w.heap.size w w'))
    (hH : (H = 0 ∧ (FloatKind.f64.format.order G 0 == some .gt) = true ∧ floatBits .sub .f64 G G = some 0) ∨ H = 91)
    (hpos : (FloatKind.f64.format.order t 0 == some .gt) = pos)
    (HD : Hid (pos = true → ∀ w, Calls Try.prog 12 #[.int .i64 kind, .float .f64 4607182418800017408, .float .f64 t] w fun e w' => e = .returned (.tuple #[.float .f64 D, .int .i64 0]) ∧ Below w.heap.size w w'))
    (hD : (FloatKind.f64.format.order D 0 == some .eq) = true) :
    Calls Try.prog 5 #[.int .i64 kind, .float .f64 r, .float .f64 t] w fun e w' => e = .returned (.bool true) ∧ Below w.heap.size w w' := by
  have HF := hideS fun w => turned (fits_any t w (u64_of_nat ht))
  rw [hfit] at HF
  have hs := fun w => run_float_arith (P := Try.prog) w .sub 22 .f64 _ _ _ (sub_self hn)
  have z0 : (FloatKind.f64.format.order 0 0 == some .eq) = true := by decide +kernel
  have z1 : (FloatKind.f64.format.order 0 0 != some .eq) = false := by decide +kernel
  have z2 : (FloatKind.f64.format.order 4607182418800017408 4607182418800017408 != some .eq) = false := by decide +kernel
  have k1 : decide (kind < 1) = false := decide_eq_false (by omega)
  have k6 : decide (6 < kind) = false := decide_eq_false (by omega)
  clear hk ht hfit hn
  rcases hE with ⟨rfl, rfl⟩ | ⟨rfl, g1, g2, rfl⟩
  all_goals rcases hH with ⟨rfl, m1, m2⟩ | rfl
  all_goals cases pos
  all_goals try have HY := hideS (HD.out rfl)
  all_goals
    clear HD
    go_enter Try.func5, Try.ntmps5
    go_wp2_with fail
    refine (HF.out _).mono ?_
    rintro e w' ⟨rfl, rfl⟩
    go_wp2_with fail
    refine (HA.out _).mono ?_
    rintro e w1 ⟨rfl, hb1⟩
    go_wp2_with fail
    refine (HB.out _).mono ?_
    rintro e w2 ⟨rfl, hb2⟩
    have B2 := hideS (hb1.trans (hb2.mono hb1.size))
    clear hb1 hb2
    go_wp2_with fail
    refine (HC.out _).mono ?_
    rintro e w3 ⟨rfl, hb3⟩
    have B3 := hideS (B2.out.trans (hb3.mono B2.out.size))
    clear hb3 B2
    try have m3 := fun w => run_float_arith (P := Try.prog) w .sub 22 .f64 _ _ _ m2
    go_wp2_with (first | (go_at_call 12; refine (HY.out _).mono ?_; rintro e w4 ⟨rfl, hb4⟩; have B4 := hideS (B3.out.trans (hb4.mono B3.out.size)); clear hb4) | (go_at_call 11; refine (awake9 _).mono ?_; rintro e w9 ⟨rfl, hb9⟩))
    go_ret
    first | exact ⟨rfl, B4.out.trans (hb9.mono B4.out.size)⟩ | exact ⟨rfl, B3.out.trans (hb9.mono B3.out.size)⟩

theorem rateOnes_walk (kind : Int) (r t : Nat) (_ : (Lit.int .i64 kind).wf = true) (wr : (Lit.float .f64 r).wf = true) (wt : (Lit.float .f64 t).wf = true) (w : World) :
    Calls Try.prog 5 #[.int .i64 kind, .float .f64 r, .float .f64 t] w fun e w' => e = .returned (.bool true) ∧ Below w.heap.size w w' := by
  have ur := u64_of_wf wr
  have ut := u64_of_wf wt
  have hr : r < 18446744073709551616 := by have := ur.2; omega
  have ht : t < 18446744073709551616 := by have := ut.2; omega
  by_cases h : (1 ≤ kind ∧ kind ≤ 6) ∧ fitB (t : Int) = true ∧ NumB r
  · obtain ⟨hk, hfit, hn⟩ := h
    obtain ⟨hb, h0, hask⟩ := fit_bd ht hfit
    have n0 : NumB 0 := by unfold NumB; decide
    have HA := fun w => factor_ok kind 0 t 4607182418800017408 w hk (by decide) ht (hask 0 n0) (by rw [fac_rate w kind hb]; exact rfl)
    rw [show endN 4607182418800017408 = 4607182418800017408 by decide, show endE ((4607182418800017408 : Nat) : Int) = 0 by decide] at HA
    obtain ⟨_, _, hask0⟩ := fit_bd (t := 0) (by decide) (by decide)
    have hgt : (FloatKind.f64.format.order r 13830554455654793216 == some .gt) = ltB 13830554455654793216 (r : Int) := gt_ltB (c := 13830554455654793216) ur (by unfold U64; omega)
    have hpos : (FloatKind.f64.format.order t 0 == some .gt) = ltB 0 (t : Int) := gt_ltB (c := 0) ut (by unfold U64; omega)
    obtain ⟨z, hz, _⟩ := docFactor hk hr ht (hask r hn)
    have HC := fun w => factor_ok kind r t z w hk hr ht (hask r hn) hz.1
    have hH : (endE (z : Int) = 0 ∧ (FloatKind.f64.format.order (endN z) 0 == some .gt) = true ∧ floatBits .sub .f64 (endN z) (endN z) = some 0) ∨ endE (z : Int) = 91 := by
      rcases end_cases (z : Int) with ⟨_, _, e⟩ | ⟨_, _, _, e⟩ | ⟨e1, e2, _, e4⟩
      · exact Or.inr e
      · exact Or.inr e
      · refine Or.inl ⟨e4, ?_, ?_⟩
        · have hp := pos_end hz (fac_up kind r t)
          rw [decide_eq_true (⟨e1, e2⟩ : finB (z : Int) = true ∧ szI (z : Int) ≠ 0)] at hp
          have : endN z = z := by unfold endN; rw [if_pos ⟨e1, e2⟩]
          rw [this, gt_lt hz.u]
          unfold posB at hp
          exact (Bool.and_eq_true_iff.1 hp).2
        · have : endN z = z := by unfold endN; rw [if_pos ⟨e1, e2⟩]
          rw [this]
          exact sub_self (num_fin e1)
    have HY : ∃ s, ltB 0 (t : Int) = true → ∀ w, Calls Try.prog 12 #[.int .i64 kind, .float .f64 4607182418800017408, .float .f64 t] w fun e w' => e = .returned (.tuple #[.float .f64 (wrd s 0), .int .i64 0]) ∧ Below w.heap.size w w' := by
      cases hp : ltB 0 (t : Int) with
      | false => exact ⟨false, fun a => by cases a⟩
      | true =>
        have hp' := hp
        unfold ltB at hp'
        rw [num_nan hb.num, show nanB 0 = false by decide, show rankI 0 = 0 by decide] at hp'
        simp at hp'
        obtain ⟨s, hs⟩ := yie_one w kind hb hp'
        refine ⟨s, fun _ w => ?_⟩
        have hfin : finB (t : Int) = true := (ask_cases (hask 0 n0)).2.1
        have h4 := (ask_cases (hask 0 n0)).2.2.2
        have asy : asyB ((4607182418800017408 : Nat) : Int) (t : Int) = true := by
          unfold asyB
          rw [hfin, hp, h4]; decide
        have := yield_ok kind 4607182418800017408 t (wrd s 0) w hk (by decide) ht asy (by rw [hs]; exact rfl)
        rw [show enyN (wrd s 0) = wrd s 0 by cases s <;> decide, show enyE ((wrd s 0 : Nat) : Int) = 0 by cases s <;> decide] at this
        exact this
    obtain ⟨s, HD⟩ := HY
    have hD : (FloatKind.f64.format.order (wrd s 0) 0 == some .eq) = true := by cases s <;> decide +kernel
    rcases fac_time w kind hn hr with e | ⟨e, k1, k6, hg⟩
    · have HB := fun w => factor_ok kind r 0 4607182418800017408 w hk hr (by decide) (hask0 r hn) (by rw [e]; exact rfl)
      rw [show endN 4607182418800017408 = 4607182418800017408 by decide, show endE ((4607182418800017408 : Nat) : Int) = 0 by decide] at HB
      exact rateOnes_go kind r t _ _ _ _ _ _ _ w hk ht hfit hn HA HB (Or.inl ⟨rfl, rfl⟩) hgt HC hH hpos HD hD
    · have HB := fun w => factor_ok kind r 0 0 w hk hr (by decide) (hask0 r hn) (by rw [e]; exact rfl)
      rw [show endN 0 = 0 by decide, show endE ((0 : Nat) : Int) = 91 by decide] at HB
      exact rateOnes_go kind r t _ _ _ _ _ _ _ w hk ht hfit hn HA HB (Or.inr ⟨rfl, beq_eq_false_iff_ne.2 k1, beq_eq_false_iff_ne.2 k6, hg⟩) hgt HC hH hpos HD hD
  · exact rateOnes_out kind r t w hr ht h
end Go.Proofs.Ytbkmbdbjeiffpaa
