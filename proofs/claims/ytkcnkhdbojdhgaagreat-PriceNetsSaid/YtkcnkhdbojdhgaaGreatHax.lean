/- Sizes held through steps: what is not greater than two bounds tells nothing greater than the bounds tell. Ln of a number above 0 is a number. The walk of FnLns: Ln of any float. Exp and Ln of the program alone. Exp and Ln of program and document as plain functions over what may be a NaN; the document's steps likewise. The contracts of package rate's small functions: isNumber, isPositive, number. -/
import Derived.Test.YtkcnkhdbojdhgaaGreatHav
import Derived.Test.YtkcnkhdbojdhgaaGreatHau
import Derived.Test.YtkcnkhdbojdhgaaGreatHaw
import Derived.Test.YtkcnkhdbojdhgaaGreatHam
import Derived.Test.YtkcnkhdbojdhgaaGreatHak
namespace Go.Proofs.YtkcnkhdbojdhgaaGreat
open Go.RowKit

structure Bd (x c : Nat) : Prop where
  num : NumB x
  lt : x < 18446744073709551616
  lo : -(vI c) ≤ vI x
  hi : vI x ≤ vI c
theorem flip_neg {c : Nat} (hc : NumB c) (h : c < 18446744073709551616) : NumB (flipN c) ∧ flipN c < 18446744073709551616 ∧ rankI (flipN c : Int) = -rankI (c : Int) ∧ vI (flipN c) = -(vI c) := by
  obtain ⟨h1, h2, h3⟩ := flip_parts h
  have hn : NumB (flipN c) := by unfold NumB at hc ⊢; rw [h2]; exact hc
  refine ⟨hn, h1, ?_, ?_⟩
  · rw [← sgn_rank h1 (num_nan hn), ← sgn_rank h (num_nan hc), h2, h3]
    unfold sgn
    cases (c / 9223372036854775808 % 2 == 1) <;> simp
  · unfold vI
    rw [h2, h3]
    cases (c / 9223372036854775808 % 2 == 1) <;> simp
theorem bd_of {r c : Nat} {k : Int} (hr : RkW r k) (hc : NumB c) (h : c < 18446744073709551616) (h1 : -rankI (c : Int) ≤ k) (h2 : k ≤ rankI (c : Int)) : Bd r c := by
  obtain ⟨f1, f2, f3, f4⟩ := flip_neg hc h
  have hk := rank_num hc h
  have hn : NumB r := num_rank hr (by omega) (by omega)
  refine ⟨hn, hr.2.1, ?_, ?_⟩
  · rw [← f4]
    refine (rank_le_iff f1 hn f2 hr.2.1).1 ?_
    rw [f3, hr.1]; exact h1
  · refine (rank_le_iff hn hc hr.2.1 h).1 ?_
    rw [hr.1]; exact h2
theorem add_bd {x y a b c : Nat} (hx : Bd x a) (hy : Bd y b) (ha : NumB a) (hb : NumB b) (hc : NumB c) (e : floatBits .add .f64 a b = some c) : ∃ r, floatBits .add .f64 x y = some r ∧ Bd r c := by
  obtain ⟨r, e1, k1⟩ := add_rank hx.num hy.num
  have k2 := step_fit (add_rank ha hb) e
  have := hx.lo; have := hx.hi; have := hy.lo; have := hy.hi
  refine ⟨r, e1, bd_of k1 hc k2.2.1 ?_ ?_⟩
  · rw [k2.1, ← rnd_neg]; exact rnd_mono _ (by omega)
  · rw [k2.1]; exact rnd_mono _ (by omega)
theorem sub_bd {x y a b c : Nat} (hx : Bd x a) (hy : Bd y b) (ha : NumB a) (hb : NumB b) (hc : NumB c) (e : floatBits .add .f64 a b = some c) : ∃ r, floatBits .sub .f64 x y = some r ∧ Bd r c := by
  obtain ⟨r, e1, k1⟩ := sub_rank hx.num hy.num
  have k2 := step_fit (add_rank ha hb) e
  have := hx.lo; have := hx.hi; have := hy.lo; have := hy.hi
  refine ⟨r, e1, bd_of k1 hc k2.2.1 ?_ ?_⟩
  · rw [k2.1, ← rnd_neg]; exact rnd_mono _ (by omega)
  · rw [k2.1]; exact rnd_mono _ (by omega)
theorem mul_bd {x y a b c : Nat} (hx : Bd x a) (hy : Bd y b) (ha : NumB a) (hb : NumB b) (hc : NumB c) (e : floatBits .mul .f64 a b = some c) : ∃ r, floatBits .mul .f64 x y = some r ∧ Bd r c := by
  obtain ⟨r, e1, k1⟩ := mul_rank hx.num hy.num
  have k2 := step_fit (mul_rank ha hb) e
  obtain ⟨l, u⟩ := abs_mul_le hx.lo hx.hi hy.lo hy.hi
  refine ⟨r, e1, bd_of k1 hc k2.2.1 ?_ ?_⟩
  · rw [k2.1, ← rnd_neg]; exact rnd_mono _ l
  · rw [k2.1]; exact rnd_mono _ u
theorem vI_abs (x : Nat) : vI x = (aV x : Int) ∨ vI x = -(aV x : Int) := by
  rw [vI_sg]; unfold sgZ
  cases sB x
  · exact Or.inl rfl
  · exact Or.inr rfl
theorem quo_bd {x y a d c : Nat} (hx : Bd x a) (hy : NumB y) (hd : vI d ≤ vI y) (d0 : 0 < vI d) (ha : NumB a) (hdn : NumB d) (hc : NumB c) (e : floatBits .quo .f64 a d = some c) : ∃ r, floatBits .quo .f64 x y = some r ∧ Bd r c := by
  obtain ⟨s1, e1, z1⟩ := sB_pos (b := y) (by omega)
  obtain ⟨s2, e2, z2⟩ := sB_pos d0
  obtain ⟨r, e3, k3⟩ := quo_rank hx.num hy z1
  have k4 := step_fit (quo_rank ha hdn z2) e
  have a0 : 0 ≤ vI a := by have := hx.lo; have := hx.hi; omega
  have hax : aV x ≤ aV a := by
    have h1 := hx.lo
    have h2 := hx.hi
    rcases vI_abs x with h | h <;> rcases vI_abs a with h' | h' <;> omega
  have hq : qR (aV x) (aV y) ≤ qR (aV a) (aV d) := Nat.le_trans (qR_up hax) (qR_down (by omega) (by omega))
  have hrc : rankI (c : Int) = (qR (aV a) (aV d) : Int) := by
    rw [k4.1, s2]
    by_cases hz : aV a = 0
    · have : qR (aV a) (aV d) = 0 := by unfold qR; rw [if_pos hz]
      rw [this]; unfold sgZ; split <;> simp
    · have : sB a = false := by
        have h1 := vI_sg a
        cases hs : sB a with
        | false => rfl
        | true => rw [hs] at h1; unfold sgZ at h1; simp at h1; omega
      rw [this]; rfl
  refine ⟨r, e3, bd_of k3 hc k4.2.1 ?_ ?_⟩
  · rw [hrc]; unfold sgZ; split <;> omega
  · rw [hrc]; unfold sgZ; split <;> omega
theorem bd_bits {x c : Nat} (h : x ≤ c) (hc : c < 9218868437227405312) : Bd x c := by
  have hx : NumB x := by unfold NumB; omega
  have hn : NumB c := by unfold NumB; omega
  have r1 := (rk_pos (r := x) (by omega)).1
  have r2 := (rk_pos (r := c) (by omega)).1
  have r0 : rankI ((0 : Nat) : Int) = 0 := by decide
  have v0 : vI 0 = 0 := by decide +kernel
  have n0 : NumB 0 := by unfold NumB; decide
  have h1 := (rank_le_iff hx hn (by omega) (by omega)).1 (by rw [r1, r2]; omega)
  have h2 := (rank_le_iff n0 hx (by omega) (by omega)).1 (by rw [r0, r1]; omega)
  have h3 := (rank_le_iff n0 hn (by omega) (by omega)).1 (by rw [r0, r2]; omega)
  rw [v0] at h2 h3
  exact ⟨hx, by omega, by omega, h1⟩
end Go.Proofs.YtkcnkhdbojdhgaaGreat
namespace Go.Proofs.YtkcnkhdbojdhgaaGreat
open Go.RowKit

theorem horn_bd {cs : List Nat} {x z : Nat} {B M : Nat → Nat} {n : Nat} (hx : Bd x z) (hz : NumB z) (h0 : Bd (cs.getD (cs.length - 1) 0) (B 0)) (hB : ∀ i, i ≤ n → NumB (B i)) (hM : ∀ i, i < n → NumB (M i)) (hc : ∀ i, i < n → Bd (cs.getD (cs.length - 2 - i) 0) 4607182418800017408)
    (e1 : ∀ i, i < n → floatBits .mul .f64 (B i) z = some (M i)) (e2 : ∀ i, i < n → floatBits .add .f64 (M i) 4607182418800017408 = some (B (i + 1))) : ∀ i, i ≤ n → ∃ r, hornAt cs x i = some r ∧ Bd r (B i) := by
  intro i
  induction i with
  | zero => exact fun _ => ⟨_, rfl, h0⟩
  | succ i ih =>
    intro hi
    obtain ⟨r, hr, hb⟩ := ih (by omega)
    obtain ⟨m, hm, hbm⟩ := mul_bd hb hx (hB i (by omega)) hz (hM i (by omega)) (e1 i (by omega))
    obtain ⟨s, hs, hbs⟩ := add_bd hbm (hc i (by omega)) (hM i (by omega)) (by unfold NumB; decide) (hB (i + 1) hi) (e2 i (by omega))
    refine ⟨s, ?_, hbs⟩
    show stepO x (hornAt cs x i) _ = some s
    rw [hr]
    show ((some r).bind fun p => floatBits .mul .f64 p x).bind _ = some s
    rw [show ((some r).bind fun p => floatBits .mul .f64 p x) = floatBits .mul .f64 r x from rfl, hm]
    exact hs
def nineN : Nat → Nat
  | 0 => 1
  | n + 1 => 9 * nineN n + 1
def nineB (i : Nat) : Nat := fi (nineN i : Int)
def nineM (i : Nat) : Nat := fi ((9 * nineN i : Nat) : Int)
theorem nine_fit : ∀ i, i < 11 → (nineB i) % 9223372036854775808 < 9218868437227405312 ∧ (nineM i) % 9223372036854775808 < 9218868437227405312 ∧ floatBits .mul .f64 (nineB i) 4621256167635550208 = some (nineM i) ∧ floatBits .add .f64 (nineM i) 4607182418800017408 = some (nineB (i + 1)) := by decide +kernel
theorem ln_coef : ∀ i, i < 11 → lnL.getD i 0 ≤ 4607182418800017408 := by decide +kernel
theorem horn_ln {z : Nat} (hz : Bd z 4621256167635550208) : ∃ h, hornO lnL z = some h ∧ Bd h (nineB 10) := by
  have hb := horn_bd (cs := lnL) (x := z) (z := 4621256167635550208) (B := nineB) (M := nineM) (n := 10) hz (by unfold NumB; decide) (bd_bits (ln_coef _ (by rw [lnL_len]; decide)) (by decide)) (fun i hi => (nine_fit i (by omega)).1) (fun i hi => (nine_fit i (by omega)).2.1) (fun i hi => bd_bits (ln_coef _ (by rw [lnL_len]; omega)) (by decide)) (fun i hi => (nine_fit i (by omega)).2.2.1) (fun i hi => (nine_fit i (by omega)).2.2.2) 10 (Nat.le_refl _)
  obtain ⟨r, hr, hb⟩ := hb
  refine ⟨r, ?_, hb⟩
  unfold hornO
  rw [if_neg (by rw [lnL_len]; decide), lnL_len]; exact hr
theorem lnM_rng {N : Nat} (h0 : N ≠ 0) (h : N < 9007199254740992) : lnM N ≤ 4611686018427387904 := by
  obtain ⟨a, b⟩ := oneB_rng h0 h
  unfold lnM
  split <;> omega
theorem fi_bd {k : Int} (h1 : -2000 ≤ k) (h2 : k ≤ 2000) : Bd (fi k) (fi 2000) := by
  obtain ⟨K, hK⟩ : ∃ K, K = 1074 := ⟨_, rfl⟩
  obtain ⟨v1, n1, _, l1⟩ := vI_fi (m := k) hK (by omega) (by omega)
  obtain ⟨v2, _, _, _⟩ := vI_fi (m := 2000) hK (by decide) (by decide)
  have p : (0 : Int) ≤ ((2 ^ K : Nat) : Int) := Int.natCast_nonneg _
  refine ⟨n1, l1, ?_, ?_⟩
  · rw [v1, v2, ← Int.neg_mul]; exact Int.mul_le_mul_of_nonneg_right (by omega) p
  · rw [v1, v2]; exact Int.mul_le_mul_of_nonneg_right h2 p
theorem dec_num (x : Nat) (h : decide (x % 9223372036854775808 < 9218868437227405312) = true) : NumB x := by unfold NumB; exact of_decide_eq_true h
theorem ln_number {N a b hi lo : Nat} {k : Int} (h0 : N ≠ 0) (h : N < 9007199254740992) (hk : -2000 ≤ k ∧ k ≤ 2000) (q1 : floatBits .sub .f64 (lnM N) 4607182418800017408 = some a) (q2 : floatBits .add .f64 (lnM N) 4607182418800017408 = some b) (q8 : floatBits .mul .f64 (fi k) 4604418534311723008 = some hi) (q9 : floatBits .mul .f64 (fi k) 4461442080421002358 = some lo) : ∃ y, lnO a b hi lo = some y ∧ NumB y := by
  have hm : Bd (lnM N) 4611686018427387904 := bd_bits (lnM_rng h0 h) (by decide)
  have ho : Bd 4607182418800017408 4607182418800017408 := bd_bits (Nat.le_refl _) (by decide)
  have n1 : NumB 4607182418800017408 := dec_num _ (by decide)
  have n2 : NumB 4611686018427387904 := dec_num _ (by decide)
  have n3 : NumB 4613937818241073152 := dec_num _ (by decide)
  obtain ⟨a', ea, ba⟩ := sub_bd (c := 4613937818241073152) hm ho n2 n1 n3 (by decide +kernel)
  obtain rfl := Option.some.inj (ea.symm.trans q1)
  obtain ⟨b', eb, bb⟩ := add_bd (c := 4613937818241073152) hm ho n2 n1 n3 (by decide +kernel)
  obtain rfl := Option.some.inj (eb.symm.trans q2)
  have v0 : vI 0 = 0 := by decide +kernel
  have n0 : NumB 0 := by unfold NumB; decide
  have m0 : 0 ≤ vI (lnM N) := by
    have r1 := (rk_pos (r := lnM N) (by have := lnM_rng h0 h; omega)).1
    have := (rank_le_iff n0 hm.num (by decide) hm.lt).1 (by rw [r1, show rankI ((0 : Nat) : Int) = 0 by decide]; omega)
    rw [v0] at this; exact this
  have hone : floatBits .add .f64 0 4607182418800017408 = some 4607182418800017408 := by decide +kernel
  have b1 : vI 4607182418800017408 ≤ vI b' := by
    obtain ⟨r, e, kr⟩ := add_rank n0 n1
    rw [hone] at e
    obtain rfl := Option.some.inj e
    have kb := step_fit (add_rank hm.num n1) q2
    refine (rank_le_iff n1 bb.num (by decide) bb.lt).1 ?_
    rw [kr.1, kb.1]
    exact rnd_mono _ (by rw [v0]; omega)
  have one0 : 0 < vI 4607182418800017408 := by
    have := (rank_lt_iff n0 n1 (by decide) (by decide)).1 (by decide)
    rw [v0] at this; exact this
  obtain ⟨s, es, bs⟩ := quo_bd (c := 4613937818241073152) ba bb.num b1 one0 n3 n1 n3 (by decide +kernel)
  obtain ⟨s2, es2, bs2⟩ := mul_bd (c := 4618441417868443648) (bd_bits (x := 4611686018427387904) (Nat.le_refl _) (by decide)) bs n2 n3 (dec_num _ (by decide)) (by decide +kernel)
  obtain ⟨z, ez, bz⟩ := mul_bd (c := 4621256167635550208) bs bs n3 n3 (dec_num _ (by decide)) (by decide +kernel)
  obtain ⟨hh, eh, bh⟩ := horn_ln bz
  obtain ⟨v, ev, bv⟩ := mul_bd (c := fi ((6 * nineN 10 : Nat) : Int)) bs2 bh (dec_num _ (by decide)) (nine_fit 10 (by decide)).1 (dec_num _ (by decide +kernel)) (by decide +kernel)
  have bk := fi_bd hk.1 hk.2
  have nk : NumB (fi 2000) := dec_num _ (by decide +kernel)
  obtain ⟨hi', ehi, bhi⟩ := mul_bd (c := fi 2000) bk (bd_bits (x := 4604418534311723008) (c := 4607182418800017408) (by decide) (by decide)) nk n1 nk (by decide +kernel)
  obtain rfl := Option.some.inj (ehi.symm.trans q8)
  obtain ⟨lo', elo, blo⟩ := mul_bd (c := fi 2000) bk (bd_bits (x := 4461442080421002358) (c := 4607182418800017408) (by decide) (by decide)) nk n1 nk (by decide +kernel)
  obtain rfl := Option.some.inj (elo.symm.trans q9)
  obtain ⟨c, ec, bc⟩ := add_bd (c := fi ((6 * nineN 10 + 2000 : Nat) : Int)) bv blo (dec_num _ (by decide +kernel)) nk (dec_num _ (by decide +kernel)) (by decide +kernel)
  obtain ⟨y, ey, by'⟩ := add_bd (c := fi ((6 * nineN 10 + 4000 : Nat) : Int)) bhi bc nk (dec_num _ (by decide +kernel)) (dec_num _ (by decide +kernel)) (by decide +kernel)
  refine ⟨y, ?_, by'.num⟩
  unfold lnO
  rw [es, show opO .mul (some 4611686018427387904) (some s) = _ from es2, show opO .mul (some s) (some s) = _ from ez, show ((some z).bind fun z => hornO lnL z) = _ from eh, show opO .mul (some s2) (some hh) = _ from ev, show opO .add (some v) (some lo') = _ from ec]
  exact ey
end Go.Proofs.YtkcnkhdbojdhgaaGreat
namespace Go.Proofs.YtkcnkhdbojdhgaaGreat
open Go.RowKit

set_option maxHeartbeats 800000 in
theorem refLn_nan (u : Int) (w : World) (h : U64 u) (hc : nanB u = true ∨ (nanB u = false ∧ sgB u = true ∧ (szI u == 0) = false)) :
    Calls Tryz.prog 140 #[.int .u64 u] w fun e w' => e = .returned (.int .u64 9221120237041090561) ∧ w' = w := by
  rcases hc with h1 | ⟨h1, h2, h3⟩
  · have HN := hideS (refNaN_any u · h)
    rw [h1] at HN
    clear h h1
    go_enter Tryz.func140, Tryz.ntmps140
    go_wp2_with fail
    refine (HN.out _).mono ?_
    rintro e w' ⟨rfl, rfl⟩
    go_wp2_with fail
    go_ret
    exact ⟨rfl, rfl⟩
  · have HN := hideS (refNaN_any u · h)
    have HNg : Hid (∀ w, Calls Tryz.prog 143 #[.int .u64 u] w fun e w' => e = .returned (.bool true) ∧ w' = w) := fun w => by
      have := refNegative_any u w
      rw [h2] at this; exact this
    have HSz := hideS (refSize_any u · h)
    have h4 : (szI u != 0) = true := by rw [bne, h3]; rfl
    rw [h1] at HN
    clear h h1 h2
    go_enter Tryz.func140, Tryz.ntmps140
    go_wp2_with fail
    refine (HN.out _).mono ?_
    rintro e w' ⟨rfl, rfl⟩
    go_wp2_with fail
    refine (HNg.out _).mono ?_
    rintro e w' ⟨rfl, rfl⟩
    go_wp2_with fail
    refine (HSz.out _).mono ?_
    rintro e w' ⟨rfl, rfl⟩
    go_wp2_with fail
    go_ret
    exact ⟨rfl, rfl⟩

set_option maxHeartbeats 800000 in
theorem refLn_zero (u : Int) (w : World) (h : U64 u) (h1 : nanB u = false) (h3 : (szI u == 0) = true) :
    Calls Tryz.prog 140 #[.int .u64 u] w fun e w' => e = .returned (.int .u64 18442240474082181120) ∧ w' = w := by
  have HN := hideS (refNaN_any u · h)
  have HSz := hideS (refSize_any u · h)
  have HF := hideS fun w => refFlip_at 9218868437227405312 9218868437227405312 18442240474082181120 w rfl (by unfold U64; omega) rfl
  have h4 : (szI u != 0) = false := by rw [bne, h3]; rfl
  rw [h1] at HN
  cases h2 : sgB u
  all_goals
    have HNg : Hid (∀ w, Calls Tryz.prog 143 #[.int .u64 u] w fun e w' => e = .returned (.bool (sgB u)) ∧ w' = w) := fun w => refNegative_any u w
    rw [h2] at HNg
    clear h1 h2
    go_enter Tryz.func140, Tryz.ntmps140
    go_wp2_with fail
    refine (HN.out _).mono ?_
    rintro e w' ⟨rfl, rfl⟩
    go_wp2_with fail
    refine (HNg.out _).mono ?_
    rintro e w' ⟨rfl, rfl⟩
    go_wp2_with (first | (go_at_call 96; refine (HSz.out _).mono ?_; rintro e w' ⟨rfl, rfl⟩) | (go_at_call 105; refine (HF.out _).mono ?_; rintro e w' ⟨rfl, rfl⟩))
    go_ret
    exact ⟨rfl, rfl⟩

set_option maxHeartbeats 800000 in
theorem refLn_inf (u : Int) (w : World) (h : U64 u) (h1 : nanB u = false) (h2 : sgB u = false) (h3 : (szI u == 0) = false) (h4 : infB u = true) :
    Calls Tryz.prog 140 #[.int .u64 u] w fun e w' => e = .returned (.int .u64 u) ∧ w' = w := by
  have HN := hideS (refNaN_any u · h)
  have HSz := hideS (refSize_any u · h)
  have HI := hideS (refInf_any u · h)
  have HNg : Hid (∀ w, Calls Tryz.prog 143 #[.int .u64 u] w fun e w' => e = .returned (.bool false) ∧ w' = w) := fun w => by
    have := refNegative_any u w
    rw [h2] at this; exact this
  rw [h1] at HN
  rw [h4] at HI
  clear h h1 h2 h4
  go_enter Tryz.func140, Tryz.ntmps140
  go_wp2_with fail
  refine (HN.out _).mono ?_
  rintro e w' ⟨rfl, rfl⟩
  go_wp2_with fail
  refine (HNg.out _).mono ?_
  rintro e w' ⟨rfl, rfl⟩
  go_wp2_with (first | (go_at_call 96; refine (HSz.out _).mono ?_; rintro e w' ⟨rfl, rfl⟩) | (go_at_call 94; refine (HI.out _).mono ?_; rintro e w' ⟨rfl, rfl⟩))
  go_ret
  exact ⟨rfl, rfl⟩

structure BothL (x : Nat) (u z : Int) : Prop where
  prog : ∀ w, Calls Tryz.prog 272 #[.float .f64 x] w fun e w' => ∃ y, e = .returned (.float .f64 y) ∧ (sameB (y : Int) z = true ∧ U64 (y : Int)) ∧ Below w.heap.size w w'
  doc : ∀ w, Calls Tryz.prog 140 #[.int .u64 u] w fun e w' => e = .returned (.int .u64 z) ∧ Below w.heap.size w w'
  uz : U64 z
theorem bothL_of {x : Nat} {u z : Int} {y : Nat} (hp : ∀ w, Calls Tryz.prog 272 #[.float .f64 x] w fun e w' => e = .returned (.float .f64 y) ∧ w' = w) (hd : ∀ w, Calls Tryz.prog 140 #[.int .u64 u] w fun e w' => e = .returned (.int .u64 z) ∧ w' = w) (hz : z = (y : Int)) (hy : U64 (y : Int)) : BothL x u z :=
  ⟨fun w => (hp w).mono fun _ _ ⟨a, b⟩ => ⟨y, a, ⟨by rw [hz]; exact sameB_refl _, hy⟩, by rw [b]; exact Below.refl _ _⟩, fun w => (hd w).mono fun _ _ ⟨a, b⟩ => ⟨a, by rw [b]; exact Below.refl _ _⟩, by rw [hz]; exact hy⟩
structure BothO (x : Nat) (u : Int) (o : Option Nat) : Prop where
  prog : ∀ w, Calls Tryz.prog 272 #[.float .f64 x] w fun e w' => ∃ y, e = .returned (.float .f64 y) ∧ Ag o y ∧ Below w.heap.size w w'
  doc : ∀ w, Calls Tryz.prog 140 #[.int .u64 u] w fun e w' => e = .returned (.int .u64 (cn o)) ∧ Below w.heap.size w w'
  lt : cn o < 18446744073709551616
  nan : nanB (x : Int) = true → o = none
  fin : NumB x → sB x = false → x % 9223372036854775808 ≠ 0 → ∃ y, o = some y ∧ NumB y
theorem bothO_of {x : Nat} {u z : Int} {y : Nat} (hp : ∀ w, Calls Tryz.prog 272 #[.float .f64 x] w fun e w' => e = .returned (.float .f64 y) ∧ w' = w) (hd : ∀ w, Calls Tryz.prog 140 #[.int .u64 u] w fun e w' => e = .returned (.int .u64 z) ∧ w' = w) (hz : z = (y : Int)) (hy : U64 (y : Int)) (hn : nanB (x : Int) = false) (hc : ¬ (NumB x ∧ x % 9223372036854775808 ≠ 0)) : BothO x u (some y) :=
  ⟨fun w => (hp w).mono fun _ _ ⟨a, b⟩ => ⟨y, a, rfl, by rw [b]; exact Below.refl _ _⟩, fun w => (hd w).mono fun _ _ ⟨a, b⟩ => ⟨by rw [a, hz]; rfl, by rw [b]; exact Below.refl _ _⟩, by have := hy.2; rw [cn_some]; omega, fun a => (by rw [hn] at a; cases a), fun a _ b => absurd ⟨a, b⟩ hc⟩
theorem bothO_nan {x : Nat} {u : Int} {y : Nat} (hp : ∀ w, Calls Tryz.prog 272 #[.float .f64 x] w fun e w' => e = .returned (.float .f64 y) ∧ w' = w) (hd : ∀ w, Calls Tryz.prog 140 #[.int .u64 u] w fun e w' => e = .returned (.int .u64 9221120237041090561) ∧ w' = w) (hn : nanB (y : Int) = true := by first | assumption | decide) (hy : y < 18446744073709551616 := by first | assumption | decide) (hc : NumB x → sB x = true) : BothO x u none :=
  ⟨fun w => (hp w).mono fun _ _ ⟨a, b⟩ => ⟨y, a, ⟨hn, hy⟩, by rw [b]; exact Below.refl _ _⟩, fun w => (hd w).mono fun _ _ ⟨a, b⟩ => ⟨by rw [a]; rfl, by rw [b]; exact Below.refl _ _⟩, by rw [cn_none]; omega, fun _ => rfl, fun a b _ => by rw [hc a] at b; cases b⟩

theorem ln_bothO (x : Nat) (u : Int) (hu : u = (x : Int)) (h : U64 x) : ∃ o, BothO x u o := by
  have hx64 : x < 18446744073709551616 := by have := h.2; omega
  have h' : U64 u := by rw [hu]; exact h
  have un : U64 ((9221120237041090561 : Nat) : Int) := by unfold U64; omega
  cases hn : nanB (x : Int) with
  | true => exact ⟨none, bothO_nan (fun w => ln_nan x w h hn) (fun w => refLn_nan u w h' (Or.inl (by rw [hu]; exact hn))) (hc := fun a => by rw [num_nan a] at hn; cases hn)⟩
  | false =>
    have hn' : nanB u = false := by rw [hu]; exact hn
    have cx := bits_class hu
    have z0 : U64 ((0 : Nat) : Int) := by unfold U64; omega
    have o1 := lt_rank h z0 hn (by decide)
    have o2 := eq_rank h z0 hn (by decide)
    have hr0 : rankI ((0 : Nat) : Int) = 0 := by decide
    rw [hr0] at o1 o2
    have hrk := sgn_rank hx64 hn
    have hsu : sgB u = sB x := by rw [hu]; exact sgB_nat hx64
    have hl := nan_false hn
    by_cases hz : x % 9223372036854775808 = 0
    · have hzu : (szI u == 0) = true := by rw [cx, hz]; rfl
      have hrz : rankI (x : Int) = 0 := by rw [← hrk, hz]; unfold sgn; split <;> rfl
      refine ⟨some 18442240474082181120, bothO_of (fun w => ln_zero x w h hn ?_ ?_) (fun w => refLn_zero u w h' hn' hzu) rfl (by unfold U64; omega) hn (fun a => a.2 hz)⟩
      · rw [o1, hrz]; rfl
      · rw [o2, hrz]; rfl
    · have hzu : (szI u == 0) = false := by rw [cx]; simp; omega
      cases hs : sB x with
      | true =>
        have hneg : rankI (x : Int) < 0 := by
          rw [← hrk]
          have hs' : (x / 9223372036854775808 % 2 == 1) = true := hs
          rw [hs']; unfold sgn; simp; omega
        refine ⟨none, bothO_nan (fun w => ln_neg x w h hn ?_) (fun w => refLn_nan u w h' (Or.inr ⟨hn', by rw [hsu]; exact hs, hzu⟩)) (hc := fun _ => hs)⟩
        rw [o1]; exact decide_eq_true hneg
      | false =>
        have hs' : (x / 9223372036854775808 % 2 == 1) = false := hs
        have hpos : rankI (x : Int) = ((x % 9223372036854775808 : Nat) : Int) := by rw [← hrk, hs']; rfl
        have a1 : (FloatKind.f64.format.order x 0 == some .lt) = false := by rw [o1, hpos, decide_eq_false_iff_not]; omega
        have a2 : (FloatKind.f64.format.order x 0 == some .eq) = false := by rw [o2, hpos, decide_eq_false_iff_not]; omega
        have um : U64 ((9218868437227405311 : Nat) : Int) := by unfold U64; omega
        have o3 := gt_rank h um hn (by decide)
        have hrm : rankI ((9218868437227405311 : Nat) : Int) = 9218868437227405311 := by decide
        rw [hrm, hpos] at o3
        by_cases hinf : x % 9223372036854775808 = 9218868437227405312
        · refine ⟨some x, ?_⟩
          refine bothO_of (y := x) (fun w => ln_inf x w h hn a1 a2 ?_) (fun w => refLn_inf u w h' hn' (by rw [hsu]; exact hs) hzu (by unfold infB; rw [cx, hinf]; rfl)) hu h hn (fun a => by have := a.1; unfold NumB at this; omega)
          rw [o3]; exact decide_eq_true (by omega)
        · have hxn : NumB x := by unfold NumB; omega
          have a3 : (FloatKind.f64.format.order x 9218868437227405311 == some .gt) = false := by rw [o3, decide_eq_false_iff_not]; omega
          have hio : infB u = false := by unfold infB; rw [cx]; simp; omega
          -- its real
          have hN0 : mg (x % 9223372036854775808) ≠ 0 := mg_pos hz
          have hpl : pl (x % 9223372036854775808) ≤ 2045 := by unfold pl; omega
          obtain ⟨N, hN⟩ : ∃ N, N = mg (x % 9223372036854775808) := ⟨_, rfl⟩
          obtain ⟨e, he⟩ : ∃ e : Int, e = -1074 + (pl (x % 9223372036854775808) : Int) := ⟨_, rfl⟩
          have ho : OfR x false N e := ⟨by rw [hN]; exact mg_lt _, by omega, by omega, by rw [hN, he]; unfold aV V; congr 2; omega, fun _ => hs.symm, fun _ => ⟨hN, he⟩⟩
          rw [← hN] at hN0
          have hlt := ho.lt
          have hlo := ho.lo
          have hhi := ho.hi
          have hlg : N.log2 ≤ 52 := by have := (Nat.log2_lt hN0).2 (show N < 2 ^ 53 from hlt); omega
          have hk : -2000 ≤ lnK N e ∧ lnK N e ≤ 2000 := by unfold lnK; split <;> omega
          have hm := (lnM_num hN0 hlt).1
          have n1 : NumB 4607182418800017408 := by unfold NumB; decide
          have fk := (aV_fi (a := lnK N e) rfl (by omega) (by omega)).2.2.1
          have q1 := sub_num hm n1
          have q2 := add_num hm n1
          have q8 := mul_num fk (show NumB 4604418534311723008 by unfold NumB; decide)
          have q9 := mul_num fk (show NumB 4461442080421002358 by unfold NumB; decide)
          refine ⟨_, ⟨fun w => (ln_ag x (lnM N) _ _ _ _ _ (lnK N e) w h hn a1 a2 a3 (fun w => about1_any x N e h hxn ho hN0 w) q1 q2 rfl q8 q9).mono ?_, fun w => refLn_mid x N _ _ _ _ u e _ w hu h' hn' (by rw [hsu]; exact hs) hzu hio hxn ho hN0 q1 q2 q8 q9 rfl, opO_lt (by simp) _ _, fun a => (by rw [hn] at a; cases a), fun _ _ _ => ln_number hN0 hlt hk q1 q2 q8 q9⟩⟩
          rintro r w' ⟨y, rfl, hag, hb⟩
          exact ⟨y, rfl, hag, hb⟩

end Go.Proofs.YtkcnkhdbojdhgaaGreat
namespace Go.Proofs.YtkcnkhdbojdhgaaGreat
open Go.RowKit

end Go.Proofs.YtkcnkhdbojdhgaaGreat
namespace Go.Proofs.YtkcnkhdbojdhgaaGreat
open Go.RowKit

theorem same_nan {a b : Int} (h : sameB a b = true) (hb : nanB b = true) : nanB a = true := by
  unfold sameB at h
  rw [Bool.or_eq_true] at h
  rcases h with h | h
  · rw [of_decide_eq_true h]; exact hb
  · exact (Bool.and_eq_true_iff.1 h).1

structure ExpR (x : Nat) (o : Option Nat) : Prop where
  prog : ∀ w, Calls Tryz.prog 271 #[.float .f64 x] w fun e w' => ∃ y, e = .returned (.float .f64 y) ∧ (Ag o y ∧ y < 18446744073709551616) ∧ Below w.heap.size w w'
  doc : Stp1 139 (x : Int) (cn o)
  nan : nanB (x : Int) = true → o = none
  num : nanB (x : Int) = false → ∃ y, o = some y ∧ y ≤ 9218868437227405312
theorem exp_ex (x : Nat) : ∃ o, x < 18446744073709551616 → ExpR x o := by
  by_cases h : x < 18446744073709551616
  · obtain ⟨y, z, hb, h1, h2⟩ := exp_bothP x (x : Int) rfl (u64_of_nat h)
    have hy : y < 18446744073709551616 := by have := hb.uy.2; omega
    cases hn : nanB (x : Int) with
    | true =>
      have hz := h1 hn
      have hny : nanB (y : Int) = true := same_nan hb.same (by rw [hz]; decide)
      exact ⟨none, fun _ => ⟨fun w => (hb.prog w).mono fun _ _ ⟨a, b⟩ => ⟨y, a, ⟨⟨hny, hy⟩, hy⟩, b⟩, fun w => (hb.doc w).mono fun _ _ ⟨a, b⟩ => ⟨by rw [a, hz]; rfl, b⟩, fun _ => rfl, fun a => by rw [hn] at a; cases a⟩⟩
    | false =>
      obtain ⟨h3, h4⟩ := h2 hn
      exact ⟨some y, fun _ => ⟨fun w => (hb.prog w).mono fun _ _ ⟨a, b⟩ => ⟨y, a, ⟨rfl, hy⟩, b⟩, fun w => (hb.doc w).mono fun _ _ ⟨a, b⟩ => ⟨by rw [a, h4]; rfl, b⟩, fun a => (by rw [hn] at a; cases a), fun _ => ⟨y, rfl, h3⟩⟩⟩
  · exact ⟨none, fun a => absurd a h⟩
noncomputable def expF (x : Nat) : Option Nat := Classical.choose (exp_ex x)
theorem expF_says {x : Nat} (h : x < 18446744073709551616) : ExpR x (expF x) := Classical.choose_spec (exp_ex x) h
structure LnR (x : Nat) (o : Option Nat) : Prop where
  prog : ∀ w, Calls Tryz.prog 272 #[.float .f64 x] w fun e w' => ∃ y, e = .returned (.float .f64 y) ∧ (Ag o y ∧ y < 18446744073709551616) ∧ Below w.heap.size w w'
  doc : Stp1 140 (x : Int) (cn o)
  lt : cn o < 18446744073709551616
  nan : nanB (x : Int) = true → o = none
  fin : NumB x → sB x = false → x % 9223372036854775808 ≠ 0 → ∃ y, o = some y ∧ NumB y
theorem ln_ex (x : Nat) : ∃ o, x < 18446744073709551616 → LnR x o := by
  by_cases h : x < 18446744073709551616
  · obtain ⟨o, hb⟩ := ln_bothO x (x : Int) rfl (u64_of_nat h)
    refine ⟨o, fun _ => ⟨fun w => (hb.prog w).mono ?_, hb.doc, hb.lt, hb.nan, hb.fin⟩⟩
    rintro _ w' ⟨y, rfl, hag, hbb⟩
    exact ⟨y, rfl, ⟨hag, ag_lt hag fun q hq => by have := hb.lt; rw [hq, cn_some] at this; exact this⟩, hbb⟩
  · exact ⟨none, fun a => absurd a h⟩
noncomputable def lnF (x : Nat) : Option Nat := Classical.choose (ln_ex x)
theorem lnF_says {x : Nat} (h : x < 18446744073709551616) : LnR x (lnF x) := Classical.choose_spec (ln_ex x) h
def AgU (o : Option Nat) (x : Nat) : Prop := Ag o x ∧ x < 18446744073709551616
theorem agU_some {x : Nat} (h : x < 18446744073709551616) : AgU (some x) x := ⟨rfl, h⟩
theorem AgU.u {o : Option Nat} {x : Nat} (h : AgU o x) : U64 (x : Int) := u64_of_nat h.2
theorem op_prog (op : BinOp) (ho : op = .add ∨ op = .sub ∨ op = .mul ∨ op = .quo) (t : TypeId) {o o' : Option Nat} {x y : Nat} (h : AgU o x) (h' : AgU o' y) (w : World) : ∃ r, (∃ q, (binOp op t (.float .f64 x) (.float .f64 y)).run Tryz.prog w = .ok (.float .f64 r) (w.drewN q)) ∧ AgU (opO op o o') r := by
  obtain ⟨r, hr, g⟩ := run_op_ag op ho t x y w
  rw [← opO_ag h.1 h'.1] at g
  refine ⟨r, hr, g, ?_⟩
  cases e : opO op o o' with
  | none => rw [e] at g; exact (ag_none g).2
  | some q => rw [e] at g; rw [ag_some g]; rw [opO_ag h.1 h'.1] at e; exact float_lt ho e
end Go.Proofs.YtkcnkhdbojdhgaaGreat
namespace Go.Proofs.YtkcnkhdbojdhgaaGreat
open Go.RowKit

def endN (x : Nat) : Nat := if finB (x : Int) = true ∧ szI (x : Int) ≠ 0 then x else 0
end Go.Proofs.YtkcnkhdbojdhgaaGreat
