/- What Factor and Yield tell of no rate, of no time, of the factor 1. -/
import Derived.Test.YtbkmbdbjeiffpaaRaH
import Derived.Test.YtbkmbdbjeiffpaaFAwake
import Derived.Test.YtbkmbdbjeiffpaaHbc
import Derived.Eval
namespace Go.Proofs.Ytbkmbdbjeiffpaa
open Go.RowKit

/-- A call ends in one way. -/
theorem calls_same {f : Nat} {args : Array Value} {w : World} {R R' : Value → World → Prop} (hi : Try.prog.inits.idxOf? f = none) (h : Calls Try.prog f args w fun e w' => ∃ v, e = .returned v ∧ R v w') (h' : Calls Try.prog f args w fun e w' => ∃ v, e = .returned v ∧ R' v w') : ∃ v w', R v w' ∧ R' v w' := by
  have turn : ∀ {Q : Value → World → Prop}, (Calls Try.prog f args w fun e w' => ∃ v, e = .returned v ∧ Q v w') → ∃ n v w', runN Try.prog n (lone (Frame.enter Try.prog f args .normal) [] w) = .ended (.done v) w' ∧ Q v w' := fun hq =>
    Calls.done (hq.mono fun e w' ⟨v, e1, r⟩ => by subst e1; exact r) hi
  obtain ⟨n, v, w1, e1, r1⟩ := turn h
  obtain ⟨m, u, w2, e2, r2⟩ := turn h'
  have key : ∀ {n m : Nat} {v u : Value} {w1 w2 : World} {M : Machine}, n ≤ m → runN Try.prog n M = .ended (.done v) w1 → runN Try.prog m M = .ended (.done u) w2 → v = u ∧ w1 = w2 := by
    intro n m v u w1 w2 M hnm e1 e2
    obtain ⟨k, rfl⟩ : ∃ k, m = n + k := ⟨m - n, by omega⟩
    rw [runN_add, e1] at e2
    simp at e2
    exact e2
  rcases Nat.le_total n m with c | c
  · obtain ⟨rfl, rfl⟩ := key c e1 e2
    exact ⟨v, w1, r1, r2⟩
  · obtain ⟨rfl, rfl⟩ := key c e2 e1
    exact ⟨u, w2, r1, r2⟩

theorem exp_fix {x y : Nat} (hx : x < 18446744073709551616) (hn : nanB (x : Int) = false) (w : World) (h : Calls Try.prog 60 #[.float .f64 x] w fun e w' => e = .returned (.float .f64 y) ∧ Below w.heap.size w w') : expF x = some y := by
  have hs := expF_says hx
  obtain ⟨v, w', ⟨a, _⟩, z, b, c⟩ := calls_same (R := fun v _ => v = .float .f64 y ∧ True) (R' := fun v _ => ∃ z, v = .float .f64 z ∧ Ag (expF x) z) (by kernel_rfl) (h.mono fun e w' ⟨a, _⟩ => ⟨_, a, rfl, trivial⟩) ((hs.prog w).mono fun e w' ⟨z, a, b, _⟩ => ⟨_, a, z, rfl, b.1⟩)
  rw [a] at b
  obtain rfl : y = z := by injection b
  obtain ⟨q, e, _⟩ := hs.num hn
  rw [e] at c ⊢
  rw [ag_some c]
theorem ln_fix {x y : Nat} (hx : x < 18446744073709551616) (hn : nanB (y : Int) = false) (w : World) (h : Calls Try.prog 61 #[.float .f64 x] w fun e w' => e = .returned (.float .f64 y) ∧ Below w.heap.size w w') : lnF x = some y := by
  have hs := lnF_says hx
  obtain ⟨v, w', ⟨a, _⟩, z, b, c⟩ := calls_same (R := fun v _ => v = .float .f64 y ∧ True) (R' := fun v _ => ∃ z, v = .float .f64 z ∧ Ag (lnF x) z) (by kernel_rfl) (h.mono fun e w' ⟨a, _⟩ => ⟨_, a, rfl, trivial⟩) ((hs.prog w).mono fun e w' ⟨z, a, b, _⟩ => ⟨_, a, z, rfl, b.1⟩)
  rw [a] at b
  obtain rfl : y = z := by injection b
  cases e : lnF x with
  | none => rw [e] at c; rw [(ag_none c).1] at hn; cases hn
  | some q => rw [e] at c; rw [ag_some c]

theorem exp_neg0 (w : World) : Calls Try.prog 60 #[.float .f64 9223372036854775808] w fun e w' => e = .returned (.float .f64 4607182418800017408) ∧ Below w.heap.size w w' := by
  have := exp_mid 9223372036854775808 9223372036854775808 4602678819172646912 0 0 0 9223372036854775808 9223372036854775808 4607182418800017408 0 w (by unfold U64; omega) (by decide) (by decide) (by decide) (by decide) (by decide) (by decide +kernel) (by decide +kernel) floor_half (by decide +kernel) (by decide +kernel) (by decide +kernel) (by decide +kernel) (by show _ = _; decide +kernel) (by show U64 _; unfold U64; omega) (by decide +kernel) (by omega) (by decide +kernel) (by decide +kernel)
  rw [show joinN (splM (4607182418800017408 : Nat)) (splE (4607182418800017408 : Nat) + 0) = 4607182418800017408 by decide +kernel] at this
  exact this
variable (w0 : World)
include w0
theorem expF_0 : expF 0 = some 4607182418800017408 := exp_fix (by decide) (by decide) w0 (exp0 w0)
theorem expF_n0 : expF 9223372036854775808 = some 4607182418800017408 := exp_fix (by decide) (by decide) w0 (exp_neg0 w0)
theorem lnF_1 : lnF 4607182418800017408 = some 0 := ln_fix (by decide) (by decide) w0 (ln1 w0)
/-- Exp of a nought, whatever its sign. -/
theorem exp_wrd (s : Bool) : expO (negO (some (wrd s 0))) = some 4607182418800017408 := by
  cases s
  · exact expF_n0 w0
  · exact expF_0 w0
omit w0
theorem one_wrd (s : Bool) : floatBits .add .f64 4607182418800017408 (wrd s 0) = some 4607182418800017408 := by cases s <;> decide +kernel
theorem sub_ones : opO .sub (some 4607182418800017408) (some one64) = some 0 := by
  show floatBits .sub .f64 4607182418800017408 4607182418800017408 = some 0
  decide +kernel
theorem one_le : leB (some 4607182418800017408) = false := by decide
theorem one_one : floatBits .quo .f64 4607182418800017408 4607182418800017408 = some 4607182418800017408 := by decide +kernel
/-- A nought times a number. -/
theorem zero_mul {t : Nat} (ht : NumB t) : ∃ s, floatBits .mul .f64 0 t = some (wrd s 0) := by
  refine ⟨sB 0 ^^ sB t, ?_⟩
  rw [mul_num (by unfold NumB; decide) ht, show aV 0 = 0 by decide +kernel, Nat.zero_mul]; rfl
theorem mul_zero {t z : Nat} (ht : NumB t) (hz : z % 9223372036854775808 = 0) : ∃ s, floatBits .mul .f64 t z = some (wrd s 0) := by
  refine ⟨sB t ^^ sB z, ?_⟩
  have : aV z = 0 := by unfold aV; rw [hz]; exact V_zero
  rw [mul_num ht (by unfold NumB; omega), this, Nat.mul_zero]; rfl
theorem wrd_mod (s : Bool) : wrd s 0 % 9223372036854775808 = 0 := by cases s <;> rfl
theorem sim_one {r t : Nat} {s : Bool} (h : floatBits .mul .f64 r t = some (wrd s 0)) : simO r t = some 4607182418800017408 := by
  have e : simB r t = some 4607182418800017408 := by
    unfold simB
    rw [show opO .mul (some r) (some t) = _ from h]
    exact one_wrd s
  unfold simO
  rw [e, one_le, if_neg (by decide)]
  exact one_one
theorem con_one (w0 : World) {r t : Nat} {s : Bool} (h : floatBits .mul .f64 r t = some (wrd s 0)) : conO r t = some 4607182418800017408 := by
  unfold conO
  rw [show opO .mul (some r) (some t) = _ from h]
  exact exp_wrd w0 s
theorem mW_quo (k : Int) : floatBits .quo .f64 0 (mW k) = some 0 := by
  unfold mW
  split
  · decide +kernel
  · split
    · decide +kernel
    · split <;> decide +kernel
abbrev max64 : Nat := 9218868437227405311
theorem max_num : NumB max64 := by unfold NumB; decide
theorem bd_max {x : Nat} (h : NumB x) (hl : x < 18446744073709551616) : Bd x max64 := by
  have hr := rank_num h hl
  have e : rankI ((max64 : Nat) : Int) = 9218868437227405311 := by decide
  exact bd_of ⟨rfl, hl, num_nan h⟩ max_num (by decide) (by rw [e]; omega) (by rw [e]; omega)
abbrev top64 : Nat := 4697254411347427328
theorem top_num : NumB top64 := by unfold NumB; decide
theorem ask_bd {r : Int} {t : Nat} (ht : t < 18446744073709551616) (ask : askB r (t : Int) = true) : Bd t top64 ∧ 0 ≤ rankI (t : Int) := by
  obtain ⟨_, h2, h3, h4⟩ := ask_cases ask
  have hn := num_fin h2
  have nn := num_nan hn
  unfold ltB at h3 h4
  rw [nn, show nanB 0 = false by decide, show rankI 0 = 0 by decide] at h3
  rw [nn, show nanB 4697254411347427328 = false by decide, show rankI 4697254411347427328 = 4697254411347427328 by decide] at h4
  simp at h3 h4
  have e : rankI ((top64 : Nat) : Int) = 4697254411347427328 := by decide
  exact ⟨bd_of ⟨rfl, ht, nn⟩ top_num (by decide) (by rw [e]; omega) (by rw [e]; omega), h3⟩
theorem mW_bd (k : Int) : Bd (mW k) 4622945017495814144 := by
  unfold mW
  split
  · exact bd_bits (by decide) (by decide)
  · split
    · exact bd_bits (by decide) (by decide)
    · split
      · exact bd_bits (by decide) (by decide)
      · exact bd_bits (by decide) (by decide)
theorem mt_bd (k : Int) {t : Nat} (ht : Bd t top64) : ∃ p, floatBits .mul .f64 (mW k) t = some p ∧ NumB p := by
  obtain ⟨r, e, b⟩ := mul_bd (c := fi 12582912) (mW_bd k) ht (by unfold NumB; decide) top_num (dec_num _ (by decide +kernel)) (by decide +kernel)
  exact ⟨r, e, b.num⟩
theorem zero_mul2 {z l : Nat} (hz : z % 9223372036854775808 = 0) (hl : NumB l) : ∃ s, floatBits .mul .f64 z l = some (wrd s 0) := by
  refine ⟨sB z ^^ sB l, ?_⟩
  have : aV z = 0 := by unfold aV; rw [hz]; exact V_zero
  rw [mul_num (by unfold NumB; omega) hl, this, Nat.zero_mul]; rfl
/-- No rate: the factor is 1. -/
theorem fac_rate (w0 : World) (k : Int) {t : Nat} (ht : Bd t top64) : facO k 0 t = some 4607182418800017408 := by
  unfold facO
  obtain ⟨s, hs⟩ := zero_mul ht.num
  split
  · exact sim_one hs
  · split
    · exact con_one w0 hs
    · have e : timB (mW k) 0 = some 4607182418800017408 := by
        unfold timB
        rw [show opO .quo (some 0) (some (mW k)) = _ from mW_quo k]
        exact one_wrd false
      obtain ⟨p, hp, hn⟩ := mt_bd k ht
      unfold timO
      rw [e, one_le, if_neg (by decide), show opO .mul (some (mW k)) (some t) = _ from hp, show lnO1 (some 4607182418800017408) = _ from lnF_1 w0]
      obtain ⟨s2, h2⟩ := mul_zero (z := 0) hn rfl
      rw [show opO .mul (some p) (some 0) = _ from h2]
      exact exp_wrd w0 s2
theorem one_pos : 0 < vI 4607182418800017408 := by
  have v0 : vI 0 = 0 := by decide +kernel
  have := (rank_lt_iff (a := 0) (b := 4607182418800017408) (by unfold NumB; decide) one_num (by decide) (by decide)).1 (by decide)
  rw [v0] at this; exact this
theorem mW_ge (k : Int) : vI 4607182418800017408 ≤ vI (mW k) := by
  refine (rank_le_iff one_num (mW_num k) (by decide) (mW_lt k)).1 ?_
  unfold mW
  split
  · decide
  · split
    · decide
    · split <;> decide
/-- 1 + r / m is a number. -/
theorem tim_num (k : Int) {r : Nat} (hr : NumB r) (hl : r < 18446744073709551616) : ∃ q b, floatBits .quo .f64 r (mW k) = some q ∧ NumB q ∧ q < 18446744073709551616 ∧ floatBits .add .f64 4607182418800017408 q = some b ∧ timB (mW k) r = some b ∧ NumB b ∧ b < 18446744073709551616 := by
  obtain ⟨q, e, bq⟩ := quo_bd (c := max64) (bd_max hr hl) (mW_num k) (mW_ge k) one_pos max_num one_num max_num (by decide +kernel)
  obtain ⟨b, e2, bb⟩ := add_bd (c := max64) (bd_bits (x := 4607182418800017408) (c := 4607182418800017408) (Nat.le_refl _) (by decide)) bq one_num max_num max_num (by decide +kernel)
  refine ⟨q, b, e, bq.num, bq.lt, e2, ?_, bb.num, bb.lt⟩
  unfold timB
  rw [show opO .quo (some r) (some (mW k)) = _ from e]
  exact e2
/-- Above -1 it is above 0. -/
theorem tim_pos (k : Int) {r q b : Nat} (hr : NumB r) (hl : r < 18446744073709551616) (e : floatBits .quo .f64 r (mW k) = some q) (hq : NumB q) (hq2 : q < 18446744073709551616) (e2 : floatBits .add .f64 4607182418800017408 q = some b) (h : ltB 13830554455654793216 (r : Int) = true) : 0 < rankI (b : Int) := by
  have n1 := num_nan hr
  unfold ltB at h
  rw [n1, show nanB 13830554455654793216 = false by decide, show rankI 13830554455654793216 = -4607182418800017408 by decide] at h
  simp at h
  have ns : NumB 13830554455654793215 := by unfold NumB; decide
  have rs : rankI ((13830554455654793215 : Nat) : Int) = -4607182418800017407 := by decide
  have v := (rank_le_iff ns hr (by decide) hl).1 (by rw [rs]; omega)
  have m0 : 0 < vI (mW k) := Int.lt_of_lt_of_le one_pos (mW_ge k)
  have cl : ∃ sm c, floatBits .quo .f64 13830554455654793215 (mW k) = some sm ∧ NumB sm ∧ sm < 18446744073709551616 ∧ floatBits .add .f64 4607182418800017408 sm = some c ∧ 0 < rankI (c : Int) := by
    unfold mW
    split
    · exact ⟨13830554455654793215, 4368491638549381120, by decide +kernel, by unfold NumB; decide, by decide, by decide +kernel, by decide⟩
    · split
      · exact ⟨13826050856027422719, 4602678819172646912, by decide +kernel, by unfold NumB; decide, by decide, by decide +kernel, by decide⟩
      · split
        · exact ⟨13821547256400052223, 4604930618986332160, by decide +kernel, by unfold NumB; decide, by decide, by decide +kernel, by decide⟩
        · exact ⟨13814041257021101397, 4606431818862122325, by decide +kernel, by unfold NumB; decide, by decide, by decide +kernel, by decide⟩
  obtain ⟨sm, c, h1, h2, h3, h4, h5⟩ := cl
  have k1 := quo_up ns hr (mW_num k) m0 v h1 e
  have k2 := (rank_le_iff h2 hq h3 hq2).1 k1
  have k3 := add_up one_num h2 hq k2 h4 e2
  omega
/-- No time: the factor is 1, or the rate alone is not fit. -/
theorem fac_time (w0 : World) (k : Int) {r : Nat} (hr : NumB r) (hl : r < 18446744073709551616) : facO k r 0 = some 4607182418800017408 ∨ (facO k r 0 = some 0 ∧ k ≠ 1 ∧ k ≠ 6 ∧ ltB 13830554455654793216 (r : Int) = false) := by
  obtain ⟨s, hs⟩ := mul_zero (z := 0) hr rfl
  unfold facO
  by_cases k1 : k = 1
  · rw [if_pos k1]; exact Or.inl (sim_one hs)
  rw [if_neg k1]
  by_cases k6 : k = 6
  · rw [if_pos k6]; exact Or.inl (con_one w0 hs)
  rw [if_neg k6]
  obtain ⟨q, b, e1, nq, q64, e2, e3, nb, b64⟩ := tim_num k hr hl
  unfold timO
  rw [e3]
  cases hb : leB (some b) with
  | true =>
    rw [if_pos rfl]
    refine Or.inr ⟨rfl, k1, k6, ?_⟩
    cases h : ltB 13830554455654793216 (r : Int) with
    | false => rfl
    | true =>
      have := tim_pos k hr hl e1 nq q64 e2 h
      rw [leB_some, num_nan nb] at hb
      simp at hb
      omega
  | false =>
    rw [if_neg (by decide)]
    rw [leB_some, num_nan nb] at hb
    simp at hb
    obtain ⟨c1, c2⟩ := rank_sign b64 (num_nan nb) hb
    obtain ⟨l, el, nl⟩ := (lnF_says b64).fin nb c1 c2
    obtain ⟨s2, h2⟩ := mul_zero (z := 0) (mW_num k) rfl
    obtain ⟨s3, h3⟩ := zero_mul2 (wrd_mod s2) nl
    rw [show lnO1 (some b) = _ from el, show opO .mul (some (mW k)) (some 0) = _ from h2, show opO .mul (some (wrd s2 0)) (some l) = _ from h3]
    exact Or.inl (exp_wrd w0 s3)
theorem wrd_num (s : Bool) : NumB (wrd s 0) := by unfold NumB; rw [wrd_mod]; decide
/-- Yield of the factor 1 is a nought. -/
theorem yie_one (w0 : World) (k : Int) {t : Nat} (ht : Bd t top64) (h0 : 0 < rankI (t : Int)) : ∃ s, yieO k 4607182418800017408 t = some (wrd s 0) := by
  obtain ⟨t1, t2⟩ := rank_sign ht.lt (num_nan ht.num) h0
  unfold yieO
  split
  · refine ⟨false ^^ sB t, ?_⟩
    unfold simY
    rw [show opO .quo (some one64) (some 4607182418800017408) = _ from one_one, show opO .sub (some 4607182418800017408) (some one64) = _ from sub_ones]
    exact quo_zero (x := 0) rfl ht.num t2
  · split
    · refine ⟨true ^^ sB t, ?_⟩
      unfold conY
      rw [show lnO1 (some 4607182418800017408) = _ from lnF_1 w0]
      exact quo_zero (x := 9223372036854775808) rfl ht.num t2
    · obtain ⟨p, hp, np⟩ := mt_bd k ht
      have p64 : p < 18446744073709551616 := float_lt (by simp) hp
      have v0 : vI 0 = 0 := by decide +kernel
      have hp0 : p % 9223372036854775808 ≠ 0 := by
        have n1 : NumB 1 := by unfold NumB; decide
        have v1 : 0 ≤ vI 1 := by
          have := (rank_le_iff (a := 0) (b := 1) (by unfold NumB; decide) n1 (by decide) (by decide)).1 (by decide)
          rw [v0] at this; exact this
        have vt := (rank_le_iff (a := 1) (b := t) n1 ht.num (by decide) ht.lt).1 (by rw [show rankI ((1 : Nat) : Int) = 1 by decide]; omega)
        have := mul_up one_num (mW_num k) n1 ht.num (Int.le_of_lt one_pos) v1 (mW_ge k) vt (show floatBits .mul .f64 4607182418800017408 1 = some 1 by decide +kernel) hp
        rw [show rankI ((1 : Nat) : Int) = 1 by decide] at this
        exact (rank_sign p64 (num_nan np) (by omega)).2
      have hq := quo_zero (x := 9223372036854775808) rfl np hp0
      obtain ⟨s2, h2⟩ := mul_zero (z := 0) (mW_num k) rfl
      refine ⟨s2, ?_⟩
      unfold timY
      rw [show lnO1 (some 4607182418800017408) = _ from lnF_1 w0, show negO (some 0) = some 9223372036854775808 from rfl, show opO .mul (some (mW k)) (some t) = _ from hp, show opO .quo (some 9223372036854775808) (some p) = _ from hq]
      have he : ∀ s : Bool, expO (some (wrd s 0)) = some 4607182418800017408 := fun s => by
        cases s
        · exact expF_0 w0
        · exact expF_n0 w0
      rw [he, show opO .sub (some 4607182418800017408) (some one64) = _ from sub_ones]
      exact h2
end Go.Proofs.Ytbkmbdbjeiffpaa
