/- The law's fits; a number less itself. -/
import Derived.Test.YtbkmbdbjeiffpaaRaO
namespace Go.Proofs.Ytbkmbdbjeiffpaa
open Go.RowKit

/-- A time that may be. -/
def fitB (t : Int) : Bool := !nanB t && decide (0 ≤ rankI t) && decide (rankI t ≤ 4697254411347427328)
theorem ord_three {x c : Nat} (h : U64 (x : Int)) (hc : U64 (c : Int)) (hn : nanB (x : Int) = false) (hm : nanB (c : Int) = false) : (FloatKind.f64.format.order x c == some .lt) = decide (rankI (x : Int) < rankI (c : Int)) ∧ (FloatKind.f64.format.order x c == some .eq) = decide (rankI (x : Int) = rankI (c : Int)) ∧ (FloatKind.f64.format.order x c == some .gt) = decide (rankI (c : Int) < rankI (x : Int)) := ⟨lt_rank h hc hn hm, eq_rank h hc hn hm, gt_rank h hc hn hm⟩

set_option maxHeartbeats 800000 in
theorem fits_any (t : Nat) (w : World) (h : U64 (t : Int)) :
    Calls Try.prog 14 #[.float .f64 t] w fun e w' => e = .returned (.bool (fitB (t : Int))) ∧ w' = w := by
  have hb : ∃ a b c d, (FloatKind.f64.format.order t 0 == some .gt) = a ∧ (FloatKind.f64.format.order t 0 == some .eq) = b ∧ (FloatKind.f64.format.order t 4697254411347427328 == some .lt) = c ∧ (FloatKind.f64.format.order t 4697254411347427328 == some .eq) = d ∧ fitB (t : Int) = ((a || b) && (c || d)) := by
    refine ⟨_, _, _, _, rfl, rfl, rfl, rfl, ?_⟩
    unfold fitB
    cases hn : nanB (t : Int) with
    | true => rw [order_nan_left hn, order_nan_left hn]; rfl
    | false =>
      obtain ⟨_, a2, a3⟩ := ord_three (c := 0) h (by unfold U64; omega) hn (by decide)
      obtain ⟨b1, b2, _⟩ := ord_three (c := 4697254411347427328) h (by unfold U64; omega) hn (by decide)
      rw [a2, a3, b1, b2, show rankI ((0 : Nat) : Int) = 0 by decide, show rankI ((4697254411347427328 : Nat) : Int) = 4697254411347427328 by decide]
      generalize rankI (t : Int) = k
      by_cases c1 : 0 < k <;> by_cases c2 : k = 0 <;> by_cases c3 : k < 4697254411347427328 <;> by_cases c4 : k = 4697254411347427328 <;> simp [c1, c2, c3, c4] <;> omega
  obtain ⟨a, b, c, d, h1, h2, h3, h4, e⟩ := hb
  rw [e]
  clear h e
  cases a <;> cases b <;> cases c <;> cases d
  all_goals
    go_enter Try.func14, Try.ntmps14
    go_wp2
    go_ret
    exact ⟨rfl, rfl⟩

instance (x : Nat) : Decidable (NumB x) := by unfold NumB; infer_instance
theorem sub_self {r : Nat} (h : NumB r) : floatBits .sub .f64 r r = some 0 := by
  rw [sub_num h h]
  unfold addR
  rw [if_pos (by omega)]
  cases (r / 9223372036854775808 % 2 == 1) <;> rfl
theorem sub_inf {r : Nat} (hr : r < 18446744073709551616) (h : ¬ NumB r) : floatBits .sub .f64 r r = none := by
  cases hn : nanB (r : Int) with
  | true => exact nan_left hn
  | false =>
    have hl := nan_false hn
    unfold NumB at h
    rcases (show r = 9218868437227405312 ∨ r = 18442240474082181120 by omega) with rfl | rfl
    · decide +kernel
    · decide +kernel
/-- r - r != 0: the step, and what the test tells. -/
theorem sub_test (r : Nat) (hr : r < 18446744073709551616) (w : World) : ∃ d, (∃ q, (binOp .sub 22 (.float .f64 r) (.float .f64 r)).run Try.prog w = .ok (.float .f64 d) (w.drewN q)) ∧ (FloatKind.f64.format.order d 0 != some .eq) = !decide (NumB r) := by
  obtain ⟨d, hd, g⟩ := op_prog .sub (by simp) 22 (agU_some hr) (agU_some hr) w
  refine ⟨d, hd, ?_⟩
  by_cases h : NumB r
  · rw [show opO .sub (some r) (some r) = _ from sub_self h] at g
    rw [ag_some g.1, decide_eq_true h]; decide +kernel
  · rw [show opO .sub (some r) (some r) = _ from sub_inf hr h] at g
    rw [order_nan_left (ag_none g.1).1, decide_eq_false h]; rfl
theorem fit_bd {t : Nat} (ht : t < 18446744073709551616) (h : fitB (t : Int) = true) : Bd t top64 ∧ 0 ≤ rankI (t : Int) ∧ ∀ r : Nat, NumB r → askB (r : Int) (t : Int) = true := by
  unfold fitB at h
  rw [Bool.and_eq_true_iff, Bool.and_eq_true_iff] at h
  obtain ⟨⟨h1, h2⟩, h3⟩ := h
  have nn : nanB (t : Int) = false := by cases hh : nanB (t : Int) <;> simp [hh] at h1 ⊢
  have h2' := of_decide_eq_true h2
  have h3' := of_decide_eq_true h3
  have e : rankI ((top64 : Nat) : Int) = 4697254411347427328 := by decide
  have hb : Bd t top64 := bd_of ⟨rfl, ht, nn⟩ top_num (by decide) (by rw [e]; omega) (by rw [e]; omega)
  refine ⟨hb, h2', fun r hr => ?_⟩
  have f1 : ∀ x : Nat, NumB x → finB (x : Int) = true := fun x hx => by
    unfold finB; rw [szI_nat]; unfold NumB at hx; exact decide_eq_true (by omega)
  unfold askB ltB
  rw [f1 r hr, f1 t hb.num, nn, show nanB 0 = false by decide, show rankI 0 = 0 by decide, show nanB 4697254411347427328 = false by decide, show rankI 4697254411347427328 = 4697254411347427328 by decide, decide_eq_false (show ¬ rankI (t : Int) < 0 by omega), decide_eq_false (show ¬ 4697254411347427328 < rankI (t : Int) by omega)]
  rfl
end Go.Proofs.Ytbkmbdbjeiffpaa
