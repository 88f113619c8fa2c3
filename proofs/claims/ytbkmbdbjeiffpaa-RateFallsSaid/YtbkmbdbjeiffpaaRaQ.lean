/- The contracts of package rate's formulas. -/
import Derived.Test.YtbkmbdbjeiffpaaRaP
import Derived.Deep.RegionHeld3
namespace Go.Proofs.Ytbkmbdbjeiffpaa
open Go.RowKit

/-- Is it a number (or an infinity) that is not above 0? -/
def leB : Option Nat → Bool
  | some r => !nanB (r : Int) && decide (rankI (r : Int) ≤ 0)
  | none => false
theorem leB_some (r : Nat) : leB (some r) = (!nanB (r : Int) && decide (rankI (r : Int) ≤ 0)) := rfl
theorem leB_of {o : Option Nat} {b : Nat} (h : AgU o b) : ∃ l e, (FloatKind.f64.format.order b 0 == some .lt) = l ∧ (FloatKind.f64.format.order b 0 == some .eq) = e ∧ (l || e) = leB o := by
  refine ⟨_, _, rfl, rfl, ?_⟩
  cases hn : nanB (b : Int) with
  | true =>
    rw [order_nan_left hn]
    cases o with
    | none => rfl
    | some r =>
      have e := ag_some h.1
      rw [← e, leB_some, hn]; rfl
  | false =>
    cases o with
    | none => rw [(ag_none h.1).1] at hn; cases hn
    | some r =>
      have e := ag_some h.1
      rw [← e, leB_some, hn, lt_rank h.u (by unfold U64; omega) hn (by decide), eq_rank h.u (by unfold U64; omega) hn (by decide), zero_rank]
      by_cases c : rankI (b : Int) < 0
      · rw [decide_eq_true c]; simp; omega
      · rw [decide_eq_false c]
        by_cases d : rankI (b : Int) = 0
        · rw [decide_eq_true d]; simp; omega
        · rw [decide_eq_false d]; simp; omega
abbrev one64 : Nat := 4607182418800017408
theorem below_dN {w w' : World} (h : Below w.heap.size w w') (q : Nat) : Below w.heap.size w (w'.drewN q) := ⟨h.os, h.tape, h.output, h.size, h.block⟩

/-- 1 + r t. -/
def simB (r t : Nat) : Option Nat := opO .add (some one64) (opO .mul (some r) (some t))
def simO (r t : Nat) : Option Nat := if leB (simB r t) = true then some 0 else opO .quo (some one64) (simB r t)

set_option maxHeartbeats 800000 in
theorem simpleFactor_ag (r t : Nat) (w : World) (hr : r < 18446744073709551616) (ht : t < 18446744073709551616) :
    Calls Try.prog 37 #[.float .f64 r, .float .f64 t] w fun e w' => ∃ f, e = .returned (.float .f64 f) ∧ AgU (simO r t) f ∧ Below w.heap.size w w' := by
  obtain ⟨m, ⟨q1, r1⟩, g1⟩ := op_prog .mul (by simp) 22 (agU_some hr) (agU_some ht) w
  obtain ⟨b, ⟨q2, r2⟩, g2⟩ := op_prog .add (by simp) 22 (agU_some (show one64 < 18446744073709551616 by decide)) g1 (w.drewN q1)
  obtain ⟨f, ⟨q3, r3⟩, g3⟩ := op_prog .quo (by simp) 22 (agU_some (show one64 < 18446744073709551616 by decide)) g2 ((w.drewN q1).drewN q2)
  obtain ⟨l, e, o1, o2, hle⟩ := leB_of (o := simB r t) g2
  have G0 : Hid ((l || e) = true → AgU (simO r t) 0) := fun h => by
    unfold simO
    rw [if_pos (by rw [← hle]; exact h)]; exact ⟨rfl, by decide⟩
  have G3 : Hid ((l || e) = false → AgU (simO r t) f) := fun h => by
    unfold simO
    rw [if_neg (by rw [← hle, h]; decide)]; exact g3
  have HB : Hid (∀ q, Below w.heap.size w (w.drewN q)) := below_dN (Below.refl _ _)
  rw [World.drewN_drewN] at r3
  clear g1 g2 g3 hle hr ht
  cases l <;> cases e
  all_goals
    go_enter Try.func37, Try.ntmps37
    go_wp2_with fail
    go_ret
    first | exact ⟨_, rfl, G0.out rfl, HB.out _⟩ | exact ⟨_, rfl, G3.out rfl, HB.out _⟩

def simY (f t : Nat) : Option Nat := opO .quo (opO .sub (opO .quo (some one64) (some f)) (some one64)) (some t)
set_option maxHeartbeats 800000 in
theorem simpleYield_ag (f t : Nat) (w : World) (hf : f < 18446744073709551616) (ht : t < 18446744073709551616) :
    Calls Try.prog 38 #[.float .f64 f, .float .f64 t] w fun e w' => ∃ r, e = .returned (.float .f64 r) ∧ AgU (simY f t) r ∧ Below w.heap.size w w' := by
  obtain ⟨m, ⟨q1, r1⟩, g1⟩ := op_prog .quo (by simp) 22 (agU_some (show one64 < 18446744073709551616 by decide)) (agU_some hf) w
  obtain ⟨b, ⟨q2, r2⟩, g2⟩ := op_prog .sub (by simp) 22 g1 (agU_some (show one64 < 18446744073709551616 by decide)) (w.drewN q1)
  obtain ⟨y, ⟨q3, r3⟩, g3⟩ := op_prog .quo (by simp) 22 g2 (agU_some ht) ((w.drewN q1).drewN q2)
  have G3 : Hid (AgU (simY f t) y) := g3
  have HB : Hid (∀ q, Below w.heap.size w (w.drewN q)) := below_dN (Below.refl _ _)
  rw [World.drewN_drewN] at r3
  clear g1 g2 g3 hf ht
  go_enter Try.func38, Try.ntmps38
  go_wp2_with fail
  go_ret
  exact ⟨_, rfl, G3.out, HB.out _⟩

noncomputable def conO (r t : Nat) : Option Nat := expO (negO (opO .mul (some r) (some t)))
theorem run_neg9 (w : World) (x : Nat) : (Op.unary .neg (.float .f64 x)).run Try.prog w = .ok (.float .f64 (Op.negFloat .f64 x)) w := rfl
set_option maxHeartbeats 800000 in
theorem contFactor_ag (r t : Nat) (w : World) (hr : r < 18446744073709551616) (ht : t < 18446744073709551616) :
    Calls Try.prog 40 #[.float .f64 r, .float .f64 t] w fun e w' => ∃ f, e = .returned (.float .f64 f) ∧ AgU (conO r t) f ∧ Below w.heap.size w w' := by
  obtain ⟨m, ⟨q1, r1⟩, g1⟩ := op_prog .mul (by simp) 22 (agU_some hr) (agU_some ht) w
  have hneg := run_neg9
  have hfl := neg_flip g1.2
  have HE := hideS fun w => exp_prog (negO_ag g1) w
  generalize flipN m = n at *
  have HB : Hid (Below w.heap.size w (w.drewN q1)) := below_dN (Below.refl _ _) q1
  clear g1 hr ht
  go_enter Try.func40, Try.ntmps40
  go_wp2_with fail
  refine (HE.out _).mono ?_
  rintro e w1 ⟨y, rfl, hy, hb⟩
  have B1 := hideS (HB.out.trans (hb.mono HB.out.size))
  have Y := hideS hy
  clear hb hy
  go_wp2_with fail
  go_ret
  exact ⟨_, rfl, Y.out, B1.out⟩

noncomputable def conY (f t : Nat) : Option Nat := opO .quo (negO (lnO1 (some f))) (some t)
set_option maxHeartbeats 800000 in
theorem contYield_ag (f t : Nat) (w : World) (hf : f < 18446744073709551616) (ht : t < 18446744073709551616) :
    Calls Try.prog 41 #[.float .f64 f, .float .f64 t] w fun e w' => ∃ r, e = .returned (.float .f64 r) ∧ AgU (conY f t) r ∧ Below w.heap.size w w' := by
  have HL := hideS fun w => ln_prog (agU_some hf) w
  have hneg := run_neg9
  have HT := hideS ht
  clear ht
  go_enter Try.func41, Try.ntmps41
  go_wp2_with fail
  refine (HL.out _).mono ?_
  rintro e w1 ⟨y, rfl, hy, hb⟩
  have B1 := hideS hb
  have hfl := neg_flip hy.2
  have hn := negO_ag hy
  clear hb hy
  generalize flipN y = n at *
  obtain ⟨r, ⟨q1, r1⟩, g1⟩ := op_prog .quo (by simp) 22 hn (agU_some HT.out) w1
  have G1 : Hid (AgU (conY f t) r) := g1
  clear g1 hn
  go_wp2_with fail
  go_ret
  exact ⟨_, rfl, G1.out, below_dN B1.out q1⟩
end Go.Proofs.Ytbkmbdbjeiffpaa
