/- The contracts of package rate's small functions: isNumber, isPositive, number. The contracts of package rate's formulas. -/
import Derived.Test.YtbkmbdbjeiffpaaRaExp
import Derived.Deep.RegionHeld3
namespace Go.Proofs.Ytbkmbdbjeiffpaa
open Go.RowKit

set_option maxHeartbeats 400000 in
theorem abs_math (x : Nat) (w : World) (h : U64 x) :
    Calls Try.prog 63 #[.float .f64 x] w fun e w' => e = .returned (.float .f64 (x % 9223372036854775808)) ∧ w' = w := by
  have h1 := call_bits
  have h2 := call_frombits
  have h3 := andNot_sz h
  have h4 : (szI (x : Int)).toNat = x % 9223372036854775808 := by rw [szI_nat]; rfl
  clear h
  go_enter Try.func63, Try.ntmps63
  go_wp2
  go_ret
  exact ⟨rfl, rfl⟩

set_option maxHeartbeats 400000 in
theorem isInf_both (x : Nat) (g : Bool) (w : World) (h : U64 x) (hg : (FloatKind.f64.format.order (x % 9223372036854775808) 9218868437227405311 == some .gt) = g) :
    Calls Try.prog 43 #[.float .f64 x, .int .i64 0] w fun e w' => e = .returned (.bool g) ∧ w' = w := by
  have H := hideS fun w => abs_math x w h
  clear h
  generalize x % 9223372036854775808 = a at *
  go_enter Try.func43, Try.ntmps43
  go_wp2_with fail
  refine (H.out _).mono ?_
  rintro e w' ⟨rfl, rfl⟩
  go_wp2_with fail
  go_ret
  exact ⟨rfl, rfl⟩

theorem inf_gt {x : Nat} (h : nanB (x : Int) = false) : (FloatKind.f64.format.order (x % 9223372036854775808) 9218868437227405311 == some .gt) = !finB (x : Int) := by
  have h1 := nan_false h
  have e : finB (x : Int) = decide (x % 9223372036854775808 < 9218868437227405312) := by
    unfold finB; rw [szI_nat]; exact decide_eq_decide.2 (by omega)
  rw [e]
  generalize x % 9223372036854775808 = a at *
  obtain ⟨r1, r2, r3⟩ := rk_pos h1
  obtain ⟨s1, s2, s3⟩ := rk_pos (r := 9218868437227405311) (by omega)
  rw [gt_rank (u64_of_nat r2) (u64_of_nat s2) r3 s3, r1, s1]
  by_cases c : a < 9218868437227405312
  · rw [decide_eq_true c]; exact decide_eq_false (by omega)
  · rw [decide_eq_false c]; exact decide_eq_true (by omega)
theorem fin_nan {x : Nat} (h : nanB (x : Int) = true) : finB (x : Int) = false := by
  unfold nanB at h; unfold finB
  have := of_decide_eq_true h
  exact decide_eq_false (by omega)

set_option maxHeartbeats 400000 in
theorem isNum_any (x : Nat) (w : World) (h : U64 x) :
    Calls Try.prog 17 #[.float .f64 x] w fun e w' => e = .returned (.bool (finB (x : Int))) ∧ w' = w := by
  have H1 := hideS fun w => isNaN_math x w h
  cases hn : nanB (x : Int) with
  | true =>
    rw [hn] at H1
    rw [fin_nan hn]
    clear h hn
    go_enter Try.func17, Try.ntmps17
    go_wp2_with fail
    refine (H1.out _).mono ?_
    rintro e w' ⟨rfl, rfl⟩
    go_wp2_with fail
    go_ret
    exact ⟨rfl, rfl⟩
  | false =>
    have H2 := hideS fun w => isInf_both x _ w h (inf_gt hn)
    rw [hn] at H1
    clear h hn
    generalize finB (x : Int) = b at *
    cases b
    all_goals
      go_enter Try.func17, Try.ntmps17
      go_wp2_with fail
      refine (H1.out _).mono ?_
      rintro e w' ⟨rfl, rfl⟩
      go_wp2_with fail
      refine (H2.out _).mono ?_
      rintro e w' ⟨rfl, rfl⟩
      go_wp2_with fail
      go_ret
      exact ⟨rfl, rfl⟩

theorem zero_rank : rankI ((0 : Nat) : Int) = 0 := by decide
theorem gt_lt {x : Nat} (h : U64 (x : Int)) : (FloatKind.f64.format.order x 0 == some .gt) = ltB 0 (x : Int) := by
  cases hn : nanB (x : Int) with
  | true =>
    rw [order_nan_left hn]
    unfold ltB
    rw [hn]; rfl
  | false =>
    rw [gt_rank h (by unfold U64; omega) hn (by decide), zero_rank]
    unfold ltB
    rw [hn, show nanB 0 = false by decide, show rankI 0 = 0 by decide]; rfl

set_option maxHeartbeats 400000 in
theorem isPos_any (x : Nat) (w : World) (h : U64 x) :
    Calls Try.prog 18 #[.float .f64 x] w fun e w' => e = .returned (.bool (posB (x : Int))) ∧ w' = w := by
  have H1 := hideS fun w => isNum_any x w h
  have hg := gt_lt h
  unfold posB
  clear h
  generalize finB (x : Int) = b at *
  generalize ltB 0 (x : Int) = c at *
  cases b <;> cases c
  all_goals
    go_enter Try.func18, Try.ntmps18
    go_wp2_with fail
    refine (H1.out _).mono ?_
    rintro e w' ⟨rfl, rfl⟩
    go_wp2_with fail
    go_ret
    exact ⟨rfl, rfl⟩

/-- What number tells: the number, or 0 and an error. -/
def enyN (x : Nat) : Nat := if finB (x : Int) = true then x else 0
theorem enyN_cast (x : Nat) : (enyN x : Int) = enyU (x : Int) := by unfold enyN enyU; split <;> rfl

set_option maxHeartbeats 400000 in
theorem number_any (x : Nat) (w : World) (h : U64 x) :
    Calls Try.prog 35 #[.float .f64 x] w fun e w' => e = .returned (.tuple #[.float .f64 (enyN x), .int .i64 (enyE (x : Int))]) ∧ w' = w := by
  have H1 := hideS fun w => isNum_any x w h
  unfold enyN enyE
  clear h
  generalize finB (x : Int) = b at *
  cases b
  all_goals
    go_enter Try.func35, Try.ntmps35
    go_wp2_with fail
    refine (H1.out _).mono ?_
    rintro e w' ⟨rfl, rfl⟩
    go_wp2_with fail
    go_ret2
    exact ⟨rfl, rfl⟩
theorem eny_ag {o : Option Nat} {x y : Nat} (h : Ag o x) (h' : Ag o y) : enyN x = enyN y ∧ enyE (x : Int) = enyE (y : Int) := by
  cases o with
  | none =>
    unfold enyN enyE
    rw [fin_nan (ag_none h).1, fin_nan (ag_none h').1]
    exact ⟨rfl, rfl⟩
  | some r => rw [ag_some h, ag_some h']; exact ⟨rfl, rfl⟩

/-- What Factor tells at the end. -/
def endN (x : Nat) : Nat := if finB (x : Int) = true ∧ szI (x : Int) ≠ 0 then x else 0
theorem endN_cast (x : Nat) : (endN x : Int) = endU (x : Int) := by unfold endN endU; split <;> rfl
theorem end_ag {o : Option Nat} {x y : Nat} (h : Ag o x) (h' : Ag o y) : endN x = endN y ∧ endE (x : Int) = endE (y : Int) := by
  cases o with
  | none =>
    unfold endN endE
    rw [fin_nan (ag_none h).1, fin_nan (ag_none h').1]
    exact ⟨rfl, rfl⟩
  | some r => rw [ag_some h, ag_some h']; exact ⟨rfl, rfl⟩
/-- Of what is not below 0: above 0 is other than 0. -/
theorem pos_end {o : Option Nat} {x : Nat} (h : AgU o x) (hu : UpO o) : posB (x : Int) = decide (finB (x : Int) = true ∧ szI (x : Int) ≠ 0) := by
  unfold posB
  cases o with
  | none => rw [fin_nan (ag_none h.1).1]; simp
  | some r =>
    obtain rfl := ag_some h.1
    obtain ⟨a, b, _⟩ := hu _ rfl
    cases hf : finB (x : Int)
    · simp
    · unfold ltB
      rw [a, show nanB 0 = false by decide, show rankI 0 = 0 by decide]
      have hl := szI_lo (x : Int)
      have hr : rankI (x : Int) = szI (x : Int) := by
        unfold rankI at b ⊢
        rw [a, if_neg (by decide)] at b ⊢
        split
        · rename_i hs; rw [hs, if_pos rfl] at b; omega
        · rfl
      rw [hr]
      simp only [Bool.not_false, Bool.true_and, true_and]
      exact decide_eq_decide.2 (by omega)
end Go.Proofs.Ytbkmbdbjeiffpaa
namespace Go.Proofs.Ytbkmbdbjeiffpaa
open Go.RowKit

/-- Is it a number (or an infinity) that is not above 0? -/
def leB : Option Nat → Bool
  | some r => !nanB (r : Int) && decide (rankI (r : Int) ≤ 0)
  | none => false
theorem leB_some (r : Nat) : leB (some r) = (!nanB (r : Int) && decide (rankI (r : Int) ≤ 0)) := rfl
theorem leB_of {o : Option Nat} {b : Nat} (h : AgU o b) : ∃ l e, (FloatKind.f64.format.order b 0 == some .lt) = l ∧ (FloatKind.f64.format.order b 0 == some .eq) = e ∧ (l || e) = leB o := by
  refine ⟨_, _, rfl, rfl, ?_⟩
  cases hn : nanB (b : Int) with
  | true =>
    rw [order_nan_left hn]
    cases o with
    | none => rfl
    | some r =>
      have e := ag_some h.1
      rw [← e, leB_some, hn]; rfl
  | false =>
    cases o with
    | none => rw [(ag_none h.1).1] at hn; cases hn
    | some r =>
      have e := ag_some h.1
      rw [← e, leB_some, hn, lt_rank h.u (by unfold U64; omega) hn (by decide), eq_rank h.u (by unfold U64; omega) hn (by decide), zero_rank]
      by_cases c : rankI (b : Int) < 0
      · rw [decide_eq_true c]; simp; omega
      · rw [decide_eq_false c]
        by_cases d : rankI (b : Int) = 0
        · rw [decide_eq_true d]; simp; omega
        · rw [decide_eq_false d]; simp; omega
abbrev one64 : Nat := 4607182418800017408
theorem below_dN {w w' : World} (h : Below w.heap.size w w') (q : Nat) : Below w.heap.size w (w'.drewN q) := ⟨h.os, h.tape, h.output, h.size, h.block⟩

/-- 1 + r t. -/
def simB (r t : Nat) : Option Nat := opO .add (some one64) (opO .mul (some r) (some t))
def simO (r t : Nat) : Option Nat := if leB (simB r t) = true then some 0 else opO .quo (some one64) (simB r t)

set_option maxHeartbeats 800000 in
theorem simpleFactor_ag (r t : Nat) (w : World) (hr : r < 18446744073709551616) (ht : t < 18446744073709551616) :
    Calls Try.prog 37 #[.float .f64 r, .float .f64 t] w fun e w' => ∃ f, e = .returned (.float .f64 f) ∧ AgU (simO r t) f ∧ Below w.heap.size w w' := by
  obtain ⟨m, ⟨q1, r1⟩, g1⟩ := op_prog .mul (by simp) 22 (agU_some hr) (agU_some ht) w
  obtain ⟨b, ⟨q2, r2⟩, g2⟩ := op_prog .add (by simp) 22 (agU_some (show one64 < 18446744073709551616 by decide)) g1 (w.drewN q1)
  obtain ⟨f, ⟨q3, r3⟩, g3⟩ := op_prog .quo (by simp) 22 (agU_some (show one64 < 18446744073709551616 by decide)) g2 ((w.drewN q1).drewN q2)
  obtain ⟨l, e, o1, o2, hle⟩ := leB_of (o := simB r t) g2
  have G0 : Hid ((l || e) = true → AgU (simO r t) 0) := fun h => by
    unfold simO
    rw [if_pos (by rw [← hle]; exact h)]; exact ⟨rfl, by decide⟩
  have G3 : Hid ((l || e) = false → AgU (simO r t) f) := fun h => by
    unfold simO
    rw [if_neg (by rw [← hle, h]; decide)]; exact g3
  have HB : Hid (∀ q, Below w.heap.size w (w.drewN q)) := below_dN (Below.refl _ _)
  rw [World.drewN_drewN] at r3
  clear g1 g2 g3 hle hr ht
  cases l <;> cases e
  all_goals
    go_enter Try.func37, Try.ntmps37
    go_wp2_with fail
    go_ret
    first | exact ⟨_, rfl, G0.out rfl, HB.out _⟩ | exact ⟨_, rfl, G3.out rfl, HB.out _⟩

def simY (f t : Nat) : Option Nat := opO .quo (opO .sub (opO .quo (some one64) (some f)) (some one64)) (some t)
set_option maxHeartbeats 800000 in
theorem simpleYield_ag (f t : Nat) (w : World) (hf : f < 18446744073709551616) (ht : t < 18446744073709551616) :
    Calls Try.prog 38 #[.float .f64 f, .float .f64 t] w fun e w' => ∃ r, e = .returned (.float .f64 r) ∧ AgU (simY f t) r ∧ Below w.heap.size w w' := by
  obtain ⟨m, ⟨q1, r1⟩, g1⟩ := op_prog .quo (by simp) 22 (agU_some (show one64 < 18446744073709551616 by decide)) (agU_some hf) w
  obtain ⟨b, ⟨q2, r2⟩, g2⟩ := op_prog .sub (by simp) 22 g1 (agU_some (show one64 < 18446744073709551616 by decide)) (w.drewN q1)
  obtain ⟨y, ⟨q3, r3⟩, g3⟩ := op_prog .quo (by simp) 22 g2 (agU_some ht) ((w.drewN q1).drewN q2)
  have G3 : Hid (AgU (simY f t) y) := g3
  have HB : Hid (∀ q, Below w.heap.size w (w.drewN q)) := below_dN (Below.refl _ _)
  rw [World.drewN_drewN] at r3
  clear g1 g2 g3 hf ht
  go_enter Try.func38, Try.ntmps38
  go_wp2_with fail
  go_ret
  exact ⟨_, rfl, G3.out, HB.out _⟩

noncomputable def conO (r t : Nat) : Option Nat := expO (negO (opO .mul (some r) (some t)))
theorem run_neg9 (w : World) (x : Nat) : (Op.unary .neg (.float .f64 x)).run Try.prog w = .ok (.float .f64 (Op.negFloat .f64 x)) w := rfl
set_option maxHeartbeats 800000 in
theorem contFactor_ag (r t : Nat) (w : World) (hr : r < 18446744073709551616) (ht : t < 18446744073709551616) :
    Calls Try.prog 40 #[.float .f64 r, .float .f64 t] w fun e w' => ∃ f, e = .returned (.float .f64 f) ∧ AgU (conO r t) f ∧ Below w.heap.size w w' := by
  obtain ⟨m, ⟨q1, r1⟩, g1⟩ := op_prog .mul (by simp) 22 (agU_some hr) (agU_some ht) w
  have hneg := run_neg9
  have hfl := neg_flip g1.2
  have HE := hideS fun w => exp_prog (negO_ag g1) w
  generalize flipN m = n at *
  have HB : Hid (Below w.heap.size w (w.drewN q1)) := below_dN (Below.refl _ _) q1
  clear g1 hr ht
  go_enter Try.func40, Try.ntmps40
  go_wp2_with fail
  refine (HE.out _).mono ?_
  rintro e w1 ⟨y, rfl, hy, hb⟩
  have B1 := hideS (HB.out.trans (hb.mono HB.out.size))
  have Y := hideS hy
  clear hb hy
  go_wp2_with fail
  go_ret
  exact ⟨_, rfl, Y.out, B1.out⟩

noncomputable def conY (f t : Nat) : Option Nat := opO .quo (negO (lnO1 (some f))) (some t)
set_option maxHeartbeats 800000 in
theorem contYield_ag (f t : Nat) (w : World) (hf : f < 18446744073709551616) (ht : t < 18446744073709551616) :
    Calls Try.prog 41 #[.float .f64 f, .float .f64 t] w fun e w' => ∃ r, e = .returned (.float .f64 r) ∧ AgU (conY f t) r ∧ Below w.heap.size w w' := by
  have HL := hideS fun w => ln_prog (agU_some hf) w
  have hneg := run_neg9
  have HT := hideS ht
  clear ht
  go_enter Try.func41, Try.ntmps41
  go_wp2_with fail
  refine (HL.out _).mono ?_
  rintro e w1 ⟨y, rfl, hy, hb⟩
  have B1 := hideS hb
  have hfl := neg_flip hy.2
  have hn := negO_ag hy
  clear hb hy
  generalize flipN y = n at *
  obtain ⟨r, ⟨q1, r1⟩, g1⟩ := op_prog .quo (by simp) 22 hn (agU_some HT.out) w1
  have G1 : Hid (AgU (conY f t) r) := g1
  clear g1 hn
  go_wp2_with fail
  go_ret
  exact ⟨_, rfl, G1.out, below_dN B1.out q1⟩
end Go.Proofs.Ytbkmbdbjeiffpaa
