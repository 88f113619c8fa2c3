/- The walk of RateFalls, all ways put together. -/
import Derived.Test.YtbkmbdbjeiffpaaFarA
import Derived.Test.YtbkmbdbjeiffpaaFarB
import Derived.Test.YtbkmbdbjeiffpaaFarC
import Derived.Test.YtbkmbdbjeiffpaaRaFallB
namespace Go.Proofs.Ytbkmbdbjeiffpaa
open Go.RowKit

theorem ge_rank {x c : Nat} (hx : U64 (x : Int)) (hc : U64 (c : Int)) (h : ((FloatKind.f64.format.order x c == some .gt) || (FloatKind.f64.format.order x c == some .eq)) = true) : nanB (x : Int) = false ∧ nanB (c : Int) = false ∧ rankI (c : Int) ≤ rankI (x : Int) := by
  cases hn : nanB (x : Int) with
  | true => rw [order_nan_left hn] at h; cases h
  | false =>
    cases hm : nanB (c : Int) with
    | true => rw [order_nan_right hm] at h; cases h
    | false =>
      rw [gt_rank hx hc hn hm, eq_rank hx hc hn hm] at h
      refine ⟨rfl, rfl, ?_⟩
      rw [Bool.or_eq_true_iff, decide_eq_true_eq, decide_eq_true_eq] at h
      omega
theorem lt_not {x y : Nat} (hx : x < 18446744073709551616) (hy : y < 18446744073709551616) (nx : NumB x) (ny : NumB y) (h : rankI (y : Int) ≤ rankI (x : Int)) : (FloatKind.f64.format.order x y == some .lt) = false := by
  rw [lt_rank (u64_of_nat hx) (u64_of_nat hy) (num_nan nx) (num_nan ny)]
  exact decide_eq_false (by omega)
theorem gt_not {x y : Nat} (hx : x < 18446744073709551616) (hy : y < 18446744073709551616) (nx : NumB x) (ny : NumB y) (h : rankI (x : Int) ≤ rankI (y : Int)) : (FloatKind.f64.format.order x y == some .gt) = false := by
  rw [gt_rank (u64_of_nat hx) (u64_of_nat hy) (num_nan nx) (num_nan ny)]
  exact decide_eq_false (by omega)
theorem end_self {z : Nat} (h : endE (z : Int) = 0) : endN z = z ∧ NumB z := by
  rcases end_cases (z : Int) with ⟨_, _, e⟩ | ⟨_, _, _, e⟩ | ⟨e1, e2, _, _⟩
  · omega
  · omega
  · exact ⟨by unfold endN; rw [if_pos ⟨e1, e2⟩], num_fin e1⟩
theorem beq_zero (E : Int) : ((E == 0) = true ∧ E = 0) ∨ ((E == 0) = false ∧ E ≠ 0) := by
  by_cases h : E = 0
  · exact Or.inl ⟨beq_iff_eq.2 h, h⟩
  · exact Or.inr ⟨beq_eq_false_iff_ne.2 h, h⟩

theorem rateFalls_walk (r s t u : Nat) (wr : (Lit.float .f64 r).wf = true) (ws : (Lit.float .f64 s).wf = true) (wt : (Lit.float .f64 t).wf = true) (wu : (Lit.float .f64 u).wf = true) (w : World) :
    Calls Try.prog 6 #[.float .f64 r, .float .f64 s, .float .f64 t, .float .f64 u] w fun e w' => e = .returned (.bool true) ∧ Below w.heap.size w w' := by
  have ur := u64_of_wf wr
  have us := u64_of_wf ws
  have ut := u64_of_wf wt
  have uu := u64_of_wf wu
  have hr : r < 18446744073709551616 := by have := ur.2; omega
  have hs : s < 18446744073709551616 := by have := us.2; omega
  have ht : t < 18446744073709551616 := by have := ut.2; omega
  have hu : u < 18446744073709551616 := by have := uu.2; omega
  cases hall : (((FloatKind.f64.format.order r 0 == some .gt) || (FloatKind.f64.format.order r 0 == some .eq)) && ((FloatKind.f64.format.order s r == some .gt) || (FloatKind.f64.format.order s r == some .eq)) && fitB (t : Int) && fitB (u : Int) && !(FloatKind.f64.format.order t u == some .gt) && decide (NumB s)) with
  | false => exact rateFalls_out r s t u _ _ _ _ _ _ _ _ w hs ht hu rfl rfl rfl rfl rfl rfl rfl rfl hall
  | true =>
    simp only [Bool.and_eq_true_iff] at hall
    obtain ⟨⟨⟨⟨⟨c1, c2⟩, c3⟩, c4⟩, c5⟩, c6⟩ := hall
    have ns : NumB s := of_decide_eq_true c6
    have c5' : (FloatKind.f64.format.order t u == some .gt) = false := by
      cases h : (FloatKind.f64.format.order t u == some .gt) with
      | false => rfl
      | true => rw [h] at c5; cases c5
    obtain ⟨rn, _, rr⟩ := ge_rank (c := 0) ur (by unfold U64; omega) c1
    rw [zero_rank] at rr
    obtain ⟨_, _, rs⟩ := ge_rank us ur c2
    have sk := rank_num ns hs
    have nr : NumB r := num_rank (r := r) ⟨rfl, hr, rn⟩ (by omega) (by omega)
    obtain ⟨tb, t0, ta⟩ := fit_bd ht c3
    obtain ⟨ub, u0, ua⟩ := fit_bd hu c4
    have tu : rankI (t : Int) ≤ rankI (u : Int) := by
      rw [gt_rank ut uu (num_nan tb.num) (num_nan ub.num)] at c5'
      have := of_decide_eq_false c5'
      omega
    have n0 : NumB 0 := by unfold NumB; decide
    have v0 : vI 0 = 0 := by decide +kernel
    have vr0 : 0 ≤ vI r := by have := (rank_le_iff n0 nr (by decide) hr).1 (by rw [zero_rank]; exact rr); rw [v0] at this; exact this
    have vt0 : 0 ≤ vI t := by have := (rank_le_iff n0 tb.num (by decide) ht).1 (by rw [zero_rank]; exact t0); rw [v0] at this; exact this
    have vrs : vI r ≤ vI s := (rank_le_iff nr ns hr hs).1 rs
    have vtu : vI t ≤ vI u := (rank_le_iff tb.num ub.num ht hu).1 tu
    have HF : FallH r s t u _ _ _ _ := ⟨rfl, rfl, rfl, rfl, c1, c2, fun w => by have := turned (fits_any t w ut); rw [c3] at this; exact this, fun w => by have := turned (fits_any u w uu); rw [c4] at this; exact this, c5', sub_self ns⟩
    -- the three factors
    have f1 : facO 1 = simO := by funext a b; unfold facO; rw [if_pos rfl]
    have HA := fun w => factor_ok 1 r t (cn (facO 1 r t)) w (by decide) hr ht (ta r nr) (ag_cn _)
    have HB := fun w => factor_ok 1 r u (cn (facO 1 r u)) w (by decide) hr hu (ua r nr) (ag_cn _)
    have HC := fun w => factor_ok 1 s t (cn (facO 1 s t)) w (by decide) hs ht (ta s ns) (ag_cn _)
    rw [f1] at HA HB HC
    have z1 := ag_cn (simO r t)
    have z2 := ag_cn (simO r u)
    have z3 := ag_cn (simO s t)
    have b1 : cn (simO r t) < 18446744073709551616 := by
      cases e : simO r t with
      | none => decide
      | some q => exact (sim_up r t q e).2.2
    have b2 : cn (simO r u) < 18446744073709551616 := by
      cases e : simO r u with
      | none => decide
      | some q => exact (sim_up r u q e).2.2
    have b3 : cn (simO s t) < 18446744073709551616 := by
      cases e : simO s t with
      | none => decide
      | some q => exact (sim_up s t q e).2.2
    generalize cn (simO r t) = A at *
    generalize cn (simO r u) = B at *
    generalize cn (simO s t) = C at *
    have l1 : endE (A : Int) = 0 → endE (B : Int) = 0 → (FloatKind.f64.format.order (endN A) (endN B) == some .lt) = false := fun h h' => by
      obtain ⟨e1, n1⟩ := end_self h
      obtain ⟨e2, n2⟩ := end_self h'
      rw [e1, e2]
      exact lt_not b1 b2 n1 n2 (fall2 nr tb.num nr ub.num vr0 vt0 (Int.le_refl _) vtu z1 z2 h h')
    have l2 : endE (A : Int) = 0 → endE (C : Int) = 0 → (FloatKind.f64.format.order (endN A) (endN C) == some .lt) = false := fun h h' => by
      obtain ⟨e1, n1⟩ := end_self h
      obtain ⟨e2, n2⟩ := end_self h'
      rw [e1, e2]
      exact lt_not b1 b3 n1 n2 (fall2 nr tb.num ns tb.num vr0 vt0 vrs (Int.le_refl _) z1 z3 h h')
    have near : ((FloatKind.f64.format.order r 0 == some .gt) = false ∨ ((FloatKind.f64.format.order r 0 == some .gt) = true ∧ (FloatKind.f64.format.order t 0 == some .gt) = false)) ∨ ((FloatKind.f64.format.order r 0 == some .gt) = true ∧ (FloatKind.f64.format.order t 0 == some .gt) = true) := by
      cases (FloatKind.f64.format.order r 0 == some .gt) <;> cases (FloatKind.f64.format.order t 0 == some .gt) <;> simp
    rcases near with hp | ⟨hp, hq⟩
    · rcases beq_zero (endE (A : Int)) with ⟨x0, y0⟩ | ⟨x0, _⟩
      · rcases beq_zero (endE (B : Int)) with ⟨x1, y1⟩ | ⟨x1, _⟩
        · rcases beq_zero (endE (C : Int)) with ⟨x2, y2⟩ | ⟨x2, _⟩
          · exact rateFalls_near_tt r s t u _ _ _ _ _ _ _ _ _ _ w HF HA HB HC (l1 y0 y1) (l2 y0 y2) x0 x1 x2 hp
          · exact rateFalls_near_tf r s t u _ _ _ _ _ _ _ _ _ _ w HF HA HB HC (l1 y0 y1) x0 x1 x2 hp
        · rcases beq_zero (endE (C : Int)) with ⟨x2, y2⟩ | ⟨x2, _⟩
          · exact rateFalls_near_ft r s t u _ _ _ _ _ _ _ _ _ _ w HF HA HB HC (l2 y0 y2) x0 x1 x2 hp
          · exact rateFalls_near_ff r s t u _ _ _ _ _ _ _ _ _ _ w HF HA HB HC x0 x1 x2 hp
      · exact rateFalls_near_n r s t u _ _ _ _ _ _ _ _ _ _ w HF HA HB HC x0 hp
    · -- the forwards
      rw [gt_lt ur] at hp
      rw [gt_lt ut] at hq
      have pr : 0 < rankI (r : Int) := by
        unfold ltB at hp
        rw [rn, show nanB 0 = false by decide, show rankI 0 = 0 by decide] at hp
        simpa using hp
      have pt : 0 < rankI (t : Int) := by
        unfold ltB at hq
        rw [num_nan tb.num, show nanB 0 = false by decide, show rankI 0 = 0 by decide] at hq
        simpa using hq
      have pz : ∀ x : Nat, NumB x → 0 < rankI (x : Int) → posB (x : Int) = true := fun x nx hx => by
        unfold posB ltB finB
        rw [num_nan nx, show nanB 0 = false by decide, show rankI 0 = 0 by decide, szI_nat, decide_eq_true hx]
        unfold NumB at nx
        rw [decide_eq_true (by omega)]; rfl
      have p1 := pz 4607182418800017408 one_num (by decide)
      have p2 := pz r nr pr
      have p3 := pz s ns (by omega)
      have p4 := pz t tb.num pt
      have vr1 : 0 < vI r := by have := (rank_lt_iff n0 nr (by decide) hr).1 (by rw [zero_rank]; exact pr); rw [v0] at this; exact this
      have vt1 : 0 < vI t := by have := (rank_lt_iff n0 tb.num (by decide) ht).1 (by rw [zero_rank]; exact pt); rw [v0] at this; exact this
      have HX := fun w => forward_ok r 4607182418800017408 t (cn (fwdO r 4607182418800017408 t)) w hr (by decide) ht (by rw [p1, p2, p4]; rfl) (ag_cn _)
      have HY := fun w => forward_ok s 4607182418800017408 t (cn (fwdO s 4607182418800017408 t)) w hs (by decide) ht (by rw [p1, p3, p4]; rfl) (ag_cn _)
      have HV := fun w => forward_ok 4607182418800017408 r t (cn (fwdO 4607182418800017408 r t)) w (by decide) hr ht (by rw [p1, p2, p4]; rfl) (ag_cn _)
      have HW := fun w => forward_ok 4607182418800017408 s t (cn (fwdO 4607182418800017408 s t)) w (by decide) hs ht (by rw [p1, p3, p4]; rfl) (ag_cn _)
      have q1 := ag_cn (fwdO r 4607182418800017408 t)
      have q2 := ag_cn (fwdO s 4607182418800017408 t)
      have q3 := ag_cn (fwdO 4607182418800017408 r t)
      have q4 := ag_cn (fwdO 4607182418800017408 s t)
      have d1 : cn (fwdO r 4607182418800017408 t) < 18446744073709551616 := opO_lt (by simp) _ _
      have d2 : cn (fwdO s 4607182418800017408 t) < 18446744073709551616 := opO_lt (by simp) _ _
      have d3 : cn (fwdO 4607182418800017408 r t) < 18446744073709551616 := opO_lt (by simp) _ _
      have d4 : cn (fwdO 4607182418800017408 s t) < 18446744073709551616 := opO_lt (by simp) _ _
      generalize cn (fwdO r 4607182418800017408 t) = X at *
      generalize cn (fwdO s 4607182418800017408 t) = Y at *
      generalize cn (fwdO 4607182418800017408 r t) = V at *
      generalize cn (fwdO 4607182418800017408 s t) = Z at *
      have hp' : (FloatKind.f64.format.order r 0 == some .gt) = true := by rw [gt_lt ur]; exact hp
      have hq' : (FloatKind.f64.format.order t 0 == some .gt) = true := by rw [gt_lt ut]; exact hq
      have k1 : ((enyE (X : Int) == 0) = false) ∨ ((enyE (X : Int) == 0) = true ∧ (enyE (Y : Int) == 0) = false) ∨ ((enyE (X : Int) == 0) = true ∧ (enyE (Y : Int) == 0) = true ∧ (FloatKind.f64.format.order (enyN X) (enyN Y) == some .gt) = false) := by
        rcases beq_zero (enyE (X : Int)) with ⟨x0, y0⟩ | ⟨x0, _⟩
        · rcases beq_zero (enyE (Y : Int)) with ⟨x1, y1⟩ | ⟨x1, _⟩
          · refine Or.inr (Or.inr ⟨x0, x1, ?_⟩)
            obtain ⟨g1, g2⟩ := eny_zero y0
            obtain ⟨g3, g4⟩ := eny_zero y1
            rw [g2, g4]
            exact gt_not d1 d2 (num_fin g1) (num_fin g3) (near_up nr ns tb.num vt1 vrs q1 q2 y0 y1)
          · exact Or.inr (Or.inl ⟨x0, x1⟩)
        · exact Or.inl x0
      have k2 : ((enyE (V : Int) == 0) = false) ∨ ((enyE (V : Int) == 0) = true ∧ (enyE (Z : Int) == 0) = false) ∨ ((enyE (V : Int) == 0) = true ∧ (enyE (Z : Int) == 0) = true ∧ (FloatKind.f64.format.order (enyN V) (enyN Z) == some .lt) = false) := by
        rcases beq_zero (enyE (V : Int)) with ⟨x0, y0⟩ | ⟨x0, _⟩
        · rcases beq_zero (enyE (Z : Int)) with ⟨x1, y1⟩ | ⟨x1, _⟩
          · refine Or.inr (Or.inr ⟨x0, x1, ?_⟩)
            obtain ⟨g1, g2⟩ := eny_zero y0
            obtain ⟨g3, g4⟩ := eny_zero y1
            rw [g2, g4]
            exact lt_not d3 d4 (num_fin g1) (num_fin g3) (far_down nr ns tb.num vr1 vt1 vrs q3 q4 y0 y1)
          · exact Or.inr (Or.inl ⟨x0, x1⟩)
        · exact Or.inl x0
      rcases beq_zero (endE (A : Int)) with ⟨x0, y0⟩ | ⟨x0, _⟩
      · rcases beq_zero (endE (B : Int)) with ⟨x1, y1⟩ | ⟨x1, _⟩
        · rcases beq_zero (endE (C : Int)) with ⟨x2, y2⟩ | ⟨x2, _⟩
          · exact rateFalls_far_tt r s t u _ _ _ _ _ _ _ _ _ _ _ _ _ _ _ _ _ _ w HF HA HB HC (l1 y0 y1) (l2 y0 y2) x0 x1 x2 hp' hq' HX HY HV HW k1 k2
          · exact rateFalls_far_tf r s t u _ _ _ _ _ _ _ _ _ _ _ _ _ _ _ _ _ _ w HF HA HB HC (l1 y0 y1) x0 x1 x2 hp' hq' HX HY HV HW k1 k2
        · rcases beq_zero (endE (C : Int)) with ⟨x2, y2⟩ | ⟨x2, _⟩
          · exact rateFalls_far_ft r s t u _ _ _ _ _ _ _ _ _ _ _ _ _ _ _ _ _ _ w HF HA HB HC (l2 y0 y2) x0 x1 x2 hp' hq' HX HY HV HW k1 k2
          · exact rateFalls_far_ff r s t u _ _ _ _ _ _ _ _ _ _ _ _ _ _ _ _ _ _ w HF HA HB HC x0 x1 x2 hp' hq' HX HY HV HW k1 k2
      · exact rateFalls_far_n r s t u _ _ _ _ _ _ _ _ _ _ _ _ _ _ _ _ _ _ w HF HA HB HC x0 hp' hq' HX HY HV HW k1 k2
end Go.Proofs.Ytbkmbdbjeiffpaa
