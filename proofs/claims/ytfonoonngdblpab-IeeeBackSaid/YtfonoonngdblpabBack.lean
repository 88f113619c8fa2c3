/- Down, Up, Split, Join and a difference, each by ranks: what IeeeBack leans on. -/
import Derived.Test.YtfonoonngdblpabSplit
import Derived.Test.YtfonoonngdblpabWIeeeMiddle
namespace Go.Proofs.Ytfonoonngdblpab
open Go.RowKit

theorem eq_good {a b : Nat} {r s : Int} (h : Good a r) (h' : Good b s) : (FloatKind.f64.format.order a b == some .eq) = (r == s) := by
  rw [eq_rank h.1 h'.1 h.2.1 h'.2.1, h.2.2, h'.2.2]
  by_cases e : r = s <;> simp [e]
theorem lt_good {a b : Nat} {r s : Int} (h : Good a r) (h' : Good b s) : (FloatKind.f64.format.order a b == some .lt) = decide (r < s) := by
  rw [lt_rank h.1 h'.1 h.2.1 h'.2.1, h.2.2, h'.2.2]
theorem neq_good {a b : Nat} {r : Int} (h : Good a r) (h' : Good b r) : (FloatKind.f64.format.order a b != some .eq) = false := by
  have := eq_good h h'
  rw [beq_self_eq_true] at this
  rw [bne, this]; rfl
theorem good_zero : Good 0 0 := ⟨⟨by omega, by omega⟩, by decide, by decide⟩

theorem good_at {n : Int} (h : atOk n = true) : Good (atI n).toNat n := by
  have e : ((atI n).toNat : Int) = atI n := Int.toNat_of_nonneg (atI_u64 n).1
  refine ⟨?_, ?_, ?_⟩
  · rw [e]; exact atI_u64 n
  · rw [e]; exact nan_at h
  · rw [e]; exact rank_at h

theorem at_good {x : Nat} {r : Int} (h : Good x r) : ∃ z : Nat, Good z r ∧ sgB z = decide (r < 0) ∧ ∀ w, Calls Try.prog 17 #[.int .i64 r] w fun e w' => e = .returned (.tuple #[.float .f64 z, .bool true]) ∧ w' = w := by
  have ho : atOk r = true := (atOk_iff r).2 ⟨h.lo, h.hi⟩
  refine ⟨(atI r).toNat, good_at ho, ?_, fun w => ?_⟩
  · rw [Int.toNat_of_nonneg (atI_u64 r).1]; exact sg_at ho
  · have := at_any r w
    rw [ho] at this; exact this

theorem upI_good {u d : Int} (hn : nanB u = false) (ho : atOk (wrap64 (rankI u + d)) = true) : upI u d = atI (wrap64 (rankI u + d)) := by simp [upI, hn, ho]
theorem upI_end {u d : Int} (hn : nanB u = false) (ho : atOk (wrap64 (rankI u + d)) = false) : upI u d = u := by simp [upI, hn, ho]

theorem down_good {x : Nat} {r : Int} (h : Good x r) : ∃ (d : Nat) (s : Int), Good d s ∧ ((s = r - 1 ∧ -9218868437227405312 < r) ∨ (s = r ∧ r = -9218868437227405312)) ∧ ∀ w, Calls Try.prog 21 #[.float .f64 x] w fun e w' => e = .returned (.float .f64 d) ∧ w' = w := by
  have hlo := h.lo
  have hhi := h.hi
  obtain ⟨h1, h2, h3⟩ := h
  have ew : wrap64 (rankI x + -1) = r - 1 := by rw [h3]; unfold wrap64; omega
  by_cases hr : -9218868437227405312 < r
  · have ho : atOk (wrap64 (rankI x + -1)) = true := by rw [ew, atOk_iff]; omega
    have e := upI_good h2 ho
    rw [ew] at e ho
    refine ⟨(atI (r - 1)).toNat, r - 1, good_at ho, Or.inl ⟨rfl, hr⟩, fun w => ?_⟩
    have := down_as x x w rfl h1
    rw [e] at this; exact this
  · have ho : atOk (wrap64 (rankI x + -1)) = false := by
      rw [ew]; unfold atOk; rw [decide_eq_false_iff_not]; omega
    have e := upI_end h2 ho
    refine ⟨x, r, ⟨h1, h2, h3⟩, Or.inr ⟨rfl, by omega⟩, fun w => ?_⟩
    have := down_as x x w rfl h1
    rw [e, Int.toNat_natCast] at this; exact this

theorem up_good {x : Nat} {r : Int} (h : Good x r) (hr : r < 9218868437227405312) : ∃ z : Nat, Good z (r + 1) ∧ ∀ w, Calls Try.prog 22 #[.float .f64 x] w fun e w' => e = .returned (.float .f64 z) ∧ w' = w := by
  have hlo := h.lo
  obtain ⟨h1, h2, h3⟩ := h
  have ew : wrap64 (rankI x + 1) = r + 1 := by rw [h3]; unfold wrap64; omega
  have ho : atOk (wrap64 (rankI x + 1)) = true := by rw [ew, atOk_iff]; omega
  have e := upI_good h2 ho
  rw [ew] at e ho
  refine ⟨(atI (r + 1)).toNat, good_at ho, fun w => ?_⟩
  have := up_as x x w rfl h1
  rw [e] at this; exact this

/-- A number less itself is +0. -/
theorem sub_self_fin {d : Nat} (h : d % 9223372036854775808 < 9218868437227405312) : FloatKind.f64.format.sub d d = some 0 := by
  show ((Ieee.double.read d).sum (Ieee.double.read d).opposite).map Ieee.double.write = _
  rw [read_num h]
  generalize (d / 9223372036854775808 % 2 == 1) = s
  generalize mg (d % 9223372036854775808) = m
  generalize (-1074 + (pl (d % 9223372036854775808) : Int)) = p
  have ht : Ieee.signed s m (p - min p p).toNat + Ieee.signed (!s) m (p - min p p).toNat = 0 := by
    unfold Ieee.signed; cases s <;> simp <;> omega
  show some (Ieee.double.write (.number (if Ieee.signed s m (p - min p p).toNat + Ieee.signed (!s) m (p - min p p).toNat = 0 then s && !s else decide (Ieee.signed s m (p - min p p).toNat + Ieee.signed (!s) m (p - min p p).toNat < 0)) (Ieee.signed s m (p - min p p).toNat + Ieee.signed (!s) m (p - min p p).toNat).natAbs (min p p))) = _
  rw [ht, if_pos rfl]
  show some (Ieee.double.nearest (s && !s) 0 _) = _
  rw [nearest_zero]
  cases s <;> rfl
theorem sub_self_inf {d : Nat} (h : d % 9223372036854775808 = 9218868437227405312) : FloatKind.f64.format.sub d d = none := by
  show ((Ieee.double.read d).sum (Ieee.double.read d).opposite).map Ieee.double.write = _
  rw [read_inf h]
  generalize (d / 9223372036854775808 % 2 == 1) = s
  cases s <;> rfl

theorem fin_of {d : Nat} {r : Int} (h : Good d r) (h1 : -9218868437227405312 < r) (h2 : r < 9218868437227405312) : d % 9223372036854775808 < 9218868437227405312 := by
  have hl := nan_false h.2.1
  have := sgn_rank (by have := h.1.2; omega) h.2.1
  rw [h.2.2] at this
  unfold sgn at this
  split at this <;> omega
theorem inf_of {d : Nat} {r : Int} (h : Good d r) (h1 : r = -9218868437227405312) : d % 9223372036854775808 = 9218868437227405312 := by
  have hl := nan_false h.2.1
  have := sgn_rank (by have := h.1.2; omega) h.2.1
  rw [h.2.2] at this
  unfold sgn at this
  split at this <;> omega

/-- The NaN that the tape gives. -/
def nanAns (x y : Nat) (w : World) : Nat := (Question.nanBits .f64 x y).cut (w.tape w.drawn (.nanBits .f64 x y))
theorem nanAns_nan (x y : Nat) (w : World) : nanB (nanAns x y w) = true := by
  unfold nanAns
  generalize w.tape w.drawn (.nanBits .f64 x y) = t
  show nanB (((t % 2) * 2 ^ 63 + 0x7ff0000000000000 + 1 + (t / 2) % (2 ^ 52 - 1) : Nat) : Int) = true
  have hp : t % 2 < 2 := by omega
  have hq : t / 2 % (2 ^ 52 - 1) < 4503599627370495 := Nat.mod_lt _ (by decide)
  generalize t % 2 = p at *
  generalize t / 2 % (2 ^ 52 - 1) = q at *
  unfold nanB szI
  rw [decide_eq_true_eq]
  omega
theorem run_sub_nan {P : Program} (t : TypeId) (x y : Nat) (h : FloatKind.f64.format.sub x y = none) (w : World) : (binOp .sub t (.float .f64 x) (.float .f64 y)).run P w = .ok (.float .f64 (nanAns x y w)) w.drew := by
  simp [binOp, Op.floatArith, h, Question.forced, nanAns]

theorem joinN_good {x : Nat} {r : Int} (h : Good x r) (hf : splOk x = true) : Good (joinN (splM x) (splE x)) r := by
  have hb := h.1.2
  have hz : szI (x : Int) < 9218868437227405312 := of_decide_eq_true hf
  have hx : x < 18446744073709551616 := by omega
  have hr : x % 9223372036854775808 < 9218868437227405312 := by unfold szI at hz; omega
  by_cases h0 : x % 9223372036854775808 = 0
  · have e0 : szI (x : Int) = 0 := by unfold szI; omega
    have e2 : splM x = 0 := by unfold splM magI; rw [e0]; simp
    have er : r = 0 := by rw [← h.2.2, ← sgn_rank hx h.2.1, h0]; unfold sgn; split <;> rfl
    unfold joinN
    rw [e2, if_pos rfl, er]; exact good_zero
  · have hn : szI (x : Int) ≠ 0 := by unfold szI; omega
    have em : magI (szI x) = (mg (x % 9223372036854775808) : Int) := by unfold magI mg szI; split <;> split <;> omega
    have ep : splE x = -1074 + (pl (x % 9223372036854775808) : Int) := by
      unfold splE plcI pl; rw [hf]; simp only [hn, ne_eq, not_false_eq_true, decide_true, Bool.and_true, if_true]; unfold szI; split <;> omega
    have hmg : 0 < mg (x % 9223372036854775808) := by unfold mg; split <;> omega
    have key := nearR_mg (r := x % 9223372036854775808) (by omega) hr
    have ej : joinN (splM x) (splE x) = x := by
      unfold joinN splM
      rw [hf, em, ep]
      simp only [if_true]
      cases hs : sgB x
      · simp only [Bool.false_eq_true, if_false]
        have hs' := of_decide_eq_false hs
        rw [if_neg (by omega), if_neg (by omega), Int.natAbs_natCast, key]; omega
      · simp only [if_true]
        have hs' := of_decide_eq_true hs
        rw [if_neg (by omega), if_pos (by omega), Int.natAbs_neg, Int.natAbs_natCast, key]; omega
    rw [ej]; exact h

theorem join_good {x : Nat} {r : Int} (h : Good x r) (hf : splOk x = true) : ∃ (m e : Int) (j : Nat), Good j r ∧ (∀ w, Calls Try.prog 19 #[.float .f64 x] w fun a w' => a = .returned (.tuple #[.int .i64 m, .int .i64 e, .bool true]) ∧ w' = w) ∧ ∀ w, Calls Try.prog 20 #[.int .i64 m, .int .i64 e] w fun a w' => a = .returned (.float .f64 j) ∧ ∃ n, w' = w.drewN n := by
  refine ⟨splM x, splE x, joinN (splM x) (splE x), joinN_good h hf, fun w => ?_, fun w => ?_⟩
  · have := split_as x x w rfl h.1
    rw [hf] at this; exact this
  · have hz : szI (x : Int) < 9218868437227405312 := of_decide_eq_true hf
    have hl := szI_lo (x : Int)
    have hb : -9223372036854775808 ≤ splM x ∧ splM x ≤ 9223372036854775807 := by unfold splM magI; rw [hf]; simp only [if_true]; split <;> split <;> omega
    exact join_any _ _ w hb.1 hb.2
theorem split_bad {x : Nat} (h : U64 x) (hf : splOk x = false) (w : World) : Calls Try.prog 19 #[.float .f64 x] w fun a w' => a = .returned (.tuple #[.int .i64 0, .int .i64 0, .bool false]) ∧ w' = w := by
  have := split_as x x w rfl h
  rw [hf, show splM x = 0 by simp [splM, hf], show splE x = 0 by simp [splE, hf]] at this; exact this
end Go.Proofs.Ytfonoonngdblpab
