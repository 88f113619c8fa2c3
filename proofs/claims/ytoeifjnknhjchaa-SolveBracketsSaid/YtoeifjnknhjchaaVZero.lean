/- A polynomial tells the same rank at both zeros, and so at words of one rank. -/
import Derived.Test.YtoeifjnknhjchaaHah
import Derived.Test.YtoeifjnknhjchaaFOrd
import Derived.Test.YtoeifjnknhjchaaHal
namespace Go.Proofs.Ytoeifjnknhjchaa
open Go.RowKit

theorem sz_of_rank {q : Nat} {k : Int} (hn : nanB (q : Int) = false) (h : rankI (q : Int) = k) : ((q % 9223372036854775808 : Nat) : Int) = (k.natAbs : Int) := by
  have e : szI (q : Int) = ((q % 9223372036854775808 : Nat) : Int) := by unfold szI; omega
  rw [← e, ← h]
  have hz := szI_lo (q : Int)
  unfold rankI
  rw [hn]
  simp only [Bool.false_eq_true, if_false]
  split <;> omega
theorem vI_zero {x : Nat} (h : x % 9223372036854775808 = 0) : vI x = 0 := by
  unfold vI
  rw [h]
  have : V 0 = 0 := by decide
  rw [this]; simp
theorem rnd_zero (p : Int) : rndI 0 p = 0 := by unfold rndI; rw [if_pos rfl]
theorem rank_zero {q : Nat} (_hq : q < 18446744073709551616) (hn : nanB (q : Int) = false) (h : rankI (q : Int) = 0) : q % 9223372036854775808 = 0 := by
  have := sz_of_rank hn h
  simp at this; omega
theorem rkw_some {q : Nat} {k : Int} (h : RkW q k) : rkA (some q) = some k := by
  show rkO q = _
  rw [rkO_num h.2.2, h.1]
theorem add_zero_rk {q q' c : Nat} (hq : q % 9223372036854775808 = 0) (hq' : q' % 9223372036854775808 = 0) (hc : c < 18446744073709551616) : rkA (floatBits .add .f64 q c) = rkA (floatBits .add .f64 q' c) := by
  have nq : NumB q := by unfold NumB; omega
  have nq' : NumB q' := by unfold NumB; omega
  cases hn : nanB (c : Int) with
  | true => rw [nan_right hn, nan_right hn]
  | false =>
    have hl := nan_false hn
    by_cases hi : c % 9223372036854775808 = 9218868437227405312
    · rw [(add_inf hi nq hc).2, (add_inf hi nq' hc).2]
    · have nc : NumB c := by unfold NumB; omega
      obtain ⟨r, e1, h1⟩ := add_rank nq nc
      obtain ⟨r', e2, h2⟩ := add_rank nq' nc
      rw [e1, e2, rkw_some h1, rkw_some h2, vI_zero hq, vI_zero hq']
theorem step_zero {x y : Nat} (hx : x % 9223372036854775808 = 0) (hy : y % 9223372036854775808 = 0) {o o' : Option Nat} (h : rkA o = rkA o') (ho : ∀ p, o = some p → p < 18446744073709551616) (ho' : ∀ p, o' = some p → p < 18446744073709551616) {c : Nat} (hc : c < 18446744073709551616) : rkA (stepO x o c) = rkA (stepO y o' c) := by
  have nx : NumB x := by unfold NumB; omega
  have ny : NumB y := by unfold NumB; omega
  have key : ∀ {o : Option Nat} {x : Nat}, rkA o = none → stepO x o c = none := by
    intro o x h
    cases o with
    | none => rfl
    | some p =>
      have hn := rkO_none (show rkO p = none from h)
      show ((floatBits .mul .f64 p x).bind fun q => floatBits .add .f64 q c) = none
      rw [nan_left hn]; rfl
  cases hr : rkA o with
  | none => rw [key hr, key (h.symm.trans hr)]
  | some r =>
    have hr' := h.symm.trans hr
    cases o with
    | none => simp [rkA] at hr
    | some p =>
      cases o' with
      | none => simp [rkA] at hr'
      | some p' =>
        obtain ⟨n1, k1⟩ := rkO_some (show rkO p = some r from hr)
        obtain ⟨n2, k2⟩ := rkO_some (show rkO p' = some r from hr')
        have hp := ho p rfl
        have hp' := ho' p' rfl
        have l1 := nan_false n1
        have l2 := nan_false n2
        have s1 := sz_of_rank n1 k1
        have s2 := sz_of_rank n2 k2
        show rkA ((floatBits .mul .f64 p x).bind fun q => floatBits .add .f64 q c) = rkA ((floatBits .mul .f64 p' y).bind fun q => floatBits .add .f64 q c)
        by_cases hi : p % 9223372036854775808 = 9218868437227405312
        · have hi' : p' % 9223372036854775808 = 9218868437227405312 := by omega
          rw [(mul_inf_zero hi hx).1, (mul_inf_zero hi' hy).1]
        · have np : NumB p := by unfold NumB; omega
          have np' : NumB p' := by unfold NumB; omega
          obtain ⟨q, e1, h1⟩ := mul_rank np nx
          obtain ⟨q', e2, h2⟩ := mul_rank np' ny
          rw [vI_zero hx, Int.mul_zero, rnd_zero] at h1
          rw [vI_zero hy, Int.mul_zero, rnd_zero] at h2
          rw [e1, e2]
          exact add_zero_rk (rank_zero h1.2.1 h1.2.2 h1.1) (rank_zero h2.2.1 h2.2.2 h2.1) hc
theorem horn_fit {cs : List Nat} {x : Nat} (hf : FitL cs) : ∀ k q, hornAt cs x k = some q → q < 18446744073709551616
  | 0, q, h => by
    have : cs.getD (cs.length - 1) 0 = q := Option.some.inj h
    rw [← this]; exact hf.get _
  | k + 1, q, h => by
    have h2 : stepO x (hornAt cs x k) (cs.getD (cs.length - 2 - k) 0) = some q := h
    rw [← stepO_cn] at h2
    exact float_lt (by simp) h2
theorem horn_zero {cs : List Nat} {x y : Nat} (hf : FitL cs) (hx : x % 9223372036854775808 = 0) (hy : y % 9223372036854775808 = 0) : ∀ k, rkA (hornAt cs x k) = rkA (hornAt cs y k)
  | 0 => rfl
  | k + 1 => by
    show rkA (stepO x (hornAt cs x k) _) = rkA (stepO y (hornAt cs y k) _)
    exact step_zero hx hy (horn_zero hf hx hy k) (fun p h => horn_fit hf k p h) (fun p h => horn_fit hf k p h) (hf.get _)
/-- At words of one rank a polynomial tells one rank. -/
theorem polyF_rank {cs : List Nat} (hf : FitL cs) {a b : Nat} {r : Int} (ha : Gd a r) (hb : Gd b r) : polyF cs a = polyF cs b := by
  by_cases h0 : r = 0
  · subst h0
    have h1 := sz_of_rank ha.n ha.e
    have h2 := sz_of_rank hb.n hb.e
    have h1' : a % 9223372036854775808 = 0 := by simp at h1; omega
    have h2' : b % 9223372036854775808 = 0 := by simp at h2; omega
    unfold polyF hornO
    split
    · rfl
    · exact horn_zero hf h1' h2' _
  · have : a = b := by
      have e1 := ha.e
      have e2 := hb.e
      have u1 := ha.u
      have u2 := hb.u
      have n1 := ha.n
      have n2 := hb.n
      unfold rankI at e1 e2
      rw [n1] at e1
      rw [n2] at e2
      simp only [Bool.false_eq_true, if_false] at e1 e2
      have z1 := szI_lo (a : Int)
      have z2 := szI_lo (b : Int)
      cases s1 : sgB (a : Int) with
      | true =>
        rw [s1, szI_of_neg u1 s1] at e1
        cases s2 : sgB (b : Int) with
        | true => rw [s2, szI_of_neg u2 s2] at e2; simp only [if_true] at e1 e2; omega
        | false => rw [szI_of_neg u1 s1] at z1; rw [s2] at e2; simp only [if_true, Bool.false_eq_true, if_false] at e1 e2; omega
      | false =>
        rw [s1] at e1
        cases s2 : sgB (b : Int) with
        | true => rw [s2] at e2; simp only [if_true, Bool.false_eq_true, if_false] at e1 e2; omega
        | false => rw [s2, szI_of_pos u2 s2] at e2; rw [szI_of_pos u1 s1] at e1; simp only [Bool.false_eq_true, if_false] at e1 e2; omega
    rw [this]
end Go.Proofs.Ytoeifjnknhjchaa
