/- The walk of FnSpecial: what Exp and Pow tell of special values. -/
import Derived.Test.YtlbpekncaikabaaFAwake
import Derived.Test.YtlbpekncaikabaaFPowAny
import Derived.Test.YtlbpekncaikabaaFExpC
namespace Go.Proofs.Ytlbpekncaikabaa
open Go.RowKit

theorem wrd_self {x : Nat} (h : x < 18446744073709551616) : wrd (sB x) (x % 9223372036854775808) = x := by
  unfold wrd sB
  rcases (show x / 9223372036854775808 = 0 ∨ x / 9223372036854775808 = 1 by omega) with e | e
  · rw [e]; simp; omega
  · rw [e]; simp; omega
/-- Once a float is itself. -/
theorem one_times {x : Nat} (h : x < 18446744073709551616) (hn : nanB x = false) : floatBits .mul .f64 4607182418800017408 x = some x := by
  have hl := nan_false hn
  by_cases hx : NumB x
  · obtain ⟨K, hK⟩ : ∃ K, K = 1074 := ⟨_, rfl⟩
    obtain ⟨a1, a2, a3, _⟩ := aV_fi (a := 1) hK (by decide) (by decide)
    rw [fi_one] at a1 a2 a3
    rw [mul_num a3 hx, a1, a2]
    refine congrArg some ?_
    have hs : ((decide ((1 : Int) < 0)) ^^ sB x) = sB x := by simp
    rw [hs, show (1 : Int).natAbs = 1 from rfl, Nat.one_mul]
    have hself := wrd_self h
    unfold mulR
    unfold NumB at hx
    unfold aV
    generalize x % 9223372036854775808 = r at *
    rw [Nat.mul_comm]
    by_cases h0 : V r * 2 ^ K = 0
    · rw [if_pos h0]
      have h1 : V r = 0 := by
        rcases Nat.mul_eq_zero.1 h0 with h | h
        · exact h
        · have := Nat.two_pow_pos K; omega
      have h2 := V_eq_iff (r := r) (s := 0)
      rw [V_zero] at h2
      rw [← h2.1 h1]; exact hself
    · rw [if_neg h0]
      have := nearR_V hx K
      rw [show (-1074 - (K : Int)) = -2148 by omega] at this
      rw [this]; exact hself
  · unfold NumB at hx
    rcases (show x = 9218868437227405312 ∨ x = 18442240474082181120 by omega) with e | e
    · subst e; decide +kernel
    · subst e; decide +kernel
theorem pow_one (x : Nat) (w : World) : Calls Try.prog 16 #[.float .f64 x, .int .i64 1] w fun e w' => ∃ r, e = .returned (.float .f64 r) ∧ Ag (floatBits .mul .f64 4607182418800017408 x) r ∧ ∃ q, w' = w.drewN q := by
  have e : powO x 1 = floatBits .mul .f64 4607182418800017408 x := by
    unfold powO
    rw [if_neg (by omega), if_neg (by omega), show (1 : Int).natAbs = 1 from rfl, wholeO_step _ _ (by omega), wholeO_zero, if_pos (by omega)]
    rfl
  rw [← e]
  exact pow_any x 1 w (by omega) (by omega)
theorem pow_nought (x : Nat) (w : World) : Calls Try.prog 16 #[.float .f64 x, .int .i64 0] w fun e w' => e = .returned (.float .f64 4607182418800017408) ∧ ∃ q, w' = w.drewN q := by
  have e : powO x 0 = some 4607182418800017408 := by
    unfold powO
    rw [if_neg (by omega), if_neg (by omega), show (0 : Int).natAbs = 0 from rfl, wholeO_zero]
  refine (pow_any x 0 w (by omega) (by omega)).mono ?_
  rintro _ w' ⟨r, rfl, hag, hq⟩
  rw [e] at hag
  rw [ag_some hag]
  exact ⟨rfl, hq⟩

theorem below_dr {B : Nat} {w w1 w2 : World} (hb : Below B w w1) (h : ∃ q, w2 = w1.drewN q) : Below B w w2 := by
  obtain ⟨q, rfl⟩ := h
  exact ⟨hb.os, hb.tape, hb.output, hb.size, hb.block⟩

set_option maxRecDepth 20000 in
set_option maxHeartbeats 1600000 in
theorem fnSpecial_nan (x : Nat) (hx : U64 x) (hn : nanB x = true) (w : World) :
    Calls Try.prog 7 #[.float .f64 x] w fun e w' => e = .returned (.bool true) ∧ Below w.heap.size w w' := by
  have o1 : (FloatKind.f64.format.order x x == some .eq) = false := by rw [eq_self hx, hn]; rfl
  have o2 : (FloatKind.f64.format.order x 0 == some .lt) = false := by rw [order_nan_left hn]; rfl
  have o3 : (FloatKind.f64.format.order x x != some .eq) = true := by rw [bne, o1]; rfl
  have o4 : (FloatKind.f64.format.order 4607182418800017408 4607182418800017408 == some .eq) = true := by decide +kernel
  have HE := hideS (exp_nan x w hx hn)
  have HP : Hid (∀ w, Calls Try.prog 16 #[.float .f64 x, .int .i64 1] w fun e w' => ∃ r, e = .returned (.float .f64 r) ∧ ((FloatKind.f64.format.order r r != some .eq) = true) ∧ ∃ q, w' = w.drewN q) := fun w => by
    refine (pow_one x w).mono ?_
    rintro _ w' ⟨r, rfl, hag, hq⟩
    rw [nan_right hn] at hag
    refine ⟨r, rfl, ?_, hq⟩
    rw [bne, eq_self (u64_of_nat (ag_none hag).2), (ag_none hag).1]; rfl
  have HQ : Hid (∀ w, Calls Try.prog 16 #[.float .f64 x, .int .i64 0] w fun e w' => e = .returned (.float .f64 4607182418800017408) ∧ ∃ q, w' = w.drewN q) := pow_nought x
  clear hx hn
  go_enter Try.func7, Try.ntmps7
  go_wp2_with fail
  refine (turned HE.out).mono ?_
  rintro e w' ⟨rfl, rfl⟩
  go_wp2_with fail
  refine (HP.out _).mono ?_
  rintro e w1 ⟨r, rfl, o5, hq⟩
  have B1 : Hid (Below w.heap.size w w1) := below_dr (Below.refl _ _) hq
  clear hq
  go_wp2_with fail
  refine (HQ.out _).mono ?_
  rintro e w2 ⟨rfl, hq⟩
  have B2 : Hid (Below w.heap.size w w2) := below_dr B1.out hq
  clear hq B1
  go_wp2_with fail
  refine (awake4 _).mono ?_
  rintro e w3 ⟨rfl, hb⟩
  have B3 : Hid (Below w.heap.size w w3) := B2.out.trans (hb.mono B2.out.size)
  clear hb B2
  go_wp2_with fail
  go_ret
  exact ⟨rfl, B3.out⟩

set_option maxRecDepth 20000 in
set_option maxHeartbeats 1600000 in
theorem fnSpecial_num (x : Nat) (hx : U64 x) (hn : nanB x = false) (w : World) :
    Calls Try.prog 7 #[.float .f64 x] w fun e w' => e = .returned (.bool true) ∧ Below w.heap.size w w' := by
  have o1 : (FloatKind.f64.format.order x x == some .eq) = true := by rw [eq_self hx, hn]; rfl
  have o3 : (FloatKind.f64.format.order x x != some .eq) = false := by rw [bne, o1]; rfl
  have o4 : (FloatKind.f64.format.order 4607182418800017408 4607182418800017408 == some .eq) = true := by decide +kernel
  obtain ⟨y, hE, hy⟩ := exp_ok x w hx hn
  have HE := hideS hE
  have yn : nanB (y : Int) = false := by unfold nanB szI; rw [decide_eq_false_iff_not]; omega
  have yu : U64 (y : Int) := by unfold U64; omega
  have o5 : (FloatKind.f64.format.order y y == some .eq) = true := by rw [eq_self yu, yn]; rfl
  have o6 : (FloatKind.f64.format.order y 0 == some .lt) = false := by
    rw [lt_rank yu (by unfold U64; omega) yn (by decide), decide_eq_false_iff_not]
    have h0 : rankI ((0 : Nat) : Int) = 0 := by decide
    rw [h0]
    unfold rankI
    rw [yn, if_neg (by decide)]
    have : sgB (y : Int) = false := by unfold sgB; rw [decide_eq_false_iff_not]; omega
    rw [this, if_neg (by decide)]
    have := szI_lo (y : Int)
    omega
  have HP : Hid (∀ w, Calls Try.prog 16 #[.float .f64 x, .int .i64 1] w fun e w' => e = .returned (.float .f64 x) ∧ ∃ q, w' = w.drewN q) := fun w => by
    refine (pow_one x w).mono ?_
    rintro _ w' ⟨r, rfl, hag, hq⟩
    rw [one_times (by have := hx.2; omega) hn] at hag
    rw [ag_some hag]
    exact ⟨rfl, hq⟩
  have HQ : Hid (∀ w, Calls Try.prog 16 #[.float .f64 x, .int .i64 0] w fun e w' => e = .returned (.float .f64 4607182418800017408) ∧ ∃ q, w' = w.drewN q) := pow_nought x
  obtain ⟨u, hu⟩ : ∃ u : Int, u = (x : Int) := ⟨_, rfl⟩
  have HB : Hid (∀ w, Calls Try.prog 12 #[.float .f64 x] w fun e w' => e = .returned (.int .u64 u) ∧ w' = w) := fun w => by rw [hu]; exact bits_any x w
  clear hx hn hE hy yn yu hu
  go_enter Try.func7, Try.ntmps7
  go_wp2_with fail
  refine HE.out.mono ?_
  rintro e w0 ⟨rfl, hb⟩
  have B0 := hideS hb
  clear hb
  go_wp2_with fail
  refine (HP.out _).mono ?_
  rintro e w1 ⟨rfl, hq⟩
  have B1 : Hid (Below w.heap.size w w1) := below_dr B0.out hq
  clear hq B0
  go_wp2_with fail
  refine (HQ.out _).mono ?_
  rintro e w2 ⟨rfl, hq⟩
  have B2 : Hid (Below w.heap.size w w2) := below_dr B1.out hq
  clear hq B1
  go_wp2_with fail
  refine (turned (HB.out _)).mono ?_
  rintro e w' ⟨rfl, rfl⟩
  go_wp2_with fail
  refine (turned (HB.out _)).mono ?_
  rintro e w' ⟨rfl, rfl⟩
  go_wp2_with fail
  refine (awake4 _).mono ?_
  rintro e w3 ⟨rfl, hb⟩
  have B3 : Hid (Below w.heap.size w w3) := B2.out.trans (hb.mono B2.out.size)
  clear hb B2
  go_wp2_with fail
  go_ret
  exact ⟨rfl, B3.out⟩

theorem fnSpecial_walk (x : Nat) (wx : (Lit.float .f64 x).wf = true) (w : World) :
    Calls Try.prog 7 #[.float .f64 x] w fun e w' => e = .returned (.bool true) ∧ Below w.heap.size w w' := by
  have hx := u64_of_wf wx
  cases hn : nanB (x : Int)
  · exact fnSpecial_num x hx hn w
  · exact fnSpecial_nan x hx hn w
end Go.Proofs.Ytlbpekncaikabaa
