/- A number above 0 as m * 2^k, m about 1: what about1 tells, and the document. The document's steps over what may be a NaN. The contract of the document's Ln. What factors and forwards of rates do where their arguments rise: no word of the program. Sizes held through steps: what is not greater than two bounds tells nothing greater than the bounds tell. Ln of a number above 0 is a number. The walk of FnLns: Ln of any float. Exp and Ln of the program alone. Exp and Ln of program and document as plain functions over what may be a NaN; the document's steps likewise. The contracts of package rate's small functions: isNumber, isPositive, number. -/
import Derived.Test.YtphnainibdepbaaGreatHbc
import Derived.Test.YtphnainibdepbaaGreatHav
import Derived.Test.YtphnainibdepbaaGreatHaw
import Derived.Test.YtphnainibdepbaaGreatHau
namespace Go.Proofs.YtphnainibdepbaaGreat
open Go.RowKit

def oneB (N : Nat) : Nat := 4602678819172646912 + N * 2 ^ (52 - N.log2)
theorem oneB_parts {N : Nat} (h0 : N ≠ 0) (h : N < 9007199254740992) : 4503599627370496 ≤ N * 2 ^ (52 - N.log2) ∧ N * 2 ^ (52 - N.log2) < 9007199254740992 := by
  have hl : N.log2 ≤ 52 := by have := (Nat.log2_lt h0).2 (show N < 2 ^ 53 from h); omega
  have a := Nat.log2_self_le h0
  have b : N < 2 ^ (N.log2 + 1) := Nat.lt_log2_self
  constructor
  · have := Nat.mul_le_mul_right (2 ^ (52 - N.log2)) a
    rw [← Nat.pow_add, show N.log2 + (52 - N.log2) = 52 by omega] at this; exact this
  · have := Nat.mul_lt_mul_of_pos_right b (Nat.two_pow_pos (52 - N.log2))
    rw [← Nat.pow_add, show N.log2 + 1 + (52 - N.log2) = 53 by omega] at this; exact this
theorem oneB_near {N : Nat} (h0 : N ≠ 0) (h : N < 9007199254740992) : nearR N (-(N.log2 : Int)) = oneB N := by
  have hl : N.log2 ≤ 52 := by have := (Nat.log2_lt h0).2 (show N < 2 ^ 53 from h); omega
  obtain ⟨p1, p2⟩ := oneB_parts h0 h
  have e := nearR_scale h0 (52 - N.log2) (-(N.log2 : Int))
  rw [show -(N.log2 : Int) - ((52 - N.log2 : Nat) : Int) = -52 by omega] at e
  rw [← e]
  unfold oneB
  generalize N * 2 ^ (52 - N.log2) = k at *
  have m1 : mg (4602678819172646912 + k) = k := by unfold mg; rw [if_neg (by omega)]; omega
  have m2 : pl (4602678819172646912 + k) = 1022 := by unfold pl; omega
  have := nearR_mg (r := 4602678819172646912 + k) (by omega) (by omega)
  rw [m1, m2] at this
  exact this
theorem oneB_rng {N : Nat} (h0 : N ≠ 0) (h : N < 9007199254740992) : 4607182418800017408 ≤ oneB N ∧ oneB N < 4611686018427387904 := by
  obtain ⟨p1, p2⟩ := oneB_parts h0 h
  unfold oneB; omega
theorem half_V {r : Nat} (h : 9007199254740992 ≤ r) : V r = 2 * V (r - 4503599627370496) ∧ mg (r - 4503599627370496) = mg r ∧ pl r = pl (r - 4503599627370496) + 1 := by
  have e1 : mg (r - 4503599627370496) = mg r := by unfold mg; rw [if_neg (by omega), if_neg (by omega)]; omega
  have e2 : pl r = pl (r - 4503599627370496) + 1 := by unfold pl; omega
  refine ⟨?_, e1, e2⟩
  unfold V
  rw [e1, e2, Nat.pow_succ, ← Nat.mul_assoc, Nat.mul_comm]
theorem wrd_plain (x : Nat) : wrd (false ^^ false) x = x := rfl
theorem half_quo {r : Nat} (h : 9007199254740992 ≤ r) (h2 : r < 9218868437227405312) : floatBits .quo .f64 r 4611686018427387904 = some (r - 4503599627370496) := by
  have hr : NumB r := by unfold NumB; omega
  have hm : r % 9223372036854775808 = r := Nat.mod_eq_of_lt (by omega)
  have hX0 : mg r ≠ 0 := mg_pos (by omega)
  have hXg : 4503599627370496 ≤ mg r := mg_ge (by omega)
  have hlg : 52 ≤ (mg r).log2 := (Nat.le_log2 hX0).2 hXg
  have hY : mg (4611686018427387904 % 9223372036854775808) = 4503599627370496 := by decide
  have hpY : pl (4611686018427387904 % 9223372036854775808) = 1023 := by decide
  have hYl : Nat.log2 4503599627370496 = 52 := by decide
  have e := quo_num (x := r) (y := 4611686018427387904) hr (by unfold NumB; decide) (by omega) (by decide) (X := mg r) (Y := 4503599627370496) (ex := -1074 + (pl r : Int)) (ey := -51) (by rw [hm]) hY.symm (by rw [hm]) (by rw [hpY]; rfl) (k := 54) (by rw [hYl]; omega)
  rw [e]
  refine congrArg some ?_
  have hq : quoS (mg r) 4503599627370496 54 = mg r * 2 ^ 3 := by
    unfold quoS
    rw [show (2 : Nat) ^ 54 = 4 * 4503599627370496 from rfl, ← Nat.mul_assoc, Nat.mul_div_cancel _ (by decide), Nat.mul_mod_left, if_pos rfl]; omega
  have hs : sB r = false := by unfold sB; rw [show r / 9223372036854775808 = 0 by omega]; rfl
  have hs2 : sB 4611686018427387904 = false := by decide
  rw [hq, hs, hs2]
  obtain ⟨v1, v2, v3⟩ := half_V h
  have e2 := nearR_scale hX0 3 (-1074 + (pl r : Int) - 1)
  rw [show -1074 + (pl r : Int) - 1 - ((3 : Nat) : Int) = -1074 + (pl r : Int) - -51 - 1 - ((54 : Nat) : Int) by omega] at e2
  rw [e2, ← v2, v3, show -1074 + ((pl (r - 4503599627370496) + 1 : Nat) : Int) - 1 = -1074 + (pl (r - 4503599627370496) : Int) by omega, nearR_mg (by omega) (by omega)]
  exact wrd_plain _

def lnM (N : Nat) : Nat := if 4609047870845172685 < oneB N then oneB N - 4503599627370496 else oneB N
def lnK (N : Nat) (e : Int) : Int := if 4609047870845172685 < oneB N then e + (N.log2 : Int) + 1 else e + (N.log2 : Int)
theorem lnM_num {N : Nat} (h0 : N ≠ 0) (h : N < 9007199254740992) : NumB (lnM N) ∧ lnM N < 9218868437227405312 := by
  obtain ⟨a, b⟩ := oneB_rng h0 h
  unfold lnM NumB
  split <;> omega
theorem gt_bits {m : Nat} (h : m < 9218868437227405312) : (FloatKind.f64.format.order m 4609047870845172685 == some .gt) = decide (4609047870845172685 < m) := by
  have u1 : U64 (m : Int) := by unfold U64; omega
  have u2 : U64 ((4609047870845172685 : Nat) : Int) := by unfold U64; omega
  have r1 := rank_small (b := m) h
  have r2 := rank_small (b := 4609047870845172685) (by decide)
  rw [gt_rank u1 u2 r1.2.1 r2.2.1, r1.2.2, r2.2.2]
  exact decide_eq_decide.2 (by omega)

theorem about1_any (x N : Nat) (e : Int) (hx : U64 x) (hn : NumB x) (ho : OfR x false N e) (h0 : N ≠ 0) (w : World) :
    Calls Tryz.prog 153 #[.float .f64 x] w fun r w' => r = .returned (.tuple #[.float .f64 (lnM N), .int .i64 (lnK N e)]) ∧ ∃ q, w' = w.drewN q := by
  have hx64 : x < 18446744073709551616 := by have := hx.2; omega
  obtain ⟨s1, s2, _⟩ := split_of ho hx64 hn h0
  have hlt := ho.lt
  have hlo := ho.lo
  have hhi := ho.hi
  have hl : N.log2 ≤ 52 := by have := (Nat.log2_lt h0).2 (show N < 2 ^ 53 from hlt); omega
  have hS : Hid (∀ w, Calls Tryz.prog 50 #[.float .f64 x] w fun r w' => r = .returned (.tuple #[.int .i64 (N : Int), .int .i64 e, .bool (splOk (x : Int))]) ∧ w' = w) := fun w => by
    have := split_as x x w rfl hx
    rw [s1, s2] at this; exact this
  have hL : Hid (∀ w, Calls Tryz.prog 160 #[.int .u64 (N : Int)] w fun r w' => r = .returned (.int .i64 ((N.log2 : Int) + 1)) ∧ w' = w) := fun w => by
    have := Tryz.bits_Len (N : Int) w (by omega) (by omega)
    rw [Int.toNat_natCast, bitLen_log2 h0 (by omega)] at this
    exact this
  have hJ : Hid (∀ w, Calls Tryz.prog 83 #[.int .i64 (N : Int), .int .i64 (1 - ((N.log2 : Int) + 1))] w fun r w' => r = .returned (.float .f64 (oneB N)) ∧ ∃ q, w' = w.drewN q) := fun w => by
    have := join_any (N : Int) (1 - ((N.log2 : Int) + 1)) w (by omega) (by omega)
    have e : joinN (N : Int) (1 - ((N.log2 : Int) + 1)) = oneB N := by
      unfold joinN
      rw [if_neg (by omega), if_neg (by omega), Int.natAbs_natCast, show 1 - ((N.log2 : Int) + 1) = -(N.log2 : Int) by omega, oneB_near h0 hlt]
    rw [e] at this; exact this
  obtain ⟨o1, o2⟩ := oneB_rng h0 hlt
  have := about1_at x (oneB N) (oneB N - 4503599627370496) (N : Int) e ((N.log2 : Int) + 1) _ _ w hS (by omega) (by omega) hL (by omega) hJ (gt_bits (by omega)) (half_quo (by omega) (by omega))
  refine this.mono ?_
  rintro r w' ⟨rfl, hq⟩
  refine ⟨?_, hq⟩
  unfold lnM lnK
  by_cases c : 4609047870845172685 < oneB N
  · rw [if_pos c, if_pos c, decide_eq_true c]
    simp only [if_true]
    rw [show e + ((N.log2 : Int) + 1) = e + (N.log2 : Int) + 1 by omega]
  · rw [if_neg c, if_neg c, decide_eq_false c]
    simp only [Bool.false_eq_true, if_false]
    rw [show e + ((N.log2 : Int) + 1) - 1 = e + (N.log2 : Int) by omega]
end Go.Proofs.YtphnainibdepbaaGreat
namespace Go.Proofs.YtphnainibdepbaaGreat
open Go.RowKit

theorem opO_cn (op : BinOp) (o o' : Option Nat) : floatBits op .f64 (cn o) (cn o') = opO op o o' := (opO_ag (ag_cn o) (ag_cn o')).symm

theorem opO_lt {op : BinOp} (ho : op = .add ∨ op = .sub ∨ op = .mul ∨ op = .quo) (o o' : Option Nat) : cn (opO op o o') < 18446744073709551616 := by rw [← opO_cn]; exact cn_lt ho _ _

end Go.Proofs.YtphnainibdepbaaGreat
namespace Go.Proofs.YtphnainibdepbaaGreat
open Go.RowKit

end Go.Proofs.YtphnainibdepbaaGreat
namespace Go.Proofs.YtphnainibdepbaaGreat

theorem rank_num {r : Nat} (h : NumB r) (h2 : r < 18446744073709551616) : -9218868437227405312 < rankI r ∧ rankI r < 9218868437227405312 := by
  rw [← sgn_rank h2 (num_nan h)]
  unfold NumB at h
  unfold sgn
  generalize (r / 9223372036854775808 % 2 == 1) = p at *
  cases p <;> simp only [Bool.false_eq_true, if_true, if_false] <;> omega
theorem sB_pos {b : Nat} (h : 0 < vI b) : sB b = false ∧ vI b = (aV b : Int) ∧ b % 9223372036854775808 ≠ 0 := by
  have hz : b % 9223372036854775808 ≠ 0 := by
    intro e
    rw [vI_sg] at h
    have : aV b = 0 := by unfold aV; rw [e]; exact V_zero
    rw [this] at h
    unfold sgZ at h
    split at h <;> omega
  rw [vI_sg] at h ⊢
  unfold sgZ at h ⊢
  cases e : sB b
  · exact ⟨rfl, by simp only [Bool.false_eq_true, if_false], hz⟩
  · rw [e] at h; simp only [if_true] at h; omega
theorem sub_up {x x' y f f' : Nat} (hx : NumB x) (hx' : NumB x') (hy : NumB y) (h : vI x ≤ vI x') (hf : floatBits .sub .f64 x y = some f) (hf' : floatBits .sub .f64 x' y = some f') : rankI f ≤ rankI f' := by
  obtain ⟨r, e, hr⟩ := sub_rank hx hy
  obtain ⟨r', e', hr'⟩ := sub_rank hx' hy
  obtain rfl := Option.some.inj (e.symm.trans hf)
  obtain rfl := Option.some.inj (e'.symm.trans hf')
  rw [hr.1, hr'.1]
  exact rnd_mono _ (by omega)
theorem mul_up {x y x' y' f f' : Nat} (hx : NumB x) (hx' : NumB x') (hy : NumB y) (hy' : NumB y') (h0 : 0 ≤ vI x) (h1 : 0 ≤ vI y) (h : vI x ≤ vI x') (h' : vI y ≤ vI y') (hf : floatBits .mul .f64 x y = some f) (hf' : floatBits .mul .f64 x' y' = some f') : 0 ≤ rankI f ∧ rankI f ≤ rankI f' := by
  obtain ⟨r, e, hr⟩ := mul_rank hx hy
  obtain ⟨r', e', hr'⟩ := mul_rank hx' hy'
  obtain rfl := Option.some.inj (e.symm.trans hf)
  obtain rfl := Option.some.inj (e'.symm.trans hf')
  rw [hr.1, hr'.1]
  refine ⟨rnd_mono (T := 0) _ (Int.mul_nonneg h0 h1), rnd_mono _ (Int.mul_le_mul h h' h1 (by omega))⟩
theorem step_fit {op : BinOp} {x y f : Nat} {k : Int} (h : ∃ r, floatBits op .f64 x y = some r ∧ RkW r k) (hf : floatBits op .f64 x y = some f) : RkW f k := by
  obtain ⟨r, e, hr⟩ := h
  obtain rfl := Option.some.inj (e.symm.trans hf)
  exact hr
end Go.Proofs.YtphnainibdepbaaGreat
namespace Go.Proofs.YtphnainibdepbaaGreat
open Go.RowKit

structure Bd (x c : Nat) : Prop where
  num : NumB x
  lt : x < 18446744073709551616
  lo : -(vI c) ≤ vI x
  hi : vI x ≤ vI c
theorem flip_neg {c : Nat} (hc : NumB c) (h : c < 18446744073709551616) : NumB (flipN c) ∧ flipN c < 18446744073709551616 ∧ rankI (flipN c : Int) = -rankI (c : Int) ∧ vI (flipN c) = -(vI c) := by
  obtain ⟨h1, h2, h3⟩ := flip_parts h
  have hn : NumB (flipN c) := by unfold NumB at hc ⊢; rw [h2]; exact hc
  refine ⟨hn, h1, ?_, ?_⟩
  · rw [← sgn_rank h1 (num_nan hn), ← sgn_rank h (num_nan hc), h2, h3]
    unfold sgn
    cases (c / 9223372036854775808 % 2 == 1) <;> simp
  · unfold vI
    rw [h2, h3]
    cases (c / 9223372036854775808 % 2 == 1) <;> simp
theorem bd_of {r c : Nat} {k : Int} (hr : RkW r k) (hc : NumB c) (h : c < 18446744073709551616) (h1 : -rankI (c : Int) ≤ k) (h2 : k ≤ rankI (c : Int)) : Bd r c := by
  obtain ⟨f1, f2, f3, f4⟩ := flip_neg hc h
  have hk := rank_num hc h
  have hn : NumB r := num_rank hr (by omega) (by omega)
  refine ⟨hn, hr.2.1, ?_, ?_⟩
  · rw [← f4]
    refine (rank_le_iff f1 hn f2 hr.2.1).1 ?_
    rw [f3, hr.1]; exact h1
  · refine (rank_le_iff hn hc hr.2.1 h).1 ?_
    rw [hr.1]; exact h2
theorem add_bd {x y a b c : Nat} (hx : Bd x a) (hy : Bd y b) (ha : NumB a) (hb : NumB b) (hc : NumB c) (e : floatBits .add .f64 a b = some c) : ∃ r, floatBits .add .f64 x y = some r ∧ Bd r c := by
  obtain ⟨r, e1, k1⟩ := add_rank hx.num hy.num
  have k2 := step_fit (add_rank ha hb) e
  have := hx.lo; have := hx.hi; have := hy.lo; have := hy.hi
  refine ⟨r, e1, bd_of k1 hc k2.2.1 ?_ ?_⟩
  · rw [k2.1, ← rnd_neg]; exact rnd_mono _ (by omega)
  · rw [k2.1]; exact rnd_mono _ (by omega)
theorem sub_bd {x y a b c : Nat} (hx : Bd x a) (hy : Bd y b) (ha : NumB a) (hb : NumB b) (hc : NumB c) (e : floatBits .add .f64 a b = some c) : ∃ r, floatBits .sub .f64 x y = some r ∧ Bd r c := by
  obtain ⟨r, e1, k1⟩ := sub_rank hx.num hy.num
  have k2 := step_fit (add_rank ha hb) e
  have := hx.lo; have := hx.hi; have := hy.lo; have := hy.hi
  refine ⟨r, e1, bd_of k1 hc k2.2.1 ?_ ?_⟩
  · rw [k2.1, ← rnd_neg]; exact rnd_mono _ (by omega)
  · rw [k2.1]; exact rnd_mono _ (by omega)
theorem mul_bd {x y a b c : Nat} (hx : Bd x a) (hy : Bd y b) (ha : NumB a) (hb : NumB b) (hc : NumB c) (e : floatBits .mul .f64 a b = some c) : ∃ r, floatBits .mul .f64 x y = some r ∧ Bd r c := by
  obtain ⟨r, e1, k1⟩ := mul_rank hx.num hy.num
  have k2 := step_fit (mul_rank ha hb) e
  obtain ⟨l, u⟩ := abs_mul_le hx.lo hx.hi hy.lo hy.hi
  refine ⟨r, e1, bd_of k1 hc k2.2.1 ?_ ?_⟩
  · rw [k2.1, ← rnd_neg]; exact rnd_mono _ l
  · rw [k2.1]; exact rnd_mono _ u
theorem vI_abs (x : Nat) : vI x = (aV x : Int) ∨ vI x = -(aV x : Int) := by
  rw [vI_sg]; unfold sgZ
  cases sB x
  · exact Or.inl rfl
  · exact Or.inr rfl
theorem quo_bd {x y a d c : Nat} (hx : Bd x a) (hy : NumB y) (hd : vI d ≤ vI y) (d0 : 0 < vI d) (ha : NumB a) (hdn : NumB d) (hc : NumB c) (e : floatBits .quo .f64 a d = some c) : ∃ r, floatBits .quo .f64 x y = some r ∧ Bd r c := by
  obtain ⟨s1, e1, z1⟩ := sB_pos (b := y) (by omega)
  obtain ⟨s2, e2, z2⟩ := sB_pos d0
  obtain ⟨r, e3, k3⟩ := quo_rank hx.num hy z1
  have k4 := step_fit (quo_rank ha hdn z2) e
  have a0 : 0 ≤ vI a := by have := hx.lo; have := hx.hi; omega
  have hax : aV x ≤ aV a := by
    have h1 := hx.lo
    have h2 := hx.hi
    rcases vI_abs x with h | h <;> rcases vI_abs a with h' | h' <;> omega
  have hq : qR (aV x) (aV y) ≤ qR (aV a) (aV d) := Nat.le_trans (qR_up hax) (qR_down (by omega) (by omega))
  have hrc : rankI (c : Int) = (qR (aV a) (aV d) : Int) := by
    rw [k4.1, s2]
    by_cases hz : aV a = 0
    · have : qR (aV a) (aV d) = 0 := by unfold qR; rw [if_pos hz]
      rw [this]; unfold sgZ; split <;> simp
    · have : sB a = false := by
        have h1 := vI_sg a
        cases hs : sB a with
        | false => rfl
        | true => rw [hs] at h1; unfold sgZ at h1; simp at h1; omega
      rw [this]; rfl
  refine ⟨r, e3, bd_of k3 hc k4.2.1 ?_ ?_⟩
  · rw [hrc]; unfold sgZ; split <;> omega
  · rw [hrc]; unfold sgZ; split <;> omega
theorem bd_bits {x c : Nat} (h : x ≤ c) (hc : c < 9218868437227405312) : Bd x c := by
  have hx : NumB x := by unfold NumB; omega
  have hn : NumB c := by unfold NumB; omega
  have r1 := (rk_pos (r := x) (by omega)).1
  have r2 := (rk_pos (r := c) (by omega)).1
  have r0 : rankI ((0 : Nat) : Int) = 0 := by decide
  have v0 : vI 0 = 0 := by decide +kernel
  have n0 : NumB 0 := by unfold NumB; decide
  have h1 := (rank_le_iff hx hn (by omega) (by omega)).1 (by rw [r1, r2]; omega)
  have h2 := (rank_le_iff n0 hx (by omega) (by omega)).1 (by rw [r0, r1]; omega)
  have h3 := (rank_le_iff n0 hn (by omega) (by omega)).1 (by rw [r0, r2]; omega)
  rw [v0] at h2 h3
  exact ⟨hx, by omega, by omega, h1⟩
end Go.Proofs.YtphnainibdepbaaGreat
namespace Go.Proofs.YtphnainibdepbaaGreat
open Go.RowKit

theorem horn_bd {cs : List Nat} {x z : Nat} {B M : Nat → Nat} {n : Nat} (hx : Bd x z) (hz : NumB z) (h0 : Bd (cs.getD (cs.length - 1) 0) (B 0)) (hB : ∀ i, i ≤ n → NumB (B i)) (hM : ∀ i, i < n → NumB (M i)) (hc : ∀ i, i < n → Bd (cs.getD (cs.length - 2 - i) 0) 4607182418800017408)
    (e1 : ∀ i, i < n → floatBits .mul .f64 (B i) z = some (M i)) (e2 : ∀ i, i < n → floatBits .add .f64 (M i) 4607182418800017408 = some (B (i + 1))) : ∀ i, i ≤ n → ∃ r, hornAt cs x i = some r ∧ Bd r (B i) := by
  intro i
  induction i with
  | zero => exact fun _ => ⟨_, rfl, h0⟩
  | succ i ih =>
    intro hi
    obtain ⟨r, hr, hb⟩ := ih (by omega)
    obtain ⟨m, hm, hbm⟩ := mul_bd hb hx (hB i (by omega)) hz (hM i (by omega)) (e1 i (by omega))
    obtain ⟨s, hs, hbs⟩ := add_bd hbm (hc i (by omega)) (hM i (by omega)) (by unfold NumB; decide) (hB (i + 1) hi) (e2 i (by omega))
    refine ⟨s, ?_, hbs⟩
    show stepO x (hornAt cs x i) _ = some s
    rw [hr]
    show ((some r).bind fun p => floatBits .mul .f64 p x).bind _ = some s
    rw [show ((some r).bind fun p => floatBits .mul .f64 p x) = floatBits .mul .f64 r x from rfl, hm]
    exact hs
def nineN : Nat → Nat
  | 0 => 1
  | n + 1 => 9 * nineN n + 1
def nineB (i : Nat) : Nat := fi (nineN i : Int)
def nineM (i : Nat) : Nat := fi ((9 * nineN i : Nat) : Int)
theorem nine_fit : ∀ i, i < 11 → (nineB i) % 9223372036854775808 < 9218868437227405312 ∧ (nineM i) % 9223372036854775808 < 9218868437227405312 ∧ floatBits .mul .f64 (nineB i) 4621256167635550208 = some (nineM i) ∧ floatBits .add .f64 (nineM i) 4607182418800017408 = some (nineB (i + 1)) := by decide +kernel
theorem ln_coef : ∀ i, i < 11 → lnL.getD i 0 ≤ 4607182418800017408 := by decide +kernel
theorem horn_ln {z : Nat} (hz : Bd z 4621256167635550208) : ∃ h, hornO lnL z = some h ∧ Bd h (nineB 10) := by
  have hb := horn_bd (cs := lnL) (x := z) (z := 4621256167635550208) (B := nineB) (M := nineM) (n := 10) hz (by unfold NumB; decide) (bd_bits (ln_coef _ (by rw [lnL_len]; decide)) (by decide)) (fun i hi => (nine_fit i (by omega)).1) (fun i hi => (nine_fit i (by omega)).2.1) (fun i hi => bd_bits (ln_coef _ (by rw [lnL_len]; omega)) (by decide)) (fun i hi => (nine_fit i (by omega)).2.2.1) (fun i hi => (nine_fit i (by omega)).2.2.2) 10 (Nat.le_refl _)
  obtain ⟨r, hr, hb⟩ := hb
  refine ⟨r, ?_, hb⟩
  unfold hornO
  rw [if_neg (by rw [lnL_len]; decide), lnL_len]; exact hr
theorem lnM_rng {N : Nat} (h0 : N ≠ 0) (h : N < 9007199254740992) : lnM N ≤ 4611686018427387904 := by
  obtain ⟨a, b⟩ := oneB_rng h0 h
  unfold lnM
  split <;> omega
theorem fi_bd {k : Int} (h1 : -2000 ≤ k) (h2 : k ≤ 2000) : Bd (fi k) (fi 2000) := by
  obtain ⟨K, hK⟩ : ∃ K, K = 1074 := ⟨_, rfl⟩
  obtain ⟨v1, n1, _, l1⟩ := vI_fi (m := k) hK (by omega) (by omega)
  obtain ⟨v2, _, _, _⟩ := vI_fi (m := 2000) hK (by decide) (by decide)
  have p : (0 : Int) ≤ ((2 ^ K : Nat) : Int) := Int.natCast_nonneg _
  refine ⟨n1, l1, ?_, ?_⟩
  · rw [v1, v2, ← Int.neg_mul]; exact Int.mul_le_mul_of_nonneg_right (by omega) p
  · rw [v1, v2]; exact Int.mul_le_mul_of_nonneg_right h2 p
theorem dec_num (x : Nat) (h : decide (x % 9223372036854775808 < 9218868437227405312) = true) : NumB x := by unfold NumB; exact of_decide_eq_true h
theorem ln_number {N a b hi lo : Nat} {k : Int} (h0 : N ≠ 0) (h : N < 9007199254740992) (hk : -2000 ≤ k ∧ k ≤ 2000) (q1 : floatBits .sub .f64 (lnM N) 4607182418800017408 = some a) (q2 : floatBits .add .f64 (lnM N) 4607182418800017408 = some b) (q8 : floatBits .mul .f64 (fi k) 4604418534311723008 = some hi) (q9 : floatBits .mul .f64 (fi k) 4461442080421002358 = some lo) : ∃ y, lnO a b hi lo = some y ∧ NumB y := by
  have hm : Bd (lnM N) 4611686018427387904 := bd_bits (lnM_rng h0 h) (by decide)
  have ho : Bd 4607182418800017408 4607182418800017408 := bd_bits (Nat.le_refl _) (by decide)
  have n1 : NumB 4607182418800017408 := dec_num _ (by decide)
  have n2 : NumB 4611686018427387904 := dec_num _ (by decide)
  have n3 : NumB 4613937818241073152 := dec_num _ (by decide)
  obtain ⟨a', ea, ba⟩ := sub_bd (c := 4613937818241073152) hm ho n2 n1 n3 (by decide +kernel)
  obtain rfl := Option.some.inj (ea.symm.trans q1)
  obtain ⟨b', eb, bb⟩ := add_bd (c := 4613937818241073152) hm ho n2 n1 n3 (by decide +kernel)
  obtain rfl := Option.some.inj (eb.symm.trans q2)
  have v0 : vI 0 = 0 := by decide +kernel
  have n0 : NumB 0 := by unfold NumB; decide
  have m0 : 0 ≤ vI (lnM N) := by
    have r1 := (rk_pos (r := lnM N) (by have := lnM_rng h0 h; omega)).1
    have := (rank_le_iff n0 hm.num (by decide) hm.lt).1 (by rw [r1, show rankI ((0 : Nat) : Int) = 0 by decide]; omega)
    rw [v0] at this; exact this
  have hone : floatBits .add .f64 0 4607182418800017408 = some 4607182418800017408 := by decide +kernel
  have b1 : vI 4607182418800017408 ≤ vI b' := by
    obtain ⟨r, e, kr⟩ := add_rank n0 n1
    rw [hone] at e
    obtain rfl := Option.some.inj e
    have kb := step_fit (add_rank hm.num n1) q2
    refine (rank_le_iff n1 bb.num (by decide) bb.lt).1 ?_
    rw [kr.1, kb.1]
    exact rnd_mono _ (by rw [v0]; omega)
  have one0 : 0 < vI 4607182418800017408 := by
    have := (rank_lt_iff n0 n1 (by decide) (by decide)).1 (by decide)
    rw [v0] at this; exact this
  obtain ⟨s, es, bs⟩ := quo_bd (c := 4613937818241073152) ba bb.num b1 one0 n3 n1 n3 (by decide +kernel)
  obtain ⟨s2, es2, bs2⟩ := mul_bd (c := 4618441417868443648) (bd_bits (x := 4611686018427387904) (Nat.le_refl _) (by decide)) bs n2 n3 (dec_num _ (by decide)) (by decide +kernel)
  obtain ⟨z, ez, bz⟩ := mul_bd (c := 4621256167635550208) bs bs n3 n3 (dec_num _ (by decide)) (by decide +kernel)
  obtain ⟨hh, eh, bh⟩ := horn_ln bz
  obtain ⟨v, ev, bv⟩ := mul_bd (c := fi ((6 * nineN 10 : Nat) : Int)) bs2 bh (dec_num _ (by decide)) (nine_fit 10 (by decide)).1 (dec_num _ (by decide +kernel)) (by decide +kernel)
  have bk := fi_bd hk.1 hk.2
  have nk : NumB (fi 2000) := dec_num _ (by decide +kernel)
  obtain ⟨hi', ehi, bhi⟩ := mul_bd (c := fi 2000) bk (bd_bits (x := 4604418534311723008) (c := 4607182418800017408) (by decide) (by decide)) nk n1 nk (by decide +kernel)
  obtain rfl := Option.some.inj (ehi.symm.trans q8)
  obtain ⟨lo', elo, blo⟩ := mul_bd (c := fi 2000) bk (bd_bits (x := 4461442080421002358) (c := 4607182418800017408) (by decide) (by decide)) nk n1 nk (by decide +kernel)
  obtain rfl := Option.some.inj (elo.symm.trans q9)
  obtain ⟨c, ec, bc⟩ := add_bd (c := fi ((6 * nineN 10 + 2000 : Nat) : Int)) bv blo (dec_num _ (by decide +kernel)) nk (dec_num _ (by decide +kernel)) (by decide +kernel)
  obtain ⟨y, ey, by'⟩ := add_bd (c := fi ((6 * nineN 10 + 4000 : Nat) : Int)) bhi bc nk (dec_num _ (by decide +kernel)) (dec_num _ (by decide +kernel)) (by decide +kernel)
  refine ⟨y, ?_, by'.num⟩
  unfold lnO
  rw [es, show opO .mul (some 4611686018427387904) (some s) = _ from es2, show opO .mul (some s) (some s) = _ from ez, show ((some z).bind fun z => hornO lnL z) = _ from eh, show opO .mul (some s2) (some hh) = _ from ev, show opO .add (some v) (some lo') = _ from ec]
  exact ey
end Go.Proofs.YtphnainibdepbaaGreat
namespace Go.Proofs.YtphnainibdepbaaGreat
open Go.RowKit

end Go.Proofs.YtphnainibdepbaaGreat
namespace Go.Proofs.YtphnainibdepbaaGreat
open Go.RowKit

theorem exp_alone (x : Nat) (h : U64 x) : ∃ y : Nat, (∀ w, Calls Tryz.prog 137 #[.float .f64 x] w fun e w' => e = .returned (.float .f64 y) ∧ Below w.heap.size w w') ∧ y < 18446744073709551616 ∧ (nanB (x : Int) = true → nanB (y : Int) = true) ∧ (nanB (x : Int) = false → y ≤ 9218868437227405312) := by
  have hx64 : x < 18446744073709551616 := by have := h.2; omega
  cases hn : nanB (x : Int) with
  | true => exact ⟨x, fun w => to_below (exp_nan x w h hn), hx64, fun _ => hn, fun a => by cases a⟩
  | false =>
    have u1 : U64 ((4649456441864749056 : Nat) : Int) := by unfold U64; omega
    have u2 : U64 ((13873145138068324352 : Nat) : Int) := by unfold U64; omega
    have n1 : nanB ((4649456441864749056 : Nat) : Int) = false := by decide +kernel
    have n2 : nanB ((13873145138068324352 : Nat) : Int) = false := by decide +kernel
    have g1 := gt_rank h u1 hn n1
    have e1 := eq_rank h u1 hn n1
    have g2 := lt_rank h u2 hn n2
    have e2 := eq_rank h u2 hn n2
    have r1 : rankI ((4649456441864749056 : Nat) : Int) = 4649456441864749056 := by decide +kernel
    have r2 : rankI ((13873145138068324352 : Nat) : Int) = -4649773101213548544 := by decide +kernel
    rw [r1] at g1 e1
    rw [r2] at g2 e2
    by_cases c1 : 4649456441864749056 ≤ rankI (x : Int)
    · refine ⟨9218868437227405312, fun w => to_below (exp_hi x _ _ w h hn g1 e1 ?_), by decide, fun a => (by cases a), fun _ => Nat.le_refl _⟩
      · simp only [Bool.or_eq_true, decide_eq_true_eq]; omega
    have f1 : (FloatKind.f64.format.order x 4649456441864749056 == some .gt) = false := by rw [g1, decide_eq_false_iff_not]; omega
    have f2 : (FloatKind.f64.format.order x 4649456441864749056 == some .eq) = false := by rw [e1, decide_eq_false_iff_not]; omega
    by_cases c2 : rankI (x : Int) ≤ -4649773101213548544
    · refine ⟨0, fun w => to_below (exp_lo x _ _ w h hn f1 f2 g2 e2 ?_), by decide, fun a => (by cases a), fun _ => Nat.zero_le _⟩
      · simp only [Bool.or_eq_true, decide_eq_true_eq]; omega
    have f3 : (FloatKind.f64.format.order x 13873145138068324352 == some .lt) = false := by rw [g2, decide_eq_false_iff_not]; omega
    have f4 : (FloatKind.f64.format.order x 13873145138068324352 == some .eq) = false := by rw [e2, decide_eq_false_iff_not]; omega
    obtain ⟨K, g, hs⟩ := scale
    have hxn : NumB x := by
      have hl := nan_false hn
      rw [← sgn_rank hx64 hn] at c1 c2
      unfold NumB
      unfold sgn at c1 c2
      generalize x % 9223372036854775808 = r at *
      generalize (x / 9223372036854775808 % 2 == 1) = s at c1 c2
      cases s <;> simp only [Bool.false_eq_true, if_true, if_false] at c1 c2 <;> omega
    obtain ⟨w1, w2, w3⟩ := fi_worth hs (m := 710) (by decide) (by decide)
    obtain ⟨v1, v2, v3⟩ := fi_worth hs (m := -746) (by decide) (by decide)
    rw [c710] at w1 w2 w3
    rw [c746] at v1 v2 v3
    have b1 := rank_worth hxn w2 hx64 w3 (by rw [r1]; omega)
    have b2 := rank_worth v2 hxn v3 hx64 (by rw [r2]; omega)
    rw [w1] at b1
    rw [v1] at b2
    obtain ⟨y, t, hi, lo, d, r, k, q1, q2, tn, q3, kf1, kf2, k1, k2, q4, q5, q6, q7, rn, _, r1, r2⟩ := exp_chain hs hxn (by omega) (by omega)
    obtain ⟨p, p0, pn, p64, pv⟩ := horn_exp hs rn r1 r2
    obtain ⟨s1, s2, s3, s4⟩ := spl_of pn p64 pv
    exact ⟨joinN (splM p) (splE p + k), fun w => exp_mid x y t (fi k) hi lo d r p k w h hn f1 f2 f3 f4 q1 q2 (fun w => floor_at t _ w tn q3) q4 q5 q6 q7 p0 (u64_of_nat p64) (toInt_fi k1 k2) ⟨k1, k2⟩ ⟨s3, s4⟩ (spl_rng s1 s2), joinN_lt _ _, fun a => (by cases a), fun _ => join_top s1⟩

structure LnOne (x : Nat) (o : Option Nat) : Prop where
  prog : ∀ w, Calls Tryz.prog 138 #[.float .f64 x] w fun e w' => ∃ y, e = .returned (.float .f64 y) ∧ Ag o y ∧ Below w.heap.size w w'
  lt : cn o < 18446744073709551616
  nan : nanB (x : Int) = true → o = none
  fin : NumB x → sB x = false → x % 9223372036854775808 ≠ 0 → ∃ y, o = some y ∧ NumB y
theorem lnOne_of {x : Nat} {y : Nat} (hp : ∀ w, Calls Tryz.prog 138 #[.float .f64 x] w fun e w' => e = .returned (.float .f64 y) ∧ w' = w) (hy : U64 (y : Int)) (hn : nanB (x : Int) = false) (hc : ¬ (NumB x ∧ x % 9223372036854775808 ≠ 0)) : LnOne x (some y) :=
  ⟨fun w => (hp w).mono fun _ _ ⟨a, b⟩ => ⟨y, a, rfl, by rw [b]; exact Below.refl _ _⟩, by have := hy.2; rw [cn_some]; omega, fun a => (by rw [hn] at a; cases a), fun a _ b => absurd ⟨a, b⟩ hc⟩
theorem lnOne_nan {x : Nat} {y : Nat} (hp : ∀ w, Calls Tryz.prog 138 #[.float .f64 x] w fun e w' => e = .returned (.float .f64 y) ∧ w' = w) (hn : nanB (y : Int) = true := by first | assumption | decide) (hy : y < 18446744073709551616 := by first | assumption | decide) (hc : NumB x → sB x = true) : LnOne x none :=
  ⟨fun w => (hp w).mono fun _ _ ⟨a, b⟩ => ⟨y, a, ⟨hn, hy⟩, by rw [b]; exact Below.refl _ _⟩, by rw [cn_none]; omega, fun _ => rfl, fun a b _ => by rw [hc a] at b; cases b⟩

theorem ln_alone (x : Nat) (h : U64 x) : ∃ o, LnOne x o := by
  have hx64 : x < 18446744073709551616 := by have := h.2; omega
  cases hn : nanB (x : Int) with
  | true => exact ⟨none, lnOne_nan (fun w => ln_nan x w h hn) (hc := fun a => by rw [num_nan a] at hn; cases hn)⟩
  | false =>
    have z0 : U64 ((0 : Nat) : Int) := by unfold U64; omega
    have o1 := lt_rank h z0 hn (by decide)
    have o2 := eq_rank h z0 hn (by decide)
    have hr0 : rankI ((0 : Nat) : Int) = 0 := by decide
    rw [hr0] at o1 o2
    have hrk := sgn_rank hx64 hn
    have hl := nan_false hn
    by_cases hz : x % 9223372036854775808 = 0
    · have hrz : rankI (x : Int) = 0 := by rw [← hrk, hz]; unfold sgn; split <;> rfl
      refine ⟨some 18442240474082181120, lnOne_of (fun w => ln_zero x w h hn ?_ ?_) (by unfold U64; omega) hn (fun a => a.2 hz)⟩
      · rw [o1, hrz]; rfl
      · rw [o2, hrz]; rfl
    · cases hs : sB x with
      | true =>
        have hneg : rankI (x : Int) < 0 := by
          rw [← hrk]
          have hs' : (x / 9223372036854775808 % 2 == 1) = true := hs
          rw [hs']; unfold sgn; simp; omega
        refine ⟨none, lnOne_nan (fun w => ln_neg x w h hn ?_) (hc := fun _ => hs)⟩
        rw [o1]; exact decide_eq_true hneg
      | false =>
        have hs' : (x / 9223372036854775808 % 2 == 1) = false := hs
        have hpos : rankI (x : Int) = ((x % 9223372036854775808 : Nat) : Int) := by rw [← hrk, hs']; rfl
        have a1 : (FloatKind.f64.format.order x 0 == some .lt) = false := by rw [o1, hpos, decide_eq_false_iff_not]; omega
        have a2 : (FloatKind.f64.format.order x 0 == some .eq) = false := by rw [o2, hpos, decide_eq_false_iff_not]; omega
        have um : U64 ((9218868437227405311 : Nat) : Int) := by unfold U64; omega
        have o3 := gt_rank h um hn (by decide)
        have hrm : rankI ((9218868437227405311 : Nat) : Int) = 9218868437227405311 := by decide
        rw [hrm, hpos] at o3
        by_cases hinf : x % 9223372036854775808 = 9218868437227405312
        · refine ⟨some x, ?_⟩
          refine lnOne_of (y := x) (fun w => ln_inf x w h hn a1 a2 ?_) h hn (fun a => by have := a.1; unfold NumB at this; omega)
          rw [o3]; exact decide_eq_true (by omega)
        · have hxn : NumB x := by unfold NumB; omega
          have a3 : (FloatKind.f64.format.order x 9218868437227405311 == some .gt) = false := by rw [o3, decide_eq_false_iff_not]; omega
          -- its real
          have hN0 : mg (x % 9223372036854775808) ≠ 0 := mg_pos hz
          have hpl : pl (x % 9223372036854775808) ≤ 2045 := by unfold pl; omega
          obtain ⟨N, hN⟩ : ∃ N, N = mg (x % 9223372036854775808) := ⟨_, rfl⟩
          obtain ⟨e, he⟩ : ∃ e : Int, e = -1074 + (pl (x % 9223372036854775808) : Int) := ⟨_, rfl⟩
          have ho : OfR x false N e := ⟨by rw [hN]; exact mg_lt _, by omega, by omega, by rw [hN, he]; unfold aV V; congr 2; omega, fun _ => hs.symm, fun _ => ⟨hN, he⟩⟩
          rw [← hN] at hN0
          have hlt := ho.lt
          have hlo := ho.lo
          have hhi := ho.hi
          have hlg : N.log2 ≤ 52 := by have := (Nat.log2_lt hN0).2 (show N < 2 ^ 53 from hlt); omega
          have hk : -2000 ≤ lnK N e ∧ lnK N e ≤ 2000 := by unfold lnK; split <;> omega
          have hm := (lnM_num hN0 hlt).1
          have n1 : NumB 4607182418800017408 := by unfold NumB; decide
          have fk := (aV_fi (a := lnK N e) rfl (by omega) (by omega)).2.2.1
          have q1 := sub_num hm n1
          have q2 := add_num hm n1
          have q8 := mul_num fk (show NumB 4604418534311723008 by unfold NumB; decide)
          have q9 := mul_num fk (show NumB 4461442080421002358 by unfold NumB; decide)
          refine ⟨_, ⟨fun w => (ln_ag x (lnM N) _ _ _ _ _ (lnK N e) w h hn a1 a2 a3 (fun w => about1_any x N e h hxn ho hN0 w) q1 q2 rfl q8 q9).mono ?_, opO_lt (by simp) _ _, fun a => (by rw [hn] at a; cases a), fun _ _ _ => ln_number hN0 hlt hk q1 q2 q8 q9⟩⟩
          rintro r w' ⟨y, rfl, hag, hb⟩
          exact ⟨y, rfl, hag, hb⟩
end Go.Proofs.YtphnainibdepbaaGreat
namespace Go.Proofs.YtphnainibdepbaaGreat
open Go.RowKit

structure ExpR (x : Nat) (o : Option Nat) : Prop where
  prog : ∀ w, Calls Tryz.prog 137 #[.float .f64 x] w fun e w' => ∃ y, e = .returned (.float .f64 y) ∧ (Ag o y ∧ y < 18446744073709551616) ∧ Below w.heap.size w w'
  nan : nanB (x : Int) = true → o = none
  num : nanB (x : Int) = false → ∃ y, o = some y ∧ y ≤ 9218868437227405312
theorem exp_ex (x : Nat) : ∃ o, x < 18446744073709551616 → ExpR x o := by
  by_cases h : x < 18446744073709551616
  · obtain ⟨y, hb, hy, h1, h2⟩ := exp_alone x (u64_of_nat h)
    cases hn : nanB (x : Int) with
    | true => exact ⟨none, fun _ => ⟨fun w => (hb w).mono fun _ _ ⟨a, b⟩ => ⟨y, a, ⟨⟨h1 hn, hy⟩, hy⟩, b⟩, fun _ => rfl, fun a => by rw [hn] at a; cases a⟩⟩
    | false => exact ⟨some y, fun _ => ⟨fun w => (hb w).mono fun _ _ ⟨a, b⟩ => ⟨y, a, ⟨rfl, hy⟩, b⟩, fun a => (by rw [hn] at a; cases a), fun _ => ⟨y, rfl, h2 hn⟩⟩⟩
  · exact ⟨none, fun a => absurd a h⟩
noncomputable def expF (x : Nat) : Option Nat := Classical.choose (exp_ex x)
theorem expF_says {x : Nat} (h : x < 18446744073709551616) : ExpR x (expF x) := Classical.choose_spec (exp_ex x) h
structure LnR (x : Nat) (o : Option Nat) : Prop where
  prog : ∀ w, Calls Tryz.prog 138 #[.float .f64 x] w fun e w' => ∃ y, e = .returned (.float .f64 y) ∧ (Ag o y ∧ y < 18446744073709551616) ∧ Below w.heap.size w w'
  lt : cn o < 18446744073709551616
  nan : nanB (x : Int) = true → o = none
  fin : NumB x → sB x = false → x % 9223372036854775808 ≠ 0 → ∃ y, o = some y ∧ NumB y
theorem ln_ex (x : Nat) : ∃ o, x < 18446744073709551616 → LnR x o := by
  by_cases h : x < 18446744073709551616
  · obtain ⟨o, hb⟩ := ln_alone x (u64_of_nat h)
    refine ⟨o, fun _ => ⟨fun w => (hb.prog w).mono ?_, hb.lt, hb.nan, hb.fin⟩⟩
    rintro _ w' ⟨y, rfl, hag, hbb⟩
    exact ⟨y, rfl, ⟨hag, ag_lt hag fun q hq => by have := hb.lt; rw [hq, cn_some] at this; exact this⟩, hbb⟩
  · exact ⟨none, fun a => absurd a h⟩
noncomputable def lnF (x : Nat) : Option Nat := Classical.choose (ln_ex x)
theorem lnF_says {x : Nat} (h : x < 18446744073709551616) : LnR x (lnF x) := Classical.choose_spec (ln_ex x) h
def AgU (o : Option Nat) (x : Nat) : Prop := Ag o x ∧ x < 18446744073709551616
theorem agU_some {x : Nat} (h : x < 18446744073709551616) : AgU (some x) x := ⟨rfl, h⟩
theorem AgU.u {o : Option Nat} {x : Nat} (h : AgU o x) : U64 (x : Int) := u64_of_nat h.2
theorem op_prog (op : BinOp) (ho : op = .add ∨ op = .sub ∨ op = .mul ∨ op = .quo) (t : TypeId) {o o' : Option Nat} {x y : Nat} (h : AgU o x) (h' : AgU o' y) (w : World) : ∃ r, (∃ q, (binOp op t (.float .f64 x) (.float .f64 y)).run Tryz.prog w = .ok (.float .f64 r) (w.drewN q)) ∧ AgU (opO op o o') r := by
  obtain ⟨r, hr, g⟩ := run_op_ag op ho t x y w
  rw [← opO_ag h.1 h'.1] at g
  refine ⟨r, hr, g, ?_⟩
  cases e : opO op o o' with
  | none => rw [e] at g; exact (ag_none g).2
  | some q => rw [e] at g; rw [ag_some g]; rw [opO_ag h.1 h'.1] at e; exact float_lt ho e
end Go.Proofs.YtphnainibdepbaaGreat
namespace Go.Proofs.YtphnainibdepbaaGreat
open Go.RowKit

def endN (x : Nat) : Nat := if finB (x : Int) = true ∧ szI (x : Int) ≠ 0 then x else 0
end Go.Proofs.YtphnainibdepbaaGreat
