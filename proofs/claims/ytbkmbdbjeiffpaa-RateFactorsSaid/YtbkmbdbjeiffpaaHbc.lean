/- What factors and forwards of rates do where their arguments rise: no word of the program. Sizes held through steps: what is not greater than two bounds tells nothing greater than the bounds tell. -/
import Derived.Test.YtbkmbdbjeiffpaaHbb
import Derived.Test.YtbkmbdbjeiffpaaHav
import Derived.Test.YtbkmbdbjeiffpaaHaz
namespace Go.Proofs.Ytbkmbdbjeiffpaa

theorem rank_num {r : Nat} (h : NumB r) (h2 : r < 18446744073709551616) : -9218868437227405312 < rankI r ∧ rankI r < 9218868437227405312 := by
  rw [← sgn_rank h2 (num_nan h)]
  unfold NumB at h
  unfold sgn
  generalize (r / 9223372036854775808 % 2 == 1) = p at *
  cases p <;> simp only [Bool.false_eq_true, if_true, if_false] <;> omega
theorem sgq_mono {d d' : Nat} (Y : Nat) (h : vI d ≤ vI d') : sgZ (sB d) (qR (aV d) Y) ≤ sgZ (sB d') (qR (aV d') Y) := by
  rw [vI_sg d, vI_sg d'] at h
  have u1 := fun h => qR_up (X := aV d) (X' := aV d') (Y := Y) h
  have u2 := fun h => qR_up (X := aV d') (X' := aV d) (Y := Y) h
  have z : qR 0 Y = 0 := by unfold qR; rw [if_pos rfl]
  generalize aV d = a at *
  generalize aV d' = a' at *
  generalize sB d = p at *
  generalize sB d' = q at *
  unfold sgZ at *
  cases p <;> cases q <;> simp only [Bool.false_eq_true, if_true, if_false] at *
  · have := u1 (by omega); omega
  · obtain rfl : a = 0 := by omega
    obtain rfl : a' = 0 := by omega
    rw [z]; omega
  · omega
  · have := u2 (by omega); omega
theorem sB_pos {b : Nat} (h : 0 < vI b) : sB b = false ∧ vI b = (aV b : Int) ∧ b % 9223372036854775808 ≠ 0 := by
  have hz : b % 9223372036854775808 ≠ 0 := by
    intro e
    rw [vI_sg] at h
    have : aV b = 0 := by unfold aV; rw [e]; exact V_zero
    rw [this] at h
    unfold sgZ at h
    split at h <;> omega
  rw [vI_sg] at h ⊢
  unfold sgZ at h ⊢
  cases e : sB b
  · exact ⟨rfl, by simp only [Bool.false_eq_true, if_false], hz⟩
  · rw [e] at h; simp only [if_true] at h; omega
/-- A quotient by the same number above 0 rises. -/
theorem quo_up {x x' y f f' : Nat} (hx : NumB x) (hx' : NumB x') (hy : NumB y) (y0 : 0 < vI y) (h : vI x ≤ vI x') (hf : floatBits .quo .f64 x y = some f) (hf' : floatBits .quo .f64 x' y = some f') : rankI f ≤ rankI f' := by
  obtain ⟨s, _, hz⟩ := sB_pos y0
  obtain ⟨r, e, hr⟩ := quo_rank hx hy hz
  obtain ⟨r', e', hr'⟩ := quo_rank hx' hy hz
  obtain rfl := Option.some.inj (e.symm.trans hf)
  obtain rfl := Option.some.inj (e'.symm.trans hf')
  rw [hr.1, hr'.1, s, Bool.xor_false, Bool.xor_false]
  exact sgq_mono _ h
/-- A quotient of the same number above 0 falls where the divisor rises. -/
theorem quo_down {x y y' f f' : Nat} (hx : NumB x) (hy : NumB y) (hy' : NumB y') (x0 : 0 < vI x) (y0 : 0 < vI y) (h : vI y ≤ vI y') (hf : floatBits .quo .f64 x y = some f) (hf' : floatBits .quo .f64 x y' = some f') : rankI f' ≤ rankI f := by
  obtain ⟨s, a, hz⟩ := sB_pos y0
  obtain ⟨s', a', hz'⟩ := sB_pos (show 0 < vI y' by omega)
  obtain ⟨sx, _, _⟩ := sB_pos x0
  obtain ⟨r, e, hr⟩ := quo_rank hx hy hz
  obtain ⟨r', e', hr'⟩ := quo_rank hx hy' hz'
  obtain rfl := Option.some.inj (e.symm.trans hf)
  obtain rfl := Option.some.inj (e'.symm.trans hf')
  rw [hr.1, hr'.1, s, s', sx]
  have := qR_down (X := aV x) (Y := aV y) (Y' := aV y') (by omega) (by omega)
  show ((qR (aV x) (aV y') : Nat) : Int) ≤ ((qR (aV x) (aV y) : Nat) : Int)
  omega
theorem add_up {x y y' f f' : Nat} (hx : NumB x) (hy : NumB y) (hy' : NumB y') (h : vI y ≤ vI y') (hf : floatBits .add .f64 x y = some f) (hf' : floatBits .add .f64 x y' = some f') : rankI f ≤ rankI f' := by
  obtain ⟨r, e, hr⟩ := add_rank hx hy
  obtain ⟨r', e', hr'⟩ := add_rank hx hy'
  obtain rfl := Option.some.inj (e.symm.trans hf)
  obtain rfl := Option.some.inj (e'.symm.trans hf')
  rw [hr.1, hr'.1]
  exact rnd_mono _ (by omega)
theorem sub_up {x x' y f f' : Nat} (hx : NumB x) (hx' : NumB x') (hy : NumB y) (h : vI x ≤ vI x') (hf : floatBits .sub .f64 x y = some f) (hf' : floatBits .sub .f64 x' y = some f') : rankI f ≤ rankI f' := by
  obtain ⟨r, e, hr⟩ := sub_rank hx hy
  obtain ⟨r', e', hr'⟩ := sub_rank hx' hy
  obtain rfl := Option.some.inj (e.symm.trans hf)
  obtain rfl := Option.some.inj (e'.symm.trans hf')
  rw [hr.1, hr'.1]
  exact rnd_mono _ (by omega)
theorem mul_up {x y x' y' f f' : Nat} (hx : NumB x) (hx' : NumB x') (hy : NumB y) (hy' : NumB y') (h0 : 0 ≤ vI x) (h1 : 0 ≤ vI y) (h : vI x ≤ vI x') (h' : vI y ≤ vI y') (hf : floatBits .mul .f64 x y = some f) (hf' : floatBits .mul .f64 x' y' = some f') : 0 ≤ rankI f ∧ rankI f ≤ rankI f' := by
  obtain ⟨r, e, hr⟩ := mul_rank hx hy
  obtain ⟨r', e', hr'⟩ := mul_rank hx' hy'
  obtain rfl := Option.some.inj (e.symm.trans hf)
  obtain rfl := Option.some.inj (e'.symm.trans hf')
  rw [hr.1, hr'.1]
  refine ⟨rnd_mono (T := 0) _ (Int.mul_nonneg h0 h1), rnd_mono _ (Int.mul_le_mul h h' h1 (by omega))⟩
/-- What a step tells is a fit word. -/
theorem step_fit {op : BinOp} {x y f : Nat} {k : Int} (h : ∃ r, floatBits op .f64 x y = some r ∧ RkW r k) (hf : floatBits op .f64 x y = some f) : RkW f k := by
  obtain ⟨r, e, hr⟩ := h
  obtain rfl := Option.some.inj (e.symm.trans hf)
  exact hr
theorem num_between {a b : Nat} {k : Int} (ha : RkW a k) (hk : 0 ≤ k) (hb : NumB b) (hb2 : b < 18446744073709551616) (h : rankI a ≤ rankI b) : NumB a := by
  have := rank_num hb hb2
  rw [ha.1] at h
  exact num_rank ha (by omega) (by omega)
/-- Under the simple kind the factor does not rise: of a product m and one m' that is not less. -/
theorem simple_falls {r t r' t' m m' b b' f f' : Nat} (hr : NumB r) (ht : NumB t) (hr' : NumB r') (ht' : NumB t') (r0 : 0 ≤ vI r) (t0 : 0 ≤ vI t) (hrr : vI r ≤ vI r') (htt : vI t ≤ vI t')
    (hm : floatBits .mul .f64 r t = some m) (hm' : floatBits .mul .f64 r' t' = some m') (nm' : NumB m')
    (hb : floatBits .add .f64 4607182418800017408 m = some b) (hb' : floatBits .add .f64 4607182418800017408 m' = some b') (nb' : NumB b')
    (hf : floatBits .quo .f64 4607182418800017408 b = some f) (hf' : floatBits .quo .f64 4607182418800017408 b' = some f') : rankI f' ≤ rankI f := by
  have n1 : NumB 4607182418800017408 := by unfold NumB; decide
  have km := step_fit (mul_rank hr ht) hm
  have km' := step_fit (mul_rank hr' ht') hm'
  obtain ⟨m0, mm⟩ := mul_up hr hr' ht ht' r0 t0 hrr htt hm hm'
  have nm : NumB m := num_between km (by rw [← km.1]; exact m0) nm' km'.2.1 mm
  have kb := step_fit (add_rank n1 nm) hb
  have kb' := step_fit (add_rank n1 nm') hb'
  have vm : vI m ≤ vI m' := (rank_le_iff nm nm' km.2.1 km'.2.1).1 mm
  have z : vI 0 = 0 := by decide +kernel
  have zr : rankI ((0 : Nat) : Int) = 0 := by decide
  have vm0 : 0 ≤ vI m := by
    have := (rank_le_iff (a := 0) (b := m) (by unfold NumB; decide) nm (by decide) km.2.1).1 (by rw [zr]; exact m0)
    rw [z] at this; exact this
  have bb := add_up n1 nm nm' vm hb hb'
  have one_rk : rankI ((4607182418800017408 : Nat) : Int) = 4607182418800017408 := by decide
  have one_pos : 0 < vI 4607182418800017408 := by
    have := (rank_lt_iff (a := 0) (b := 4607182418800017408) (by unfold NumB; decide) n1 (by decide) (by decide)).1 (by rw [zr, one_rk]; decide)
    rw [z] at this; exact this
  have b1 : 0 < rankI b := by
    have h1 : floatBits .add .f64 4607182418800017408 0 = some 4607182418800017408 := by decide +kernel
    have := add_up n1 (y := 0) (y' := m) (by unfold NumB; decide) nm (by rw [z]; exact vm0) h1 hb
    rw [one_rk] at this
    omega
  have nb : NumB b := num_between kb (by rw [← kb.1]; omega) nb' kb'.2.1 bb
  have vb : vI b ≤ vI b' := (rank_le_iff nb nb' kb.2.1 kb'.2.1).1 bb
  have vb0 : 0 < vI b := by
    have := (rank_lt_iff (a := 0) (b := b) (by unfold NumB; decide) nb (by decide) kb.2.1).1 (by rw [zr]; exact b1)
    rw [z] at this; exact this
  exact quo_down n1 nb nb' one_pos vb0 vb hf hf'
end Go.Proofs.Ytbkmbdbjeiffpaa
namespace Go.Proofs.Ytbkmbdbjeiffpaa
open Go.RowKit

/-- A number whose size is at most that of the number c. -/
structure Bd (x c : Nat) : Prop where
  num : NumB x
  lt : x < 18446744073709551616
  lo : -(vI c) ≤ vI x
  hi : vI x ≤ vI c
theorem flip_neg {c : Nat} (hc : NumB c) (h : c < 18446744073709551616) : NumB (flipN c) ∧ flipN c < 18446744073709551616 ∧ rankI (flipN c : Int) = -rankI (c : Int) ∧ vI (flipN c) = -(vI c) := by
  obtain ⟨h1, h2, h3⟩ := flip_parts h
  have hn : NumB (flipN c) := by unfold NumB at hc ⊢; rw [h2]; exact hc
  refine ⟨hn, h1, ?_, ?_⟩
  · rw [← sgn_rank h1 (num_nan hn), ← sgn_rank h (num_nan hc), h2, h3]
    unfold sgn
    cases (c / 9223372036854775808 % 2 == 1) <;> simp
  · unfold vI
    rw [h2, h3]
    cases (c / 9223372036854775808 % 2 == 1) <;> simp
theorem bd_of {r c : Nat} {k : Int} (hr : RkW r k) (hc : NumB c) (h : c < 18446744073709551616) (h1 : -rankI (c : Int) ≤ k) (h2 : k ≤ rankI (c : Int)) : Bd r c := by
  obtain ⟨f1, f2, f3, f4⟩ := flip_neg hc h
  have hk := rank_num hc h
  have hn : NumB r := num_rank hr (by omega) (by omega)
  refine ⟨hn, hr.2.1, ?_, ?_⟩
  · rw [← f4]
    refine (rank_le_iff f1 hn f2 hr.2.1).1 ?_
    rw [f3, hr.1]; exact h1
  · refine (rank_le_iff hn hc hr.2.1 h).1 ?_
    rw [hr.1]; exact h2
theorem add_bd {x y a b c : Nat} (hx : Bd x a) (hy : Bd y b) (ha : NumB a) (hb : NumB b) (hc : NumB c) (e : floatBits .add .f64 a b = some c) : ∃ r, floatBits .add .f64 x y = some r ∧ Bd r c := by
  obtain ⟨r, e1, k1⟩ := add_rank hx.num hy.num
  have k2 := step_fit (add_rank ha hb) e
  have := hx.lo; have := hx.hi; have := hy.lo; have := hy.hi
  refine ⟨r, e1, bd_of k1 hc k2.2.1 ?_ ?_⟩
  · rw [k2.1, ← rnd_neg]; exact rnd_mono _ (by omega)
  · rw [k2.1]; exact rnd_mono _ (by omega)
theorem sub_bd {x y a b c : Nat} (hx : Bd x a) (hy : Bd y b) (ha : NumB a) (hb : NumB b) (hc : NumB c) (e : floatBits .add .f64 a b = some c) : ∃ r, floatBits .sub .f64 x y = some r ∧ Bd r c := by
  obtain ⟨r, e1, k1⟩ := sub_rank hx.num hy.num
  have k2 := step_fit (add_rank ha hb) e
  have := hx.lo; have := hx.hi; have := hy.lo; have := hy.hi
  refine ⟨r, e1, bd_of k1 hc k2.2.1 ?_ ?_⟩
  · rw [k2.1, ← rnd_neg]; exact rnd_mono _ (by omega)
  · rw [k2.1]; exact rnd_mono _ (by omega)
theorem mul_bd {x y a b c : Nat} (hx : Bd x a) (hy : Bd y b) (ha : NumB a) (hb : NumB b) (hc : NumB c) (e : floatBits .mul .f64 a b = some c) : ∃ r, floatBits .mul .f64 x y = some r ∧ Bd r c := by
  obtain ⟨r, e1, k1⟩ := mul_rank hx.num hy.num
  have k2 := step_fit (mul_rank ha hb) e
  obtain ⟨l, u⟩ := abs_mul_le hx.lo hx.hi hy.lo hy.hi
  refine ⟨r, e1, bd_of k1 hc k2.2.1 ?_ ?_⟩
  · rw [k2.1, ← rnd_neg]; exact rnd_mono _ l
  · rw [k2.1]; exact rnd_mono _ u
theorem vI_abs (x : Nat) : vI x = (aV x : Int) ∨ vI x = -(aV x : Int) := by
  rw [vI_sg]; unfold sgZ
  cases sB x
  · exact Or.inl rfl
  · exact Or.inr rfl
/-- Divided by what is not smaller than d (d above 0). -/
theorem quo_bd {x y a d c : Nat} (hx : Bd x a) (hy : NumB y) (hd : vI d ≤ vI y) (d0 : 0 < vI d) (ha : NumB a) (hdn : NumB d) (hc : NumB c) (e : floatBits .quo .f64 a d = some c) : ∃ r, floatBits .quo .f64 x y = some r ∧ Bd r c := by
  obtain ⟨s1, e1, z1⟩ := sB_pos (b := y) (by omega)
  obtain ⟨s2, e2, z2⟩ := sB_pos d0
  obtain ⟨r, e3, k3⟩ := quo_rank hx.num hy z1
  have k4 := step_fit (quo_rank ha hdn z2) e
  have a0 : 0 ≤ vI a := by have := hx.lo; have := hx.hi; omega
  have hax : aV x ≤ aV a := by
    have h1 := hx.lo
    have h2 := hx.hi
    rcases vI_abs x with h | h <;> rcases vI_abs a with h' | h' <;> omega
  have hq : qR (aV x) (aV y) ≤ qR (aV a) (aV d) := Nat.le_trans (qR_up hax) (qR_down (by omega) (by omega))
  have hrc : rankI (c : Int) = (qR (aV a) (aV d) : Int) := by
    rw [k4.1, s2]
    by_cases hz : aV a = 0
    · have : qR (aV a) (aV d) = 0 := by unfold qR; rw [if_pos hz]
      rw [this]; unfold sgZ; split <;> simp
    · have : sB a = false := by
        have h1 := vI_sg a
        cases hs : sB a with
        | false => rfl
        | true => rw [hs] at h1; unfold sgZ at h1; simp at h1; omega
      rw [this]; rfl
  refine ⟨r, e3, bd_of k3 hc k4.2.1 ?_ ?_⟩
  · rw [hrc]; unfold sgZ; split <;> omega
  · rw [hrc]; unfold sgZ; split <;> omega
theorem bd_self {x : Nat} (h : NumB x) (hl : x < 18446744073709551616) (h0 : 0 ≤ vI x) : Bd x x := ⟨h, hl, by omega, Int.le_refl _⟩
theorem Bd.up {x c d : Nat} (h : Bd x c) (hd : vI c ≤ vI d) : Bd x d := ⟨h.num, h.lt, by have := h.lo; omega, by have := h.hi; omega⟩
/-- Words below another, both without a sign. -/
theorem bd_bits {x c : Nat} (h : x ≤ c) (hc : c < 9218868437227405312) : Bd x c := by
  have hx : NumB x := by unfold NumB; omega
  have hn : NumB c := by unfold NumB; omega
  have r1 := (rk_pos (r := x) (by omega)).1
  have r2 := (rk_pos (r := c) (by omega)).1
  have r0 : rankI ((0 : Nat) : Int) = 0 := by decide
  have v0 : vI 0 = 0 := by decide +kernel
  have n0 : NumB 0 := by unfold NumB; decide
  have h1 := (rank_le_iff hx hn (by omega) (by omega)).1 (by rw [r1, r2]; omega)
  have h2 := (rank_le_iff n0 hx (by omega) (by omega)).1 (by rw [r0, r1]; omega)
  have h3 := (rank_le_iff n0 hn (by omega) (by omega)).1 (by rw [r0, r2]; omega)
  rw [v0] at h2 h3
  exact ⟨hx, by omega, by omega, h1⟩
end Go.Proofs.Ytbkmbdbjeiffpaa
