/- Values turned in sign: each step tells the opposite. No word of the program. Tables whose values are turned in sign: At tells the opposite. No word of the program. Values of logarithmic pieces: no NaN, and held between their nodes. No word of the program but Exp and Ln as plain functions. Tables whose values are doubled: At tells the double. No word of the program. Slopes, points and values of doubled tables. No word of the program. At of doubled tables. No word of the program. At of doubled tables, whatever the piece. No word of the program. -/
import Derived.Test.YtnmjljijgmmakabHay
import Derived.Test.YtnmjljijgmmakabHaq
import Derived.Test.YtnmjljijgmmakabDblB
namespace Go.Proofs.Ytnmjljijgmmakab
open Go.RowKit

theorem nn_rank {x : Nat} (h : NN x) : rankI (x : Nat) = sgZ (sB x) (x % 9223372036854775808) := by
  have hn := h.nan
  have hl := h.lt
  unfold rankI
  rw [hn, if_neg (by decide)]
  unfold sgB szI sgZ sB
  by_cases hs : (9223372036854775808 : Int) ≤ (x : Int)
  · rw [show x / 9223372036854775808 % 2 = 1 by omega]
    simp [hs]
  · rw [show x / 9223372036854775808 % 2 = 0 by omega]
    simp [hs]
/-- Two that are opposite: zeros of any sign. -/
structure Opp (x y : Nat) : Prop where
  nx : NN x
  ny : NN y
  rk : rankI (y : Nat) = -rankI (x : Nat)
theorem Opp.sz {x y : Nat} (h : Opp x y) : y % 9223372036854775808 = x % 9223372036854775808 ∧ (x % 9223372036854775808 ≠ 0 → sB y = !sB x) := by
  have e := h.rk
  rw [nn_rank h.nx, nn_rank h.ny] at e
  unfold sgZ at e
  cases hx : sB x <;> cases hy : sB y <;> rw [hx, hy] at e <;> simp at e <;> refine ⟨by omega, fun h0 => ?_⟩
  · omega
  · rfl
  · rfl
  · omega
theorem Opp.symm {x y : Nat} (h : Opp x y) : Opp y x := ⟨h.ny, h.nx, by have := h.rk; omega⟩
theorem Opp.num {x y : Nat} (h : Opp x y) (hx : NumB x) : NumB y := by unfold NumB at *; rw [h.sz.1]; exact hx
theorem Opp.vI {x y : Nat} (h : Opp x y) : vI y = -vI x := by
  obtain ⟨e1, e2⟩ := h.sz
  rw [vI_sg, vI_sg]
  unfold aV
  rw [e1]
  by_cases h0 : x % 9223372036854775808 = 0
  · rw [h0, V_zero]; unfold sgZ; split <;> split <;> rfl
  · rw [e2 h0]
    cases sB x <;> simp [sgZ]
theorem Opp.uI {x y : Nat} (h : Opp x y) (K : Nat) : uI K y = -uI K x := by
  unfold Go.Proofs.Ytnmjljijgmmakab.uI
  rw [h.vI, Int.neg_mul]
theorem opp_of {r r' : Nat} {k : Int} (h : RkW r k) (h' : RkW r' (-k)) : Opp r r' := ⟨rkw_nn h, rkw_nn h', by rw [h.1, h'.1]⟩
theorem opp_sub {a b a' b' : Nat} (ha : Opp a a') (hb : Opp b b') (na : NumB a) (nb : NumB b) : Opp (sSub a b) (sSub a' b') := by
  obtain ⟨r, e, h⟩ := sub_rank na nb
  obtain ⟨r', e', h'⟩ := sub_rank (ha.num na) (hb.num nb)
  unfold sSub
  rw [e, e', cn_some, cn_some]
  rw [ha.vI, hb.vI, show -Go.Proofs.Ytnmjljijgmmakab.vI a - -Go.Proofs.Ytnmjljijgmmakab.vI b = -(Go.Proofs.Ytnmjljijgmmakab.vI a - Go.Proofs.Ytnmjljijgmmakab.vI b) by omega, rnd_neg] at h'
  exact opp_of h h'
theorem sgZ_not (s : Bool) (n : Nat) : sgZ (!s) n = -sgZ s n := by cases s <;> simp [sgZ]
theorem sgZ_zero (s : Bool) : sgZ s 0 = 0 := by cases s <;> rfl
theorem wrd_rk {s : Bool} {r : Nat} (h : r ≤ 9218868437227405312) : RkW (wrd s r) (sgZ s r) := rk_wrd h
/-- Over a number. -/
theorem opp_div {x x' y : Nat} (hx : Opp x x') (hy : NumB y) (h0 : y % 9223372036854775808 ≠ 0) : Opp (sDiv x y) (sDiv x' y) := by
  obtain ⟨e1, e2⟩ := hx.sz
  unfold sDiv
  rcases hx.nx.cases with h | h
  · obtain ⟨r, e, hr⟩ := quo_rank h hy h0
    obtain ⟨r', e', hr'⟩ := quo_rank (hx.num h) hy h0
    rw [e, e', cn_some, cn_some]
    unfold aV at hr hr'
    rw [e1] at hr'
    by_cases hz : x % 9223372036854775808 = 0
    · rw [hz, V_zero] at hr hr'
      have q0 : ∀ Y, qR 0 Y = 0 := fun Y => by unfold qR; rw [if_pos rfl]
      rw [q0, sgZ_zero] at hr hr'
      exact opp_of hr (by rw [show (-0 : Int) = 0 from rfl]; exact hr')
    · rw [e2 hz, show ((!sB x) ^^ sB y) = !(sB x ^^ sB y) by cases sB x <;> cases sB y <;> rfl, sgZ_not] at hr'
      exact opp_of hr hr'
  · have h' : x' % 9223372036854775808 = 9218868437227405312 := by rw [e1]; exact h
    rw [quo_inf h hy, quo_inf h' hy, cn_some, cn_some, e2 (by rw [h]; decide), show ((!sB x) ^^ sB y) = !(sB x ^^ sB y) by cases sB x <;> cases sB y <;> rfl]
    refine opp_of (wrd_rk (s := sB x ^^ sB y) (r := 9218868437227405312) (by omega)) ?_
    rw [← sgZ_not]; exact wrd_rk (by omega)
/-- Times a number. -/
theorem opp_mul {x x' y : Nat} (hx : Opp x x') (hy : NumB y) (h0 : y % 9223372036854775808 ≠ 0) : Opp (sMul x y) (sMul x' y) := by
  obtain ⟨e1, e2⟩ := hx.sz
  unfold sMul
  rcases hx.nx.cases with h | h
  · obtain ⟨r, e, hr⟩ := mul_rank h hy
    obtain ⟨r', e', hr'⟩ := mul_rank (hx.num h) hy
    rw [e, e', cn_some, cn_some]
    rw [hx.vI, Int.neg_mul, rnd_neg] at hr'
    exact opp_of hr hr'
  · have h' : x' % 9223372036854775808 = 9218868437227405312 := by rw [e1]; exact h
    rw [(mul_inf_num h hy h0).1, (mul_inf_num h' hy h0).1, cn_some, cn_some, e2 (by rw [h]; decide), show ((!sB x) ^^ sB y) = !(sB x ^^ sB y) by cases sB x <;> cases sB y <;> rfl]
    refine opp_of (wrd_rk (s := sB x ^^ sB y) (r := 9218868437227405312) (by omega)) ?_
    rw [← sgZ_not]; exact wrd_rk (by omega)
/-- A number and anything. -/
theorem opp_add {a a' y y' : Nat} (ha : Opp a a') (na : NumB a) (hy : Opp y y') : Opp (sAdd a y) (sAdd a' y') := by
  obtain ⟨e1, _⟩ := hy.sz
  unfold sAdd
  rcases hy.nx.cases with h | h
  · obtain ⟨r, e, hr⟩ := add_rank na h
    obtain ⟨r', e', hr'⟩ := add_rank (ha.num na) (hy.num h)
    rw [e, e', cn_some, cn_some]
    rw [ha.vI, hy.vI, show -Go.Proofs.Ytnmjljijgmmakab.vI a + -Go.Proofs.Ytnmjljijgmmakab.vI y = -(Go.Proofs.Ytnmjljijgmmakab.vI a + Go.Proofs.Ytnmjljijgmmakab.vI y) by omega, rnd_neg] at hr'
    exact opp_of hr hr'
  · have h' : y' % 9223372036854775808 = 9218868437227405312 := by rw [e1]; exact h
    rw [(add_inf h na hy.nx.lt).2, (add_inf h' (ha.num na) hy.ny.lt).2, cn_some, cn_some]
    exact hy
/-- Turned in sign, zeros too. -/
structure Flp (x y : Nat) : Prop where
  nx : NN x
  ny : NN y
  sz : y % 9223372036854775808 = x % 9223372036854775808
  sg : sB y = !sB x
theorem Flp.opp {x y : Nat} (h : Flp x y) : Opp x y := ⟨h.nx, h.ny, by rw [nn_rank h.nx, nn_rank h.ny, h.sz, h.sg, sgZ_not]⟩
theorem wrd_sz {s : Bool} {r : Nat} (h : r ≤ 9218868437227405312) : wrd s r % 9223372036854775808 = r := by
  unfold wrd; cases s <;> simp <;> omega
theorem flp_wrd {s : Bool} {r : Nat} (h : r ≤ 9218868437227405312) : Flp (wrd s r) (wrd (!s) r) :=
  ⟨(nn_wrd h).1, (nn_wrd h).1, by rw [wrd_sz h, wrd_sz h], by rw [(nn_wrd h).2, (nn_wrd h).2]⟩
theorem Opp.flp {x y : Nat} (h : Opp x y) (h0 : x % 9223372036854775808 ≠ 0) : Flp x y := ⟨h.nx, h.ny, h.sz.1, h.sz.2 h0⟩
theorem flp_inv {c a a' : Nat} (hc : NumB c) (hc0 : c % 9223372036854775808 ≠ 0) (hcs : sB c = false) (ha : Flp a a') (h0 : a % 9223372036854775808 ≠ 0) : Flp (sDiv c a) (sDiv c a') := by
  unfold sDiv
  rcases ha.nx.cases with h | h
  · have hn' : NumB a' := by unfold NumB at *; rw [ha.sz]; exact h
    have h0' : a' % 9223372036854775808 ≠ 0 := by rw [ha.sz]; exact h0
    have hl : (mg (a % 9223372036854775808)).log2 < 53 := (Nat.log2_lt (mg_pos h0)).2 (by have := mg_lt (a % 9223372036854775808); omega)
    have hl' : (mg (a' % 9223372036854775808)).log2 < 53 := (Nat.log2_lt (mg_pos h0')).2 (by have := mg_lt (a' % 9223372036854775808); omega)
    rw [quo_num hc h hc0 h0 rfl rfl rfl rfl (k := 300) (by omega), quo_num hc hn' hc0 h0' rfl rfl rfl rfl (k := 300) (by omega), cn_some, cn_some, hcs, Bool.false_xor, Bool.false_xor, ha.sz, ha.sg]
    exact flp_wrd (nearR_topI _ _)
  · have h' : a' % 9223372036854775808 = 9218868437227405312 := by rw [ha.sz]; exact h
    rw [quo_by_inf hc h, quo_by_inf hc h', cn_some, cn_some, hcs, Bool.false_xor, Bool.false_xor, ha.sg]
    exact flp_wrd (by omega)
theorem flp_two {s s' : Nat} (hs : Flp s s') : Flp (sDiv 4611686018427387904 s) (sDiv 4611686018427387904 s') := by
  by_cases h0 : s % 9223372036854775808 = 0
  · have h0' : s' % 9223372036854775808 = 0 := by rw [hs.sz]; exact h0
    unfold sDiv
    rw [quo_by_zero (by unfold NumB; decide) (by decide) h0, quo_by_zero (by unfold NumB; decide) (by decide) h0', cn_some, cn_some, show sB 4611686018427387904 = false by decide, Bool.false_xor, Bool.false_xor, hs.sg]
    exact flp_wrd (by omega)
  · exact flp_inv (by unfold NumB; decide) (by decide) (by decide) hs h0
/-- The sum of two of one sign, by its parts. -/
theorem add_same {x y : Nat} (hx : NumB x) (hy : NumB y) (hs : sB x = sB y) : floatBits .add .f64 x y = some (wrd (sB x) (if aV x + aV y = 0 then 0 else nearR (aV x + aV y) (-1074))) := by
  have e := add_num hx hy
  rw [e]
  have hv : Go.Proofs.Ytnmjljijgmmakab.vI x + Go.Proofs.Ytnmjljijgmmakab.vI y = sgZ (sB x) (aV x + aV y) := by
    rw [vI_sg, vI_sg, ← hs]
    cases sB x <;> simp [sgZ] <;> omega
  rw [hv]
  have hx' : (x / 9223372036854775808 % 2 == 1) = sB x := rfl
  have hy' : (y / 9223372036854775808 % 2 == 1) = sB x := hs.symm
  rw [hx', hy']
  generalize aV x + aV y = T
  unfold addR joinN wrd
  cases sB x
  · by_cases h0 : T = 0
    · simp [sgZ, h0]
    · simp only [sgZ, Bool.false_eq_true, if_false, if_neg h0]
      rw [if_neg (by omega), if_neg (by omega), if_neg (by omega), Int.natAbs_natCast]
  · by_cases h0 : T = 0
    · simp [sgZ, h0]
    · simp only [sgZ, if_true, if_neg h0]
      rw [if_neg (by omega), if_neg (by omega), if_pos (by omega), Int.natAbs_neg, Int.natAbs_natCast]
theorem flp_sum {x y x' y' : Nat} (hx : Flp x x') (hy : Flp y y') (hs : sB x = sB y) : Flp (sAdd x y) (sAdd x' y') := by
  have hs' : sB x' = sB y' := by rw [hx.sg, hy.sg, hs]
  have infx : x % 9223372036854775808 = 9218868437227405312 → x' % 9223372036854775808 = 9218868437227405312 := fun h => by rw [hx.sz]; exact h
  have infy : y % 9223372036854775808 = 9218868437227405312 → y' % 9223372036854775808 = 9218868437227405312 := fun h => by rw [hy.sz]; exact h
  have numx : NumB x → NumB x' := fun h => by unfold NumB at *; rw [hx.sz]; exact h
  have numy : NumB y → NumB y' := fun h => by unfold NumB at *; rw [hy.sz]; exact h
  unfold sAdd
  rcases hx.nx.cases with h | h <;> rcases hy.nx.cases with h' | h'
  · rw [add_same h h' hs, add_same (numx h) (numy h') hs', cn_some, cn_some, hx.sg]
    unfold aV
    rw [hx.sz, hy.sz]
    refine flp_wrd ?_
    split
    · omega
    · exact nearR_topI _ _
  · rw [(add_inf h' h hy.nx.lt).2, (add_inf (infy h') (numx h) hy.ny.lt).2, cn_some, cn_some]; exact hy
  · rw [(add_inf h h' hx.nx.lt).1, (add_inf (infx h) (numy h') hx.ny.lt).1, cn_some, cn_some]; exact hx
  · have same : ∀ {a b : Nat}, NN a → NN b → a % 9223372036854775808 = b % 9223372036854775808 → sB a = sB b → a = b := fun {a b} ha hb e hs => by
      have p := ha.lt
      have q := hb.lt
      have c : (a / 9223372036854775808 % 2 == 1) = (b / 9223372036854775808 % 2 == 1) := hs
      have d : a / 9223372036854775808 % 2 = b / 9223372036854775808 % 2 := by
        rcases Nat.mod_two_eq_zero_or_one (a / 9223372036854775808) with p | p <;> rcases Nat.mod_two_eq_zero_or_one (b / 9223372036854775808) with q | q <;> rw [p, q] at c <;> simp_all
      omega
    rw [add_infs h h' hx.nx.lt hy.nx.lt, if_pos (same hx.nx hy.nx (by rw [h, h']) hs), add_infs (infx h) (infy h') hx.ny.lt hy.ny.lt, if_pos (same hx.ny hy.ny (by rw [infx h, infy h']) hs'), cn_some, cn_some]
    exact hx
theorem opp_slB {a b a' b' : Nat} (ha : Opp a a') (hb : Opp b b') : Opp (slB a b) (slB a' b') := by
  have one : NumB 4607182418800017408 := by unfold NumB; decide
  have z : Opp 0 0 := ⟨⟨by decide, by decide⟩, ⟨by decide, by decide⟩, by decide⟩
  have up : ∀ {x x' : Nat}, Opp x x' → ltB 0 (x' : Nat) = ltB (x : Nat) 0 ∧ ltB (x' : Nat) 0 = ltB 0 (x : Nat) := fun {x x'} hx => by
    have n0 : nanB 0 = false := by decide
    have r0 : rankI 0 = 0 := by decide
    have e := hx.rk
    rw [ltB_iff n0 hx.ny.nan, ltB_iff hx.nx.nan n0, ltB_iff hx.ny.nan n0, ltB_iff n0 hx.nx.nan, r0]
    constructor <;> apply decide_eq_decide.2 <;> omega
  have key : a % 9223372036854775808 ≠ 0 → b % 9223372036854775808 ≠ 0 → sB a = sB b → Opp (sDiv 4611686018427387904 (sAdd (sDiv 4607182418800017408 a) (sDiv 4607182418800017408 b))) (sDiv 4611686018427387904 (sAdd (sDiv 4607182418800017408 a') (sDiv 4607182418800017408 b'))) := fun h1 h2 hs => by
    have f1 := flp_inv one (by decide) (by decide) (ha.flp h1) h1
    have f2 := flp_inv one (by decide) (by decide) (hb.flp h2) h2
    have s1 := (inv_nn one (by decide) (by decide) ha.nx h1).2
    have s2 := (inv_nn one (by decide) (by decide) hb.nx h2).2
    exact (flp_two (flp_sum f1 f2 (by rw [s1, s2, hs]))).opp
  unfold slB
  rw [(up ha).1, (up ha).2, (up hb).1, (up hb).2]
  rw [show ((ltB (a : Nat) 0 && ltB (b : Nat) 0) || (ltB 0 (a : Nat) && ltB 0 (b : Nat))) = ((ltB 0 (a : Nat) && ltB 0 (b : Nat)) || (ltB (a : Nat) 0 && ltB (b : Nat) 0)) from Bool.or_comm _ _]
  by_cases hc : ((ltB 0 (a : Nat) && ltB 0 (b : Nat)) || (ltB (a : Nat) 0 && ltB (b : Nat) 0)) = true
  · rw [if_pos hc, if_pos hc]
    rw [Bool.or_eq_true, Bool.and_eq_true, Bool.and_eq_true] at hc
    rcases hc with ⟨h1, h2⟩ | ⟨h1, h2⟩
    · obtain ⟨x1, x2⟩ := ltB_pos ha.nx.lt h1
      obtain ⟨y1, y2⟩ := ltB_pos hb.nx.lt h2
      exact key x1 y1 (by rw [x2, y2])
    · obtain ⟨x1, x2⟩ := ltB_neg ha.nx.lt h1
      obtain ⟨y1, y2⟩ := ltB_neg hb.nx.lt h2
      exact key x1 y1 (by rw [x2, y2])
  · rw [if_neg hc, if_neg hc]; exact z
end Go.Proofs.Ytnmjljijgmmakab
namespace Go.Proofs.Ytnmjljijgmmakab
open Go.RowKit

theorem held_rank {v a b : Int} (hv : nanB v = false) (ha : nanB a = false) (hb : nanB b = false) : nanB (heldB v a b) = false ∧ rankI (heldB v a b) = max (min (rankI a) (rankI b)) (min (max (rankI a) (rankI b)) (rankI v)) := by
  unfold heldB
  rw [ltB_iff hb ha, ltB_iff hv hb, ltB_iff ha hv, ltB_iff ha hb, ltB_iff hv ha, ltB_iff hb hv]
  simp only [decide_eq_true_eq]
  (repeat' split) <;> exact ⟨by assumption, by omega⟩
theorem opp_held {v v' a a' b b' : Nat} (hv : Opp v v') (ha : Opp a a') (hb : Opp b b') : Opp (heldN v a b) (heldN v' a' b') := by
  obtain ⟨n1, r1⟩ := held_rank hv.nx.nan ha.nx.nan hb.nx.nan
  obtain ⟨n2, r2⟩ := held_rank hv.ny.nan ha.ny.nan hb.ny.nan
  rw [← heldN_cast hv.nx.lt ha.nx.lt hb.nx.lt] at n1 r1
  rw [← heldN_cast hv.ny.lt ha.ny.lt hb.ny.lt, hv.rk, ha.rk, hb.rk] at r2
  rw [← heldN_cast hv.ny.lt ha.ny.lt hb.ny.lt] at n2
  refine ⟨nn_of (heldN_lt hv.nx.lt ha.nx.lt hb.nx.lt) n1, nn_of (heldN_lt hv.ny.lt ha.ny.lt hb.ny.lt) n2, ?_⟩
  rw [r1, r2]
  omega
theorem opp_subR {a a' y y' : Nat} (ha : Opp a a') (na : NumB a) (hy : Opp y y') : Opp (sSub a y) (sSub a' y') := by
  have fl : ∀ {z : Nat}, NN z → NN (flipN z) ∧ rankI (flipN z : Nat) = -rankI (z : Nat) := fun {z} hz => by
    obtain ⟨f1, f2, f3⟩ := flip_parts hz.lt
    have hn : NN (flipN z) := ⟨f1, by rw [f2]; exact hz.le⟩
    refine ⟨hn, ?_⟩
    have f3' : sB (flipN z) = !sB z := f3
    rw [nn_rank hn, nn_rank hz, f2, f3', sgZ_not]
  obtain ⟨p1, p2⟩ := fl hy.nx
  obtain ⟨q1, q2⟩ := fl hy.ny
  have e : sSub a y = sAdd a (flipN y) := by unfold sSub sAdd; rw [sub_flip hy.nx.lt hy.nx.nan]
  have e' : sSub a' y' = sAdd a' (flipN y') := by unfold sSub sAdd; rw [sub_flip hy.ny.lt hy.ny.nan]
  rw [e, e']
  exact opp_add ha na ⟨p1, q1, by rw [p2, q2, hy.rk]⟩
/-- Lists turned in sign. -/
structure OppL (l l' : List Nat) : Prop where
  len : l'.length = l.length
  el : ∀ i, Opp (l.getD i 0) (l'.getD i 0)
theorem opp_zero : Opp 0 0 := ⟨⟨by decide, by decide⟩, ⟨by decide, by decide⟩, by decide⟩
theorem getD_app10 (l : List Nat) (x i : Nat) : (l ++ [x]).getD i 0 = if i < l.length then l.getD i 0 else if i = l.length then x else 0 := by
  by_cases h : i < l.length
  · rw [if_pos h]; simp [List.getD, List.getElem?_append_left h]
  · rw [if_neg h]
    by_cases e : i = l.length
    · rw [if_pos e, e]; simp [List.getD]
    · rw [if_neg e]; simp [List.getD, List.getElem?_eq_none (show (l ++ [x]).length ≤ i by simp; omega)]
theorem OppL.snoc {l l' : List Nat} (h : OppL l l') {x x' : Nat} (hx : Opp x x') : OppL (l ++ [x]) (l' ++ [x']) :=
  ⟨by simp [h.len], fun i => by
    rw [getD_app10, getD_app10, h.len]
    split
    · exact h.el i
    · split
      · exact hx
      · exact opp_zero⟩
theorem oppL_one {x x' : Nat} (hx : Opp x x') : OppL [x] [x'] := OppL.snoc (l := []) (l' := []) ⟨rfl, fun i => by simp [List.getD]; exact opp_zero⟩ hx
/-- A table and the turned one. -/
structure OppT (kind : Int) (xs : List Int) (ys ys' : List Nat) : Prop where
  ok : OkT kind xs ys
  f : ∀ i < ys.length, U64 (ys.getD i 0 : Nat)
  el : OppL ys ys'
theorem OppT.steep {kind : Int} {xs : List Int} {ys ys' : List Nat} (h : OppT kind xs ys ys') {k : Nat} (hk : k + 1 < xs.length) : Opp (steepB xs ys k) (steepB xs ys' k) := by
  have hs := h.ok.step hk
  have n0 := node_fine (h.ok.node k (by omega))
  have n1 := node_fine (h.ok.node (k + 1) hk)
  obtain ⟨a, b⟩ := fi_numW (m := xs.getD (k + 1) 0 - xs.getD k 0) (by omega) (by omega)
  exact opp_div (opp_sub (h.el.el (k + 1)) (h.el.el k) (node_num h.ok h.f hk).nb (node_num h.ok h.f (by omega)).nb) a.nb b
theorem OppT.slopP {kind : Int} {xs : List Int} {ys ys' : List Nat} (h : OppT kind xs ys ys') : ∀ k, k + 1 < xs.length → OppL (slopP xs ys k) (slopP xs ys' k)
  | 0, hk => oppL_one (h.steep hk)
  | k + 1, hk => by
    rw [slopP_next, slopP_next]
    exact (OppT.slopP h k (by omega)).snoc (opp_slB (h.steep (by omega)) (h.steep hk))
theorem OppT.slopL {kind : Int} {xs : List Int} {ys ys' : List Nat} (h : OppT kind xs ys ys') : OppL (slopL xs ys xs.length) (slopL xs ys' xs.length) := by
  have hlo := h.ok.lo
  unfold Go.Proofs.Ytnmjljijgmmakab.slopL
  by_cases h1 : xs.length = 1
  · rw [if_pos h1, if_pos h1]; exact oppL_one opp_zero
  · rw [if_neg h1, if_neg h1]
    exact (h.slopP _ (by omega)).snoc (h.steep (by omega))
theorem OppT.pts {kind : Int} {xs : List Int} {ys ys' : List Nat} (h : OppT kind xs ys ys') {k : Nat} (hk : k + 1 < xs.length) :
    ∃ p q p' q', ptL xs ys k = [ys.getD k 0, p, q, ys.getD (k + 1) 0] ∧ ptL xs ys' k = [ys'.getD k 0, p', q', ys'.getD (k + 1) 0] ∧ NumW p ∧ NumW q ∧ Opp p p' ∧ Opp q q' := by
  have hs := h.ok.step hk
  have n0 := node_fine (h.ok.node k (by omega))
  have n1 := node_fine (h.ok.node (k + 1) hk)
  obtain ⟨a, b⟩ := fi_numW (m := xs.getD (k + 1) 0 - xs.getD k 0) (by omega) (by omega)
  obtain ⟨t3, t30⟩ := fi_numW (m := 3) (by decide) (by decide)
  have y0 := node_num h.ok h.f (show k < xs.length by omega)
  have y1 := node_num h.ok h.f hk
  have o0 := h.el.el k
  have o1 := h.el.el (k + 1)
  have s0 := h.slopL.el k
  have s1 := h.slopL.el (k + 1)
  have P : Opp (ptP (fi (xs.getD (k + 1) 0 - xs.getD k 0)) ((Go.Proofs.Ytnmjljijgmmakab.slopL xs ys xs.length).getD k 0) (ys.getD k 0) (ys.getD (k + 1) 0)) (ptP (fi (xs.getD (k + 1) 0 - xs.getD k 0)) ((Go.Proofs.Ytnmjljijgmmakab.slopL xs ys' xs.length).getD k 0) (ys'.getD k 0) (ys'.getD (k + 1) 0)) :=
    opp_held (opp_add o0 y0.nb (opp_div (opp_mul s0 a.nb b) t3.nb t30)) o0 o1
  have Q : Opp (ptQ (fi (xs.getD (k + 1) 0 - xs.getD k 0)) ((Go.Proofs.Ytnmjljijgmmakab.slopL xs ys xs.length).getD (k + 1) 0) (ys.getD (k + 1) 0) (ptP (fi (xs.getD (k + 1) 0 - xs.getD k 0)) ((Go.Proofs.Ytnmjljijgmmakab.slopL xs ys xs.length).getD k 0) (ys.getD k 0) (ys.getD (k + 1) 0))) (ptQ (fi (xs.getD (k + 1) 0 - xs.getD k 0)) ((Go.Proofs.Ytnmjljijgmmakab.slopL xs ys' xs.length).getD (k + 1) 0) (ys'.getD (k + 1) 0) (ptP (fi (xs.getD (k + 1) 0 - xs.getD k 0)) ((Go.Proofs.Ytnmjljijgmmakab.slopL xs ys' xs.length).getD k 0) (ys'.getD k 0) (ys'.getD (k + 1) 0))) :=
    opp_held (opp_subR o1 y1.nb (opp_div (opp_mul s1 a.nb b) t3.nb t30)) P o1
  have nums : NumW (ptP (fi (xs.getD (k + 1) 0 - xs.getD k 0)) ((Go.Proofs.Ytnmjljijgmmakab.slopL xs ys xs.length).getD k 0) (ys.getD k 0) (ys.getD (k + 1) 0)) ∧ NumW (ptQ (fi (xs.getD (k + 1) 0 - xs.getD k 0)) ((Go.Proofs.Ytnmjljijgmmakab.slopL xs ys xs.length).getD (k + 1) 0) (ys.getD (k + 1) 0) (ptP (fi (xs.getD (k + 1) 0 - xs.getD k 0)) ((Go.Proofs.Ytnmjljijgmmakab.slopL xs ys xs.length).getD k 0) (ys.getD k 0) (ys.getD (k + 1) 0))) := by
    rcases Int.le_total (rankI (ys.getD k 0 : Nat)) (rankI (ys.getD (k + 1) 0 : Nat)) with hr | hr
    · have := pts_up a b (slopL_nn h.ok h.f k) (slopL_nn h.ok h.f (k + 1)) y0 y1 hr
      exact ⟨this.n1, this.n2⟩
    · have := pts_down a b (slopL_nn h.ok h.f k) (slopL_nn h.ok h.f (k + 1)) y0 y1 hr
      exact ⟨this.n1, this.n2⟩
  exact ⟨_, _, _, _, rfl, rfl, nums.1, nums.2, P, Q⟩
theorem Opp.numW {x y : Nat} (h : Opp x y) (hx : NumW x) : NumW y := ⟨h.ny.lt, h.num hx.nb⟩
/-- At of the turned table. -/
theorem at_opp {kind x : Int} {xs : List Int} {ys ys' : List Nat} {k V V' : Nat} (h : OppT kind xs ys ys') (hk : k < xs.length) (hA : AtR xs ys kind x k V) (hB : AtR xs ys' kind x k V') : rankI (V' : Nat) = -rankI (V : Nat) := by
  have y0 := node_num h.ok h.f hk
  cases hA with
  | node _ _ _ h1 =>
    cases hB with
    | node _ _ _ h2 => exact (h.el.el k).rk
    | flat _ _ h2 => exact absurd h1 h2
    | lin _ _ D i hI => have := hI.hi; have := hI.lo; omega
    | cub _ _ D i hI => have := hI.hi; have := hI.lo; omega
  | flat _ _ h1 =>
    cases hB with
    | node _ _ _ h2 => exact absurd h2 h1
    | flat _ _ h2 => exact (h.el.el k).rk
  | lin _ _ D i hI =>
    cases hB with
    | node _ _ _ h2 => have := hI.hi; have := hI.lo; omega
    | lin _ _ D' i' hI' =>
      obtain rfl : D = D' := by have := hI.hD; have := hI'.hD; omega
      obtain rfl : i = i' := by have := hI.hi; have := hI'.hi; omega
      have hD := inside_D h.ok hI
      have y1 := node_num h.ok h.f hI.lt
      have a := hI.lo
      have b := hI.hi'
      unfold linV
      rw [lin_plain (K := 1074) rfl y0 y1 (by omega) (by omega) hD.2, lin_plain (K := 1074) rfl ((h.el.el k).numW y0) ((h.el.el (k + 1)).numW y1) (by omega) (by omega) hD.2, (overG_rank _ _).2.2, (overG_rank _ _).2.2, (h.el.el k).uI, (h.el.el (k + 1)).uI, lin_neg, ovRk_neg]
  | cub _ _ D i hI =>
    cases hB with
    | node _ _ _ h2 => have := hI.hi; have := hI.lo; omega
    | cub _ _ D' i' hI' =>
      obtain rfl : D = D' := by have := hI.hD; have := hI'.hD; omega
      obtain rfl : i = i' := by have := hI.hi; have := hI'.hi; omega
      have hD := inside_D h.ok hI
      have y1 := node_num h.ok h.f hI.lt
      have a := hI.lo
      have b := hI.hi'
      obtain ⟨p, q, p', q', e, e', np, nq, op, oq⟩ := h.pts hI.lt
      rw [e, e', cub_plain (K := 1074) rfl y0 np nq y1 (by omega) (by omega) hD.2, cub_plain (K := 1074) rfl ((h.el.el k).numW y0) (op.numW np) (oq.numW nq) ((h.el.el (k + 1)).numW y1) (by omega) (by omega) hD.2, (overG_rank _ _).2.2, (overG_rank _ _).2.2, (h.el.el k).uI, (h.el.el (k + 1)).uI, op.uI, oq.uI, cub_neg, ovRk_neg]
end Go.Proofs.Ytnmjljijgmmakab
namespace Go.Proofs.Ytnmjljijgmmakab
open Go.RowKit

noncomputable def lnW (y : Nat) : Nat := if y < 18446744073709551616 then cn (lnF y) else 0
noncomputable def exW (y : Nat) : Nat := if y < 18446744073709551616 then cn (expF y) else 0
theorem exW_lt (y : Nat) : exW y < 18446744073709551616 := by
  unfold exW
  split
  · rename_i h
    cases hn : nanB (y : Int) with
    | true => rw [(expF_says h).nan hn, cn_none]; omega
    | false =>
      obtain ⟨z, e, hz⟩ := (expF_says h).num hn
      rw [e, cn_some]; omega
  · decide
theorem ln_numW {y : Nat} (h : NumW y) (hp : ltB 0 (y : Nat) = true) : NumW (lnW y) := by
  obtain ⟨h1, h2⟩ := ltB_pos h.lt hp
  have hs := lnF_says h.lt
  obtain ⟨z, e, hz⟩ := hs.fin h.nb h2 h1
  have hl := hs.lt
  unfold lnW
  rw [if_pos h.lt]
  rw [e, cn_some] at hl ⊢
  exact ⟨hl, hz⟩
/-- At inside a logarithmic piece. -/
theorem log_held {xs : List Int} {ys : List Nat} {x : Int} {k D : Nat} {i : Int} (h : OkT 4 xs ys) (hf : ∀ i < ys.length, U64 (ys.getD i 0 : Nat)) (hI : Inside xs x k D i) :
    nanB (logV lnW exW ys k D i : Nat) = false ∧ logV lnW exW ys k D i < 18446744073709551616 ∧ min (rankI (ys.getD k 0 : Nat)) (rankI (ys.getD (k + 1) 0 : Nat)) ≤ rankI (logV lnW exW ys k D i : Nat) ∧ rankI (logV lnW exW ys k D i : Nat) ≤ max (rankI (ys.getD k 0 : Nat)) (rankI (ys.getD (k + 1) 0 : Nat)) := by
  have hl := hI.lt
  have hD := inside_D h hI
  have a := hI.lo
  have b := hI.hi'
  have w0 := node_num h hf (show k < xs.length by omega)
  have w1 := node_num h hf hl
  have p0 := (node_fine (h.node k (by omega))).2.2.2.2 rfl
  have p1 := (node_fine (h.node (k + 1) hl)).2.2.2.2 rfl
  have l0 := ln_numW w0 p0
  have l1 := ln_numW w1 p1
  unfold logV
  rw [lin_plain (K := 1074) rfl l0 l1 (by omega) (by omega) hD.2]
  obtain ⟨g1, g2, _⟩ := overG_rank (linN (D : Int) i (uI 1074 (lnW (ys.getD k 0))) (uI 1074 (lnW (ys.getD (k + 1) 0)))) D
  generalize overG (linN (D : Int) i (uI 1074 (lnW (ys.getD k 0))) (uI 1074 (lnW (ys.getD (k + 1) 0)))) D = o at *
  have o64 : o < 18446744073709551616 := by have := g1.2; omega
  obtain ⟨e, he, hle⟩ := (expF_says o64).num g2
  have ev : exW o = e := by unfold exW; rw [if_pos o64, he]; rfl
  rw [ev]
  have e64 : e < 18446744073709551616 := by omega
  have en := (rk_pos hle).2.2
  obtain ⟨n1, r1⟩ := held_rank (v := (e : Nat)) en w0.nn.nan w1.nn.nan
  rw [← heldN_cast e64 w0.lt w1.lt] at n1 r1
  exact ⟨n1, heldN_lt e64 w0.lt w1.lt, by rw [r1]; omega, by rw [r1]; omega⟩
end Go.Proofs.Ytnmjljijgmmakab
namespace Go.Proofs.Ytnmjljijgmmakab
open Go.RowKit

/-- A number and its double, both within a range. -/
structure Two (x x' lo hi : Nat) : Prop where
  d : Dbl x x'
  r : Rg x lo hi
  r' : Rg x' lo hi
theorem Two.wide {x x' lo hi lo' hi' : Nat} (h : Two x x' lo hi) (h1 : lo' ≤ lo) (h2 : hi ≤ hi') : Two x x' lo' hi' := ⟨h.d, h.r.wide h1 h2, h.r'.wide h1 h2⟩
theorem two_zero (lo hi : Nat) : Two 0 0 lo hi := by
  have n : NumB 0 := by unfold NumB; decide
  have r : Rg 0 lo hi := ⟨n, by decide, Or.inl rfl, Nat.zero_le _⟩
  exact ⟨⟨n, by decide, n, by decide, by decide⟩, r, r⟩
theorem dvd_vI {x g : Nat} (h : 2 ^ g ∣ aV x) : ((2 ^ g : Nat) : Int) ∣ vI x := by
  have h1 : ((2 ^ g : Nat) : Int) ∣ (aV x : Int) := Int.natCast_dvd_natCast.2 h
  rcases vI_abs2 x with e | e
  · rw [e]; exact h1
  · rw [e]; exact Int.dvd_neg.2 h1
theorem y_mult {x : Nat} (h : Rg x (pB 123) (pB 1924)) : 2 ^ 122 ∣ aV x := by
  rcases h.lo with a | a
  · rw [aV_z, a, V_zero]; exact Nat.dvd_zero _
  · exact mult_of a
theorem z_rank {r : Nat} {k : Int} (h : RkW r k) : zB r = k.natAbs := by
  rw [← h.1, ← sgn_rank h.2.1 h.2.2]; unfold sgn zB; split <;> omega
/-- The difference of two values. -/
theorem sub_two {a a' b b' : Nat} (ha : Two a a' (pB 123) (pB 1924)) (hb : Two b b' (pB 123) (pB 1924)) : Two (sSub b a) (sSub b' a') (pB 71) (pB 1925) := by
  have key : ∀ {a b : Nat}, Rg a (pB 123) (pB 1924) → Rg b (pB 123) (pB 1924) → ∃ r, floatBits .sub .f64 b a = some r ∧ Rg r (pB 71) (pB 1925) := fun {a b} ra rb => by
    obtain ⟨r, e, hn, hl, hz⟩ := (add_hi (c := pB 1925) rb.num ra.num rb.hi ra.hi (by decide +kernel) (by decide)).2
    refine ⟨r, e, hn, hl, ?_, hz⟩
    have k := step_fit (sub_rank rb.num ra.num) e
    rw [z_rank k]
    by_cases h0 : vI b - vI a = 0
    · rw [h0, rnd_zero]; exact Or.inl rfl
    · right
      rw [(rnd_abs (p := -1074) h0).1]
      have hd : ((2 ^ 122 : Nat) : Int) ∣ vI b - vI a := Int.dvd_sub (dvd_vI (y_mult rb)) (dvd_vI (y_mult ra))
      have hd2 : 2 ^ 122 ∣ (vI b - vI a).natAbs := by
        have := Int.natAbs_dvd_natAbs.2 hd
        rwa [Int.natAbs_natCast] at this
      have hle : 2 ^ 122 ≤ (vI b - vI a).natAbs := Nat.le_of_dvd (by omega) hd2
      have := nearR_mono (-1074) hle
      rw [show nearR (2 ^ 122) (-1074) = pB 71 by decide +kernel] at this
      exact this
  obtain ⟨r, e, rr⟩ := key ha.r hb.r
  obtain ⟨r', e', rr'⟩ := key ha.r' hb.r'
  have h1 : sSub b a = r := by unfold sSub; rw [e]; rfl
  have h2 : sSub b' a' = r' := by unfold sSub; rw [e']; rfl
  rw [h1, h2]
  exact ⟨dbl_sub hb.d ha.d e e' rr'.num, rr, rr'⟩
theorem fi_z {m : Int} (h0 : 1 ≤ m) (h1 : m ≤ 109572) : NumB (fi m) ∧ pB 1023 ≤ zB (fi m) ∧ zB (fi m) ≤ pB 1040 := by
  have e : fi m = nearR m.natAbs 0 := by unfold fi joinN; rw [if_neg (by omega), if_neg (by omega)]
  have l := nearR_mono 0 (show 1 ≤ m.natAbs by omega)
  have u := nearR_mono 0 (show m.natAbs ≤ 131072 by omega)
  rw [show nearR 1 0 = pB 1023 by decide +kernel] at l
  rw [show nearR 131072 0 = pB 1040 by decide +kernel] at u
  have hz : zB (fi m) = fi m := by unfold zB; rw [e]; unfold pB at u; omega
  rw [hz, e]
  refine ⟨by unfold NumB; unfold pB at u; omega, l, u⟩
theorem div_two {x x' y lo hi d1 d2 lo' hi' : Nat} (h : Two x x' lo hi) (hy : NumB y) (y1 : d1 ≤ zB y) (y2 : zB y ≤ d2) (d0 : 0 < d1) (e1 : qR (V lo) (V d2) = lo') (e2 : qR (V hi) (V d1) = hi') (h3 : hi' < 9218868437227405312) (h4 : 9007199254740992 ≤ lo') : Two (sDiv x y) (sDiv x' y) lo' hi' := by
  obtain ⟨r, e, rr, rl⟩ := rg_div h.r hy y1 y2 d0 e1 e2 h3
  obtain ⟨r', e', rr', _⟩ := rg_div h.r' hy y1 y2 d0 e1 e2 h3
  have h1 : sDiv x y = r := by unfold sDiv; rw [e]; rfl
  have h2 : sDiv x' y = r' := by unfold sDiv; rw [e']; rfl
  rw [h1, h2]
  have k := step_fit (quo_rank h.r.num hy (by show zB y ≠ 0; omega)) e
  refine ⟨dbl_div h.d hy (by show zB y ≠ 0; omega) e e' rr'.num fun h0 => ?_, rr, rr'⟩
  have hz : zB x ≠ 0 := fun c => h0 (by rw [aV_z, c]; exact V_zero)
  have := rl hz
  rw [rk_size k, ← rk_z k]; omega
theorem mul_two {x x' y lo hi d1 d2 lo' hi' : Nat} (h : Two x x' lo hi) (hy : NumB y) (y1 : d1 ≤ zB y) (y2 : zB y ≤ d2) (e1 : nearR (V lo * V d1) (-2148) = lo') (e2 : nearR (V hi * V d2) (-2148) = hi') (h3 : hi' < 9218868437227405312) (h4 : 9007199254740992 ≤ lo') : Two (sMul x y) (sMul x' y) lo' hi' := by
  obtain ⟨r, e, rr, rl⟩ := rg_mul h.r hy y1 y2 e1 e2 h3
  obtain ⟨r', e', rr', _⟩ := rg_mul h.r' hy y1 y2 e1 e2 h3
  have h1 : sMul x y = r := by unfold sMul; rw [e]; rfl
  have h2 : sMul x' y = r' := by unfold sMul; rw [e']; rfl
  rw [h1, h2]
  refine ⟨dbl_mul h.d hy e e' rr'.num fun h0 => ?_, rr, rr'⟩
  have k := step_fit (mul_rank h.r.num hy) e
  have hz : aV x * aV y ≠ 0 := fun c => h0 (by
    rcases Nat.mul_eq_zero.1 c with c | c
    · have : vI x = 0 := by rcases vI_abs2 x with a | a <;> omega
      rw [this, Int.zero_mul]
    · have : vI y = 0 := by rcases vI_abs2 y with a | a <;> omega
      rw [this, Int.mul_zero])
  have := rl hz
  rw [k.1, ← z_rank k]; omega
/-- Order is kept. -/
theorem lt_vI {x y : Nat} (hx : NumB x) (hy : NumB y) (lx : x < 18446744073709551616) (ly : y < 18446744073709551616) : ltB (x : Nat) (y : Nat) = decide (vI x < vI y) := by
  unfold ltB
  rw [num_nan hx, num_nan hy]
  simp only [Bool.not_false, Bool.true_and]
  exact decide_eq_decide.2 (rank_lt_iff hx hy lx ly)
theorem lt_dbl {x x' y y' : Nat} (hx : Dbl x x') (hy : Dbl y y') : ltB (x' : Nat) (y' : Nat) = ltB (x : Nat) (y : Nat) := by
  rw [lt_vI hx.ny hy.ny hx.ly hy.ly, lt_vI hx.nx hy.nx hx.lx hy.lx, hx.v, hy.v]
  exact decide_eq_decide.2 (by omega)
theorem held_pick (v a b : Nat) : (heldN v a b = v ∨ heldN v a b = a ∨ heldN v a b = b) := by
  unfold heldN heldB
  (repeat' split) <;> simp
theorem dbl_held {v v' a a' b b' : Nat} (hv : Dbl v v') (ha : Dbl a a') (hb : Dbl b b') : Dbl (heldN v a b) (heldN v' a' b') := by
  unfold heldN heldB
  rw [lt_dbl hb ha, lt_dbl hv hb, lt_dbl ha hv, lt_dbl ha hb, lt_dbl hv ha, lt_dbl hb hv]
  (repeat' split) <;> simp only [Int.toNat_natCast] <;> assumption
theorem sB_neg {x : Nat} (h : vI x < 0) : sB x = true := by
  cases hs : sB x with
  | true => rfl
  | false => rw [vI_sg, hs] at h; simp [sgZ] at h; omega
theorem inv_two {c y y' lo hi lo' hi' : Nat} (hc : NumB c) (cs : sB c = false) (c0 : zB c ≠ 0) (h : Two y y' lo hi) (y0 : vI y ≠ 0) (l0 : 0 < lo) (e1 : qR (aV c) (V hi) = lo') (e2 : qR (aV c) (V lo) = hi') (h3 : hi' < 9218868437227405312) (h4 : 9007199254740992 ≤ lo') : Two (sDiv c y') (sDiv c y) lo' hi' ∧ lo' ≤ zB (sDiv c y) ∧ lo' ≤ zB (sDiv c y') ∧ vI (sDiv c y) = sgZ (sB y) (aV (sDiv c y)) ∧ vI (sDiv c y') = sgZ (sB y) (aV (sDiv c y')) := by
  have nz : ∀ {x : Nat}, vI x ≠ 0 → zB x ≠ 0 := fun {x} hx z => hx (by
    have e : aV x = 0 := by rw [aV_z, z]; exact V_zero
    rcases vI_abs2 x with a | a <;> omega)
  have y0' : vI y' ≠ 0 := by have := h.d.v; omega
  obtain ⟨r, e, rr, rl, rs⟩ := rg_inv hc cs h.r (nz y0) l0 e1 e2 h3
  obtain ⟨r', e', rr', rl', rs'⟩ := rg_inv hc cs h.r' (nz y0') l0 e1 e2 h3
  have h1 : sDiv c y = r := by unfold sDiv; rw [e]; rfl
  have h2 : sDiv c y' = r' := by unfold sDiv; rw [e']; rfl
  rw [h1, h2]
  have cv : aV c ≠ 0 := fun z => c0 (zero_V2 (by rw [← aV_z]; exact z))
  have k' := step_fit (quo_rank hc h.r'.num (nz y0')) e'
  have hsb : sB y' = sB y := (aV_dbl h.d).2 (fun z => nz y0 (zero_V2 (by rw [← aV_z]; exact z)))
  rw [hsb] at rs'
  refine ⟨⟨dbl_inv hc cv h.d (nz y0) e e' rr.num ?_, rr', rr⟩, rl, rl', rs, rs'⟩
  rw [rk_size k', ← rk_z k']; omega
end Go.Proofs.Ytnmjljijgmmakab
namespace Go.Proofs.Ytnmjljijgmmakab
open Go.RowKit

theorem one_fit : NumB 4607182418800017408 ∧ sB 4607182418800017408 = false ∧ zB 4607182418800017408 ≠ 0 := ⟨by unfold NumB; decide, by decide, by decide⟩
theorem twos_fit : NumB 4611686018427387904 ∧ sB 4611686018427387904 = false ∧ zB 4611686018427387904 ≠ 0 := ⟨by unfold NumB; decide, by decide, by decide⟩
/-- The mean slope. -/
theorem slB_two {a a' b b' : Nat} (ha : Two a a' (pB 54) (pB 1925)) (hb : Two b b' (pB 54) (pB 1925)) : Two (slB a b) (slB a' b') (pB 54) (pB 1926) := by
  have z := two_zero 0 0
  have c1 : ltB 0 (a' : Nat) = ltB 0 (a : Nat) := lt_dbl (x := 0) (x' := 0) z.d ha.d
  have c2 : ltB 0 (b' : Nat) = ltB 0 (b : Nat) := lt_dbl (x := 0) (x' := 0) z.d hb.d
  have c3 : ltB (a' : Nat) 0 = ltB (a : Nat) 0 := lt_dbl (y := 0) (y' := 0) ha.d z.d
  have c4 : ltB (b' : Nat) 0 = ltB (b : Nat) 0 := lt_dbl (y := 0) (y' := 0) hb.d z.d
  have g1 : ltB 0 (a : Nat) = decide (0 < vI a) := by have := lt_vI (x := 0) z.d.nx ha.d.nx (by decide) ha.d.lx; rw [show vI 0 = 0 by decide +kernel] at this; exact this
  have g2 : ltB 0 (b : Nat) = decide (0 < vI b) := by have := lt_vI (x := 0) z.d.nx hb.d.nx (by decide) hb.d.lx; rw [show vI 0 = 0 by decide +kernel] at this; exact this
  have g3 : ltB (a : Nat) 0 = decide (vI a < 0) := by have := lt_vI (y := 0) ha.d.nx z.d.nx ha.d.lx (by decide); rw [show vI 0 = 0 by decide +kernel] at this; exact this
  have g4 : ltB (b : Nat) 0 = decide (vI b < 0) := by have := lt_vI (y := 0) hb.d.nx z.d.nx hb.d.lx (by decide); rw [show vI 0 = 0 by decide +kernel] at this; exact this
  unfold slB
  rw [c1, c2, c3, c4]
  split
  · rename_i hc
    rw [g1, g2, g3, g4, Bool.or_eq_true_iff, Bool.and_eq_true_iff, Bool.and_eq_true_iff, decide_eq_true_eq, decide_eq_true_eq, decide_eq_true_eq, decide_eq_true_eq] at hc
    have hs : sB a = sB b := by
      rcases hc with ⟨h1, h2⟩ | ⟨h1, h2⟩
      · rw [(sB_pos h1).1, (sB_pos h2).1]
      · rw [sB_neg h1, sB_neg h2]
    have a0 : vI a ≠ 0 := by omega
    have b0 : vI b ≠ 0 := by omega
    obtain ⟨i1, l1, l1', s1, s1'⟩ := inv_two (lo' := pB 121) (hi' := pB 1992) one_fit.1 one_fit.2.1 one_fit.2.2 ha a0 (by decide) (by decide +kernel) (by decide +kernel) (by decide) (by decide)
    obtain ⟨i2, l2, l2', s2, s2'⟩ := inv_two (lo' := pB 121) (hi' := pB 1992) one_fit.1 one_fit.2.1 one_fit.2.2 hb b0 (by decide) (by decide +kernel) (by decide +kernel) (by decide) (by decide)
    rw [← hs] at s2 s2'
    obtain ⟨u, eu, ru, lu⟩ := rg_same (hi' := pB 1993) i1.r' i2.r' l1 s1 s2 (by decide) (by decide) (by decide +kernel) (by decide)
    obtain ⟨u', eu', ru', lu'⟩ := rg_same (hi' := pB 1993) i1.r i2.r l1' s1' s2' (by decide) (by decide) (by decide +kernel) (by decide)
    have h1 : sAdd (sDiv 4607182418800017408 a) (sDiv 4607182418800017408 b) = u := by unfold sAdd; rw [eu]; rfl
    have h2 : sAdd (sDiv 4607182418800017408 a') (sDiv 4607182418800017408 b') = u' := by unfold sAdd; rw [eu']; rfl
    rw [h1, h2]
    have du : Dbl u' u := dbl_add i1.d i2.d eu' eu ru.num
    have u0 : vI u' ≠ 0 := fun e => by
      have hz : zB u' ≠ 0 := by have : 0 < pB 121 := by decide
                                omega
      apply hz
      exact zero_V2 (by rw [← aV_z]; rcases vI_abs2 u' with h | h <;> omega)
    exact (inv_two (lo' := pB 54) (hi' := pB 1926) twos_fit.1 twos_fit.2.1 twos_fit.2.2 ⟨du, ru', ru⟩ u0 (by decide) (by decide +kernel) (by decide +kernel) (by decide) (by decide)).1
  · exact two_zero _ _
/-- Lists, each the double. -/
structure TwoL (l l' : List Nat) (lo hi : Nat) : Prop where
  len : l'.length = l.length
  el : ∀ i, Two (l.getD i 0) (l'.getD i 0) lo hi
theorem TwoL.snoc {l l' : List Nat} {lo hi : Nat} (h : TwoL l l' lo hi) {x x' : Nat} (hx : Two x x' lo hi) : TwoL (l ++ [x]) (l' ++ [x']) lo hi :=
  ⟨by simp [h.len], fun i => by
    rw [getD_app10, getD_app10, h.len]
    split
    · exact h.el i
    · split
      · exact hx
      · exact two_zero _ _⟩
theorem twoL_one {x x' lo hi : Nat} (hx : Two x x' lo hi) : TwoL [x] [x'] lo hi := TwoL.snoc (l := []) (l' := []) ⟨rfl, fun i => by simp [List.getD]; exact two_zero _ _⟩ hx
/-- A table and the doubled one. -/
structure DblT (kind : Int) (xs : List Int) (ys ys' : List Nat) : Prop where
  ok : OkT kind xs ys
  ok' : OkT kind xs ys'
  el : ∀ i < xs.length, Two (ys.getD i 0) (ys'.getD i 0) (pB 123) (pB 1924)
theorem DblT.span {kind : Int} {xs : List Int} {ys ys' : List Nat} (h : DblT kind xs ys ys') {k : Nat} (hk : k + 1 < xs.length) : NumB (fi (xs.getD (k + 1) 0 - xs.getD k 0)) ∧ pB 1023 ≤ zB (fi (xs.getD (k + 1) 0 - xs.getD k 0)) ∧ zB (fi (xs.getD (k + 1) 0 - xs.getD k 0)) ≤ pB 1040 := by
  have hs := h.ok.step hk
  have n0 := node_fine (h.ok.node k (by omega))
  have n1 := node_fine (h.ok.node (k + 1) hk)
  exact fi_z (by omega) (by omega)
theorem DblT.steep {kind : Int} {xs : List Int} {ys ys' : List Nat} (h : DblT kind xs ys ys') {k : Nat} (hk : k + 1 < xs.length) : Two (steepB xs ys k) (steepB xs ys' k) (pB 54) (pB 1925) := by
  obtain ⟨s1, s2, s3⟩ := h.span hk
  unfold steepB
  exact div_two (sub_two (h.el k (by omega)) (h.el (k + 1) hk)) s1 s2 s3 (by decide) (by decide +kernel) (by decide +kernel) (by decide) (by decide)
theorem DblT.slopP {kind : Int} {xs : List Int} {ys ys' : List Nat} (h : DblT kind xs ys ys') : ∀ k, k + 1 < xs.length → TwoL (slopP xs ys k) (slopP xs ys' k) (pB 54) (pB 1926)
  | 0, hk => twoL_one ((h.steep hk).wide (Nat.le_refl _) (by decide))
  | k + 1, hk => by
    rw [slopP_next, slopP_next]
    exact (DblT.slopP h k (by omega)).snoc (slB_two (h.steep (by omega)) (h.steep hk))
theorem DblT.slopL {kind : Int} {xs : List Int} {ys ys' : List Nat} (h : DblT kind xs ys ys') : TwoL (slopL xs ys xs.length) (slopL xs ys' xs.length) (pB 54) (pB 1926) := by
  have hlo := h.ok.lo
  unfold Go.Proofs.Ytnmjljijgmmakab.slopL
  by_cases h1 : xs.length = 1
  · rw [if_pos h1, if_pos h1]; exact twoL_one (two_zero _ _)
  · rw [if_neg h1, if_neg h1]
    exact (h.slopP _ (by omega)).snoc ((h.steep (by omega)).wide (Nat.le_refl _) (by decide))
/-- What is added to a node, or taken from it. -/
theorem move_two {d d' h : Nat} (hd : Two d d' (pB 54) (pB 1926)) (hn : NumB h) (h1 : pB 1023 ≤ zB h) (h2 : zB h ≤ pB 1040) : Two (sDiv (sMul d h) (fi 3)) (sDiv (sMul d' h) (fi 3)) (pB 52) (pB 1942) := by
  have m := mul_two (lo' := pB 54) (hi' := pB 1943) hd hn h1 h2 (by decide +kernel) (by decide +kernel) (by decide) (by decide)
  exact div_two (d1 := pB 1024) (d2 := pB 1025) m (by unfold NumB; decide +kernel) (by decide +kernel) (by decide +kernel) (by decide) (by decide +kernel) (by decide +kernel) (by decide) (by decide)
/-- A value with such a thing added: the double, and a whole multiple of 2^119 units if the value is other than 0. -/
theorem near_node {a t : Nat} {T : Int} (ha : Rg a (pB 123) (pB 1924)) (a0 : zB a ≠ 0) (hT : T = vI a + vI t ∨ T = vI a - vI t) : 2 ^ 119 ∣ V (nearR T.natAbs (-1074)) := by
  refine near_mult (by decide) (by decide) ?_
  have hl : pB 123 ≤ zB a := by rcases ha.lo with h | h; exact absurd h a0; exact h
  have ax : (vI a).natAbs = aV a := by rcases vI_abs2 a with h | h <;> omega
  have tx : (vI t).natAbs = aV t := by rcases vI_abs2 t with h | h <;> omega
  by_cases c : pB 120 ≤ zB t ∨ zB t = 0
  · left
    have h1 : ((2 ^ 119 : Nat) : Int) ∣ vI a := dvd_vI (mult_of (Nat.le_trans (by decide) hl))
    have h2 : ((2 ^ 119 : Nat) : Int) ∣ vI t := dvd_vI (by
      rcases c with c | c
      · exact mult_of c
      · rw [aV_z, c, V_zero]; exact Nat.dvd_zero _)
    have h3 : ((2 ^ 119 : Nat) : Int) ∣ T := by
      rcases hT with e | e
      · rw [e]; exact Int.dvd_add h1 h2
      · rw [e]; exact Int.dvd_sub h1 h2
    have := Int.natAbs_dvd_natAbs.2 h3
    rwa [Int.natAbs_natCast] at this
  · right
    have v1 : V (pB 123) ≤ aV a := V_le hl
    have v2 : aV t ≤ V (pB 120) := V_le (show zB t ≤ pB 120 by omega)
    rw [show V (pB 123) = 2 ^ 174 by decide +kernel] at v1
    rw [show V (pB 120) = 2 ^ 171 by decide +kernel] at v2
    have e1 : (2 : Nat) ^ 174 = 8 * 2 ^ 171 := by decide +kernel
    have e2 : (2 : Nat) ^ (119 + 53) = 2 * 2 ^ 171 := by decide +kernel
    rw [e1] at v1
    rw [e2]
    generalize (2 : Nat) ^ 171 = P at *
    rcases hT with e | e <;> omega
theorem mult_rk {r : Nat} {T : Int} {g : Nat} (k : RkW r (rndI T (-1074))) (h : 2 ^ g ∣ V (nearR T.natAbs (-1074))) : 2 ^ g ∣ aV r := by
  rw [aV_z, z_rank k]
  by_cases h0 : T = 0
  · rw [h0, rnd_zero]
    exact (by rw [show V (Int.natAbs 0) = 0 by decide]; exact Nat.dvd_zero _)
  · rw [(rnd_abs (p := -1074) h0).1]; exact h
end Go.Proofs.Ytnmjljijgmmakab
namespace Go.Proofs.Ytnmjljijgmmakab
open Go.RowKit

theorem DblT.pts {kind : Int} {xs : List Int} {ys ys' : List Nat} (h : DblT kind xs ys ys') {k : Nat} (hk : k + 1 < xs.length) :
    ∃ p q p' q', ptL xs ys k = [ys.getD k 0, p, q, ys.getD (k + 1) 0] ∧ ptL xs ys' k = [ys'.getD k 0, p', q', ys'.getD (k + 1) 0] ∧ Dbl p p' ∧ Dbl q q' ∧ (zB (ys.getD k 0) ≠ 0 → zB (ys.getD (k + 1) 0) ≠ 0 → 2 ^ 119 ∣ aV p ∧ 2 ^ 119 ∣ aV q) := by
  obtain ⟨s1, s2, s3⟩ := h.span hk
  have y0 := h.el k (by omega)
  have y1 := h.el (k + 1) hk
  have t0 := move_two (h.slopL.el k) s1 s2 s3
  have t1 := move_two (h.slopL.el (k + 1)) s1 s2 s3
  refine ⟨_, _, _, _, rfl, rfl, ?_⟩
  unfold ptP ptQ
  generalize sDiv (sMul ((Go.Proofs.Ytnmjljijgmmakab.slopL xs ys xs.length).getD k 0) (fi (xs.getD (k + 1) 0 - xs.getD k 0))) (fi 3) = t at *
  generalize sDiv (sMul ((Go.Proofs.Ytnmjljijgmmakab.slopL xs ys' xs.length).getD k 0) (fi (xs.getD (k + 1) 0 - xs.getD k 0))) (fi 3) = t' at *
  generalize sDiv (sMul ((Go.Proofs.Ytnmjljijgmmakab.slopL xs ys xs.length).getD (k + 1) 0) (fi (xs.getD (k + 1) 0 - xs.getD k 0))) (fi 3) = u at *
  generalize sDiv (sMul ((Go.Proofs.Ytnmjljijgmmakab.slopL xs ys' xs.length).getD (k + 1) 0) (fi (xs.getD (k + 1) 0 - xs.getD k 0))) (fi 3) = u' at *
  generalize ys.getD k 0 = a at *
  generalize ys'.getD k 0 = a' at *
  generalize ys.getD (k + 1) 0 = b at *
  generalize ys'.getD (k + 1) 0 = b' at *
  have hc : nearR (V (pB 1924) + V (pB 1942)) (-1074) = pB 1942 + 17179869184 := by decide +kernel
  obtain ⟨v, ev, nv, lv, _⟩ := (add_hi y0.r.num t0.r.num y0.r.hi t0.r.hi hc (by decide)).1
  obtain ⟨v', ev', nv', lv', _⟩ := (add_hi y0.r'.num t0.r'.num y0.r'.hi t0.r'.hi hc (by decide)).1
  obtain ⟨z, ez, nz, lz, _⟩ := (add_hi y1.r.num t1.r.num y1.r.hi t1.r.hi hc (by decide)).2
  obtain ⟨z', ez', nz', lz', _⟩ := (add_hi y1.r'.num t1.r'.num y1.r'.hi t1.r'.hi hc (by decide)).2
  have h1 : sAdd a t = v := by unfold sAdd; rw [ev]; rfl
  have h2 : sAdd a' t' = v' := by unfold sAdd; rw [ev']; rfl
  have h3 : sSub b u = z := by unfold sSub; rw [ez]; rfl
  have h4 : sSub b' u' = z' := by unfold sSub; rw [ez']; rfl
  rw [h1, h2, h3, h4]
  have dv := dbl_add y0.d t0.d ev ev' nv'
  have dz := dbl_sub y1.d t1.d ez ez' nz'
  have dp := dbl_held dv y0.d y1.d
  have dq := dbl_held dz dp y1.d
  refine ⟨dp, dq, fun ha hb => ?_⟩
  have ma : 2 ^ 119 ∣ aV a := by
    have la : pB 123 ≤ zB a := by
      rcases y0.r.lo with h | h
      · exact absurd h ha
      · exact h
    exact mult_of (Nat.le_trans (show pB (119 + 1) ≤ pB 123 by decide) la)
  have mb : 2 ^ 119 ∣ aV b := by
    have lb : pB 123 ≤ zB b := by
      rcases y1.r.lo with h | h
      · exact absurd h hb
      · exact h
    exact mult_of (Nat.le_trans (show pB (119 + 1) ≤ pB 123 by decide) lb)
  have mv : 2 ^ 119 ∣ aV v := mult_rk (step_fit (add_rank y0.r.num t0.r.num) ev) (near_node y0.r ha (Or.inl rfl))
  have mz : 2 ^ 119 ∣ aV z := mult_rk (step_fit (sub_rank y1.r.num t1.r.num) ez) (near_node y1.r hb (Or.inr rfl))
  have mp : 2 ^ 119 ∣ aV (heldN v a b) := by
    rcases held_pick v a b with e | e | e <;> rw [e] <;> assumption
  refine ⟨mp, ?_⟩
  rcases held_pick z (heldN v a b) b with e | e | e <;> rw [e] <;> assumption
/-- A sum divided, and the double of it. -/
theorem over_dbl {N : Int} {d : Nat} (hd : 0 < d) (hlo : N ≠ 0 → 9007199254740992 ≤ nearR (quoS N.natAbs d 0) (-2149)) (hn : NumB (overG (2 * N) d)) : Dbl (overG N d) (overG (2 * N) d) := by
  by_cases h0 : N = 0
  · subst h0
    have e : overG (2 * 0) d = 0 := by unfold overG; rfl
    have e2 : overG 0 d = 0 := by unfold overG; rfl
    rw [e, e2]
    exact (two_zero 0 0).d
  · have h0' : 2 * N ≠ 0 := by omega
    have hA : N.natAbs ≠ 0 := by omega
    have k : RkW (overG N d) (sgZ (decide (N < 0)) (nearR (quoS N.natAbs d 0) (-2149))) := by
      unfold overG; rw [if_neg h0]; exact rk_wrd (nearR_top _ _)
    have k' : RkW (overG (2 * N) d) (sgZ (decide (2 * N < 0)) (nearR (quoS (2 * N).natAbs d 0) (-2149))) := by
      unfold overG; rw [if_neg h0']; exact rk_wrd (nearR_top _ _)
    have es : decide (2 * N < 0) = decide (N < 0) := decide_eq_decide.2 (by omega)
    have eA : (2 * N).natAbs = 2 * N.natAbs := by omega
    have hl := hlo h0
    rw [es, eA] at k'
    have hz' : nearR (quoS (2 * N.natAbs) d 0) (-2149) < 9218868437227405312 := by
      have := rk_z k'
      unfold NumB at hn
      have h2 : zB (overG (2 * N) d) < 9218868437227405312 := hn
      omega
    have e1 : quoS (2 * N.natAbs) d 0 = quoS N.natAbs d 1 := by
      have := quoS_up2 N.natAbs d 1 0
      rw [Nat.pow_one, Nat.mul_comm] at this
      exact this
    have e2 := near_quo_low (k1 := 0) (k2 := 1) (p := -2149) hA hd (by decide) (by decide)
    rw [show ((-2149 : Int) - ((0 : Nat) : Int)) = -2149 by decide, show ((-2149 : Int) - ((1 : Nat) : Int)) = -2150 by decide] at e2
    have hV : V (nearR (quoS (2 * N.natAbs) d 0) (-2149)) = 2 * V (nearR (quoS N.natAbs d 0) (-2149)) := by
      rw [e1] at hz' ⊢
      rw [e2] at hl ⊢
      exact near_dbl (p := -2150) (by decide) hl hz'
    have hm : nearR (quoS N.natAbs d 0) (-2149) ≤ nearR (quoS (2 * N.natAbs) d 0) (-2149) := nearR_mono _ (quoS_up (by omega))
    refine ⟨by unfold NumB; show zB (overG N d) < _; rw [rk_z k]; omega, k.2.1, hn, k'.2.1, ?_⟩
    rw [vI_sgR k, vI_sgR k', hV]
    unfold sgZ
    cases decide (N < 0) <;> simp <;> omega
theorem low_lin : nearR (quoS (2 ^ 1193) 131072 0) (-2149) = pB 51 := by decide +kernel
theorem low_cub : nearR (quoS (2 ^ 1193) 2251799813685248 0) (-2149) = pB 17 := by decide +kernel
theorem Dbl.uI {x y : Nat} (h : Dbl x y) (K : Nat) : uI K y = 2 * uI K x := by
  unfold Go.Proofs.Ytnmjljijgmmakab.uI; rw [h.v, Int.mul_assoc]
theorem uI_dvd {x g K : Nat} (h : 2 ^ g ∣ aV x) : ((2 ^ (g + K) : Nat) : Int) ∣ uI K x := by
  unfold uI
  rw [Nat.pow_add, Int.natCast_mul]
  exact Int.mul_dvd_mul (dvd_vI h) (Int.dvd_refl _)
theorem dvd_le {B : Nat} {N : Int} (h : (B : Int) ∣ N) (h0 : N ≠ 0) : B ≤ N.natAbs := by
  have h1 : B ∣ N.natAbs := by
    have := Int.natAbs_dvd_natAbs.2 h
    rwa [Int.natAbs_natCast] at this
  exact Nat.le_of_dvd (by omega) h1
theorem lin_two (n i a b : Int) : linN n i (2 * a) (2 * b) = 2 * linN n i a b := by
  unfold linN
  rw [Int.mul_add, ← Int.mul_assoc (n - i) 2 a, Int.mul_comm (n - i) 2, Int.mul_assoc 2, ← Int.mul_assoc i 2 b, Int.mul_comm i 2, Int.mul_assoc 2]
theorem cub_two (n i a b c d : Int) : cubN n i (2 * a) (2 * b) (2 * c) (2 * d) = 2 * cubN n i a b c d := by
  have key : ∀ w u : Int, w * (2 * u) = 2 * (w * u) := fun w u => by rw [← Int.mul_assoc, Int.mul_comm w 2, Int.mul_assoc]
  unfold cubN
  rw [key, key, key, key, Int.mul_add, Int.mul_add, Int.mul_add]
/-- Four points of one sign: their sum is not smaller than the outer ones. -/
theorem cub_out {n i u0 u1 u2 u3 : Int} (hi : 1 ≤ i) (hn : i < n) (h0 : 0 ≤ u0) (h1 : 0 ≤ u1) (h2 : 0 ≤ u2) (h3 : 0 ≤ u3) : u0 ≤ cubN n i u0 u1 u2 u3 ∧ u3 ≤ cubN n i u0 u1 u2 u3 := by
  obtain ⟨e, he⟩ : ∃ e, e = n - i := ⟨_, rfl⟩
  have e1 : 1 ≤ e := by omega
  unfold cubN
  rw [← he]
  have m : ∀ {a b : Int}, 1 ≤ a → 1 ≤ b → 1 ≤ a * b := fun {a b} ha hb => by
    have := Int.mul_le_mul ha hb (by decide) (by omega)
    omega
  have p : ∀ {a u : Int}, 1 ≤ a → 0 ≤ u → u ≤ a * u := fun {a u} ha hu => by
    have := Int.mul_le_mul_of_nonneg_right ha hu
    omega
  have q0 := p (m (m e1 e1) e1) h0
  have q3 := p (m (m hi hi) hi) h3
  have q1 := p (a := 3 * e * e * i) (m (m (m (by decide) e1) e1) hi) h1
  have q2 := p (a := 3 * e * i * i) (m (m (m (by decide) e1) hi) hi) h2
  omega
theorem zero_uI {x K : Nat} (h : zB x = 0) : uI K x = 0 := by
  have e : aV x = 0 := by rw [aV_z, h]; exact V_zero
  have : vI x = 0 := by rcases vI_abs2 x with a | a <;> omega
  unfold uI; rw [this, Int.zero_mul]
theorem big_uI {x K : Nat} (h : Rg x (pB 123) (pB 1924)) (h0 : zB x ≠ 0) : 2 ^ (119 + K) ≤ (uI K x).natAbs := by
  have hl : pB 123 ≤ zB x := by rcases h.lo with a | a; exact absurd a h0; exact a
  have hne : uI K x ≠ 0 := by
    unfold uI
    have hv : vI x ≠ 0 := fun e => h0 (zero_V2 (by rw [← aV_z]; rcases vI_abs2 x with a | a <;> omega))
    exact Int.mul_ne_zero hv (by have := Nat.two_pow_pos K; omega)
  exact dvd_le (uI_dvd (mult_of (Nat.le_trans (by decide) hl))) hne
end Go.Proofs.Ytnmjljijgmmakab
namespace Go.Proofs.Ytnmjljijgmmakab
open Go.RowKit

theorem y_119 {x : Nat} (h : Rg x (pB 123) (pB 1924)) : 2 ^ 119 ∣ aV x := Nat.dvd_trans (Nat.pow_dvd_pow 2 (by decide)) (y_mult h)
theorem over_num {N : Int} {d a b : Nat} (ha : NumW a) (hb : NumW b) (h1 : rankI (a : Nat) ≤ ovRk N d) (h2 : ovRk N d ≤ rankI (b : Nat)) : NumB (overG N d) := by
  obtain ⟨g1, g2, g3⟩ := overG_rank N d
  exact (num_mid (by have := g1.2; omega) g2 ha hb (by rw [g3]; exact h1) (by rw [g3]; exact h2)).nb
theorem cub_low {N : Int} {D K : Nat} (hK : K = 1074) (hD0 : 0 < D) (hD : (D : Int) ≤ 109572) (h : 2 ^ (119 + K) ≤ N.natAbs) : 9007199254740992 ≤ nearR (quoS N.natAbs (D * D * D) 0) (-2149) := by
  have hs : 119 + K = 1193 := by omega
  rw [hs] at h
  have d1 : D ≤ 131072 := by omega
  have d2 : D * D * D ≤ 131072 * 131072 * 131072 := Nat.mul_le_mul (Nat.mul_le_mul d1 d1) d1
  have := over_low (B := 2 ^ 1193) (D := 2251799813685248) (Nat.mul_pos (Nat.mul_pos hD0 hD0) hD0) h (by omega) low_cub
  exact Nat.le_trans (by decide) this
theorem lin_low {N : Int} {D K : Nat} (hK : K = 1074) (hD0 : 0 < D) (hD : (D : Int) ≤ 109572) (h : 2 ^ (119 + K) ≤ N.natAbs) : 9007199254740992 ≤ nearR (quoS N.natAbs D 0) (-2149) := by
  have hs : 119 + K = 1193 := by omega
  rw [hs] at h
  have := over_low (B := 2 ^ 1193) (D := 131072) hD0 h (by omega) low_lin
  exact Nat.le_trans (by decide) this
/-- The weighted sum of four points is nought or not too small. -/
theorem cub_big {D K a b p q : Nat} {i : Int} (ha : Rg a (pB 123) (pB 1924)) (hb : Rg b (pB 123) (pB 1924)) (hi : 0 < i) (hi' : i < (D : Int)) (hm : zB a ≠ 0 → zB b ≠ 0 → 2 ^ 119 ∣ aV p ∧ 2 ^ 119 ∣ aV q)
    (ho : (uI K a ≤ uI K p ∧ uI K p ≤ uI K q ∧ uI K q ≤ uI K b) ∨ (uI K p ≤ uI K a ∧ uI K q ≤ uI K p ∧ uI K b ≤ uI K q)) (hN : cubN (D : Int) i (uI K a) (uI K p) (uI K q) (uI K b) ≠ 0) : 2 ^ (119 + K) ≤ (cubN (D : Int) i (uI K a) (uI K p) (uI K q) (uI K b)).natAbs := by
  by_cases h0 : zB a ≠ 0 ∧ zB b ≠ 0
  · obtain ⟨m1, m2⟩ := hm h0.1 h0.2
    refine dvd_le ?_ hN
    unfold cubN
    exact Int.dvd_add (Int.dvd_add (Int.dvd_add (Int.dvd_mul_of_dvd_right (uI_dvd (y_119 ha))) (Int.dvd_mul_of_dvd_right (uI_dvd m1))) (Int.dvd_mul_of_dvd_right (uI_dvd m2))) (Int.dvd_mul_of_dvd_right (uI_dvd (y_119 hb)))
  · have big : ∀ {x : Nat}, Rg x (pB 123) (pB 1924) → uI K x ≠ 0 → 2 ^ (119 + K) ≤ (uI K x).natAbs := fun {x} hx hne => big_uI hx (fun z => hne (zero_uI z))
    have zer : uI K a = 0 ∨ uI K b = 0 := by
      by_cases z : zB a = 0
      · exact Or.inl (zero_uI z)
      · exact Or.inr (zero_uI (Classical.byContradiction fun c => h0 ⟨z, c⟩))
    have ba := fun hne => big ha hne
    have bb := fun hne => big hb hne
    generalize uI K a = u0 at *
    generalize uI K p = u1 at *
    generalize uI K q = u2 at *
    generalize uI K b = u3 at *
    generalize 2 ^ (119 + K) = B at *
    have allz : u0 = 0 → u3 = 0 → False := fun e0 e3 => hN (by
      have e1 : u1 = 0 := by omega
      have e2 : u2 = 0 := by omega
      rw [e0, e1, e2, e3]; unfold cubN; simp)
    by_cases hp : 0 ≤ u0 ∧ 0 ≤ u1 ∧ 0 ≤ u2 ∧ 0 ≤ u3
    · obtain ⟨c0, c3⟩ := cub_out (n := (D : Int)) (by omega) hi' hp.1 hp.2.1 hp.2.2.1 hp.2.2.2
      rcases zer with z | z
      · have := bb (fun e => allz z e); omega
      · have := ba (fun e => allz e z); omega
    · have hn : 0 ≤ -u0 ∧ 0 ≤ -u1 ∧ 0 ≤ -u2 ∧ 0 ≤ -u3 := by omega
      obtain ⟨c0, c3⟩ := cub_out (n := (D : Int)) (by omega) hi' hn.1 hn.2.1 hn.2.2.1 hn.2.2.2
      rw [cub_neg] at c0 c3
      rcases zer with z | z
      · have := bb (fun e => allz z e); omega
      · have := ba (fun e => allz e z); omega
/-- At of the doubled table. -/
theorem at_dbl {kind x : Int} {xs : List Int} {ys ys' : List Nat} {k Y Y' : Nat} (h : DblT kind xs ys ys') (hk : k < xs.length) (hA : AtR xs ys kind x k Y) (hB : AtR xs ys' kind x k Y') : Dbl Y Y' := by
  have y0 := h.el k hk
  obtain ⟨K, hK⟩ : ∃ K, K = 1074 := ⟨_, rfl⟩
  have hf : ∀ i < ys.length, U64 (ys.getD i 0 : Nat) := fun i hi => u64_of_nat (h.el i (by rw [← h.ok.len]; exact hi)).r.lt
  have hf' : ∀ i < ys'.length, U64 (ys'.getD i 0 : Nat) := fun i hi => u64_of_nat (h.el i (by rw [← h.ok'.len]; exact hi)).r'.lt
  have w0 := node_num h.ok hf hk
  have w0' := node_num h.ok' hf' hk
  cases hA with
  | node _ _ _ h1 =>
    cases hB with
    | node _ _ _ h2 => exact y0.d
    | flat _ _ h2 => exact absurd h1 h2
    | lin _ _ D i hI => have := hI.hi; have := hI.lo; omega
    | cub _ _ D i hI => have := hI.hi; have := hI.lo; omega
  | flat _ _ h1 =>
    cases hB with
    | node _ _ _ h2 => exact absurd h2 h1
    | flat _ _ h2 => exact y0.d
  | lin _ _ D i hI =>
    cases hB with
    | node _ _ _ h2 => have := hI.hi; have := hI.lo; omega
    | lin _ _ D' i' hI' =>
      obtain rfl : D = D' := by have := hI.hD; have := hI'.hD; omega
      obtain rfl : i = i' := by have := hI.hi; have := hI'.hi; omega
      have hD := inside_D h.ok hI
      have y1 := h.el (k + 1) hI.lt
      have w1 := node_num h.ok hf hI.lt
      have w1' := node_num h.ok' hf' hI.lt
      have a := hI.lo
      have b := hI.hi'
      unfold linV
      rw [lin_plain hK w0 w1 (by omega) (by omega) hD.2, lin_plain hK w0' w1' (by omega) (by omega) hD.2]
      have hn : NumB (overG (linN (D : Int) i (uI K (ys'.getD k 0)) (uI K (ys'.getD (k + 1) 0))) D) := by
        rcases Int.le_total (rankI (ys'.getD k 0 : Nat)) (rankI (ys'.getD (k + 1) 0 : Nat)) with hr | hr
        · obtain ⟨g1, g2⟩ := lin_held_up (D := D) (i := i) hK w0' w1' (by omega) (by omega) hD.1 hr
          exact over_num w0' w1' g1 g2
        · obtain ⟨g1, g2⟩ := lin_held_down (D := D) (i := i) hK w0' w1' (by omega) (by omega) hD.1 hr
          exact over_num w1' w0' g1 g2
      rw [y0.d.uI, y1.d.uI, lin_two] at hn ⊢
      refine over_dbl hD.1 (fun hN => lin_low hK hD.1 hD.2 (dvd_le ?_ hN)) hn
      unfold linN
      exact Int.dvd_add (Int.dvd_mul_of_dvd_right (uI_dvd (y_119 y0.r))) (Int.dvd_mul_of_dvd_right (uI_dvd (y_119 y1.r)))
  | cub _ _ D i hI =>
    cases hB with
    | node _ _ _ h2 => have := hI.hi; have := hI.lo; omega
    | cub _ _ D' i' hI' =>
      obtain rfl : D = D' := by have := hI.hD; have := hI'.hD; omega
      obtain rfl : i = i' := by have := hI.hi; have := hI'.hi; omega
      have hD := inside_D h.ok hI
      have y1 := h.el (k + 1) hI.lt
      have w1 := node_num h.ok hf hI.lt
      have w1' := node_num h.ok' hf' hI.lt
      have a := hI.lo
      have b := hI.hi'
      have hp : 0 < D * D * D := Nat.mul_pos (Nat.mul_pos hD.1 hD.1) hD.1
      obtain ⟨p, q, p', q', e, e', dp, dq, hm⟩ := h.pts hI.lt
      rw [e, e', cub_plain hK w0 ⟨dp.lx, dp.nx⟩ ⟨dq.lx, dq.nx⟩ w1 (by omega) (by omega) hD.2, cub_plain hK w0' ⟨dp.ly, dp.ny⟩ ⟨dq.ly, dq.ny⟩ w1' (by omega) (by omega) hD.2]
      have hn : NumB (overG (cubN (D : Int) i (uI K (ys'.getD k 0)) (uI K p') (uI K q') (uI K (ys'.getD (k + 1) 0))) (D * D * D)) := by
        rcases Int.le_total (rankI (ys'.getD k 0 : Nat)) (rankI (ys'.getD (k + 1) 0 : Nat)) with hr | hr
        · obtain ⟨p2, q2, e2, up⟩ := ptL_up h.ok' hf' hI.lt hr
          rw [e'] at e2
          injection e2 with _ e2
          injection e2 with ep e2
          injection e2 with eq _
          subst ep eq
          obtain ⟨g1, g2⟩ := cub_held_up (D := D) (i := i) hK up (by omega) (by omega) hD.1
          exact over_num w0' w1' g1 g2
        · obtain ⟨p2, q2, e2, up⟩ := ptL_down h.ok' hf' hI.lt hr
          rw [e'] at e2
          injection e2 with _ e2
          injection e2 with ep e2
          injection e2 with eq _
          subst ep eq
          obtain ⟨g1, g2⟩ := cub_held_down (D := D) (i := i) hK up (by omega) (by omega) hD.1
          exact over_num w1' w0' g1 g2
      have ho : (uI K (ys.getD k 0) ≤ uI K p ∧ uI K p ≤ uI K q ∧ uI K q ≤ uI K (ys.getD (k + 1) 0)) ∨ (uI K p ≤ uI K (ys.getD k 0) ∧ uI K q ≤ uI K p ∧ uI K (ys.getD (k + 1) 0) ≤ uI K q) := by
        rcases Int.le_total (rankI (ys.getD k 0 : Nat)) (rankI (ys.getD (k + 1) 0 : Nat)) with hr | hr
        · obtain ⟨p2, q2, e2, up⟩ := ptL_up h.ok hf hI.lt hr
          rw [e] at e2
          injection e2 with _ e2
          injection e2 with ep e2
          injection e2 with eq _
          subst ep eq
          exact Or.inl ⟨uI_le K up.n0.lt up.n0.nb up.n1.lt up.n1.nb up.r1, uI_le K up.n1.lt up.n1.nb up.n2.lt up.n2.nb up.r2, uI_le K up.n2.lt up.n2.nb up.n3.lt up.n3.nb up.r3⟩
        · obtain ⟨p2, q2, e2, up⟩ := ptL_down h.ok hf hI.lt hr
          rw [e] at e2
          injection e2 with _ e2
          injection e2 with ep e2
          injection e2 with eq _
          subst ep eq
          exact Or.inr ⟨uI_le K up.n1.lt up.n1.nb up.n0.lt up.n0.nb up.r1, uI_le K up.n2.lt up.n2.nb up.n1.lt up.n1.nb up.r2, uI_le K up.n3.lt up.n3.nb up.n2.lt up.n2.nb up.r3⟩
      rw [y0.d.uI, y1.d.uI, dp.uI, dq.uI, cub_two] at hn ⊢
      exact over_dbl hp (fun hN => cub_low hK hD.1 hD.2 (cub_big y0.r y1.r a b hm ho hN)) hn
end Go.Proofs.Ytnmjljijgmmakab
