/- Values turned in sign: each step tells the opposite. No word of the program. Tables whose values are turned in sign: At tells the opposite. No word of the program. Values of logarithmic pieces: no NaN, and held between their nodes. No word of the program but Exp and Ln as plain functions. -/
import Derived.Test.YtnmjljijgmmakaaHax
import Derived.Test.YtnmjljijgmmakaaHaq
namespace Go.Proofs.Ytnmjljijgmmakaa
open Go.RowKit

theorem nn_rank {x : Nat} (h : NN x) : rankI (x : Nat) = sgZ (sB x) (x % 9223372036854775808) := by
  have hn := h.nan
  have hl := h.lt
  unfold rankI
  rw [hn, if_neg (by decide)]
  unfold sgB szI sgZ sB
  by_cases hs : (9223372036854775808 : Int) ≤ (x : Int)
  · rw [show x / 9223372036854775808 % 2 = 1 by omega]
    simp [hs]
  · rw [show x / 9223372036854775808 % 2 = 0 by omega]
    simp [hs]
/-- Two that are opposite: zeros of any sign. -/
structure Opp (x y : Nat) : Prop where
  nx : NN x
  ny : NN y
  rk : rankI (y : Nat) = -rankI (x : Nat)
theorem Opp.sz {x y : Nat} (h : Opp x y) : y % 9223372036854775808 = x % 9223372036854775808 ∧ (x % 9223372036854775808 ≠ 0 → sB y = !sB x) := by
  have e := h.rk
  rw [nn_rank h.nx, nn_rank h.ny] at e
  unfold sgZ at e
  cases hx : sB x <;> cases hy : sB y <;> rw [hx, hy] at e <;> simp at e <;> refine ⟨by omega, fun h0 => ?_⟩
  · omega
  · rfl
  · rfl
  · omega
theorem Opp.symm {x y : Nat} (h : Opp x y) : Opp y x := ⟨h.ny, h.nx, by have := h.rk; omega⟩
theorem Opp.num {x y : Nat} (h : Opp x y) (hx : NumB x) : NumB y := by unfold NumB at *; rw [h.sz.1]; exact hx
theorem Opp.vI {x y : Nat} (h : Opp x y) : vI y = -vI x := by
  obtain ⟨e1, e2⟩ := h.sz
  rw [vI_sg, vI_sg]
  unfold aV
  rw [e1]
  by_cases h0 : x % 9223372036854775808 = 0
  · rw [h0, V_zero]; unfold sgZ; split <;> split <;> rfl
  · rw [e2 h0]
    cases sB x <;> simp [sgZ]
theorem Opp.uI {x y : Nat} (h : Opp x y) (K : Nat) : uI K y = -uI K x := by
  unfold Go.Proofs.Ytnmjljijgmmakaa.uI
  rw [h.vI, Int.neg_mul]
theorem opp_of {r r' : Nat} {k : Int} (h : RkW r k) (h' : RkW r' (-k)) : Opp r r' := ⟨rkw_nn h, rkw_nn h', by rw [h.1, h'.1]⟩
theorem opp_sub {a b a' b' : Nat} (ha : Opp a a') (hb : Opp b b') (na : NumB a) (nb : NumB b) : Opp (sSub a b) (sSub a' b') := by
  obtain ⟨r, e, h⟩ := sub_rank na nb
  obtain ⟨r', e', h'⟩ := sub_rank (ha.num na) (hb.num nb)
  unfold sSub
  rw [e, e', cn_some, cn_some]
  rw [ha.vI, hb.vI, show -Go.Proofs.Ytnmjljijgmmakaa.vI a - -Go.Proofs.Ytnmjljijgmmakaa.vI b = -(Go.Proofs.Ytnmjljijgmmakaa.vI a - Go.Proofs.Ytnmjljijgmmakaa.vI b) by omega, rnd_neg] at h'
  exact opp_of h h'
theorem sgZ_not (s : Bool) (n : Nat) : sgZ (!s) n = -sgZ s n := by cases s <;> simp [sgZ]
theorem sgZ_zero (s : Bool) : sgZ s 0 = 0 := by cases s <;> rfl
theorem wrd_rk {s : Bool} {r : Nat} (h : r ≤ 9218868437227405312) : RkW (wrd s r) (sgZ s r) := rk_wrd h
/-- Over a number. -/
theorem opp_div {x x' y : Nat} (hx : Opp x x') (hy : NumB y) (h0 : y % 9223372036854775808 ≠ 0) : Opp (sDiv x y) (sDiv x' y) := by
  obtain ⟨e1, e2⟩ := hx.sz
  unfold sDiv
  rcases hx.nx.cases with h | h
  · obtain ⟨r, e, hr⟩ := quo_rank h hy h0
    obtain ⟨r', e', hr'⟩ := quo_rank (hx.num h) hy h0
    rw [e, e', cn_some, cn_some]
    unfold aV at hr hr'
    rw [e1] at hr'
    by_cases hz : x % 9223372036854775808 = 0
    · rw [hz, V_zero] at hr hr'
      have q0 : ∀ Y, qR 0 Y = 0 := fun Y => by unfold qR; rw [if_pos rfl]
      rw [q0, sgZ_zero] at hr hr'
      exact opp_of hr (by rw [show (-0 : Int) = 0 from rfl]; exact hr')
    · rw [e2 hz, show ((!sB x) ^^ sB y) = !(sB x ^^ sB y) by cases sB x <;> cases sB y <;> rfl, sgZ_not] at hr'
      exact opp_of hr hr'
  · have h' : x' % 9223372036854775808 = 9218868437227405312 := by rw [e1]; exact h
    rw [quo_inf h hy, quo_inf h' hy, cn_some, cn_some, e2 (by rw [h]; decide), show ((!sB x) ^^ sB y) = !(sB x ^^ sB y) by cases sB x <;> cases sB y <;> rfl]
    refine opp_of (wrd_rk (s := sB x ^^ sB y) (r := 9218868437227405312) (by omega)) ?_
    rw [← sgZ_not]; exact wrd_rk (by omega)
/-- Turned in sign, zeros too. -/
structure Flp (x y : Nat) : Prop where
  nx : NN x
  ny : NN y
  sz : y % 9223372036854775808 = x % 9223372036854775808
  sg : sB y = !sB x
theorem Flp.opp {x y : Nat} (h : Flp x y) : Opp x y := ⟨h.nx, h.ny, by rw [nn_rank h.nx, nn_rank h.ny, h.sz, h.sg, sgZ_not]⟩
theorem wrd_sz {s : Bool} {r : Nat} (h : r ≤ 9218868437227405312) : wrd s r % 9223372036854775808 = r := by
  unfold wrd; cases s <;> simp <;> omega
theorem flp_wrd {s : Bool} {r : Nat} (h : r ≤ 9218868437227405312) : Flp (wrd s r) (wrd (!s) r) :=
  ⟨(nn_wrd h).1, (nn_wrd h).1, by rw [wrd_sz h, wrd_sz h], by rw [(nn_wrd h).2, (nn_wrd h).2]⟩
theorem Opp.flp {x y : Nat} (h : Opp x y) (h0 : x % 9223372036854775808 ≠ 0) : Flp x y := ⟨h.nx, h.ny, h.sz.1, h.sz.2 h0⟩
theorem flp_inv {c a a' : Nat} (hc : NumB c) (hc0 : c % 9223372036854775808 ≠ 0) (hcs : sB c = false) (ha : Flp a a') (h0 : a % 9223372036854775808 ≠ 0) : Flp (sDiv c a) (sDiv c a') := by
  unfold sDiv
  rcases ha.nx.cases with h | h
  · have hn' : NumB a' := by unfold NumB at *; rw [ha.sz]; exact h
    have h0' : a' % 9223372036854775808 ≠ 0 := by rw [ha.sz]; exact h0
    have hl : (mg (a % 9223372036854775808)).log2 < 53 := (Nat.log2_lt (mg_pos h0)).2 (by have := mg_lt (a % 9223372036854775808); omega)
    have hl' : (mg (a' % 9223372036854775808)).log2 < 53 := (Nat.log2_lt (mg_pos h0')).2 (by have := mg_lt (a' % 9223372036854775808); omega)
    rw [quo_num hc h hc0 h0 rfl rfl rfl rfl (k := 300) (by omega), quo_num hc hn' hc0 h0' rfl rfl rfl rfl (k := 300) (by omega), cn_some, cn_some, hcs, Bool.false_xor, Bool.false_xor, ha.sz, ha.sg]
    exact flp_wrd (nearR_topI _ _)
  · have h' : a' % 9223372036854775808 = 9218868437227405312 := by rw [ha.sz]; exact h
    rw [quo_by_inf hc h, quo_by_inf hc h', cn_some, cn_some, hcs, Bool.false_xor, Bool.false_xor, ha.sg]
    exact flp_wrd (by omega)
theorem flp_two {s s' : Nat} (hs : Flp s s') : Flp (sDiv 4611686018427387904 s) (sDiv 4611686018427387904 s') := by
  by_cases h0 : s % 9223372036854775808 = 0
  · have h0' : s' % 9223372036854775808 = 0 := by rw [hs.sz]; exact h0
    unfold sDiv
    rw [quo_by_zero (by unfold NumB; decide) (by decide) h0, quo_by_zero (by unfold NumB; decide) (by decide) h0', cn_some, cn_some, show sB 4611686018427387904 = false by decide, Bool.false_xor, Bool.false_xor, hs.sg]
    exact flp_wrd (by omega)
  · exact flp_inv (by unfold NumB; decide) (by decide) (by decide) hs h0
/-- The sum of two of one sign, by its parts. -/
theorem add_same {x y : Nat} (hx : NumB x) (hy : NumB y) (hs : sB x = sB y) : floatBits .add .f64 x y = some (wrd (sB x) (if aV x + aV y = 0 then 0 else nearR (aV x + aV y) (-1074))) := by
  have e := add_num hx hy
  rw [e]
  have hv : Go.Proofs.Ytnmjljijgmmakaa.vI x + Go.Proofs.Ytnmjljijgmmakaa.vI y = sgZ (sB x) (aV x + aV y) := by
    rw [vI_sg, vI_sg, ← hs]
    cases sB x <;> simp [sgZ] <;> omega
  rw [hv]
  have hx' : (x / 9223372036854775808 % 2 == 1) = sB x := rfl
  have hy' : (y / 9223372036854775808 % 2 == 1) = sB x := hs.symm
  rw [hx', hy']
  generalize aV x + aV y = T
  unfold addR joinN wrd
  cases sB x
  · by_cases h0 : T = 0
    · simp [sgZ, h0]
    · simp only [sgZ, Bool.false_eq_true, if_false, if_neg h0]
      rw [if_neg (by omega), if_neg (by omega), if_neg (by omega), Int.natAbs_natCast]
  · by_cases h0 : T = 0
    · simp [sgZ, h0]
    · simp only [sgZ, if_true, if_neg h0]
      rw [if_neg (by omega), if_neg (by omega), if_pos (by omega), Int.natAbs_neg, Int.natAbs_natCast]
theorem flp_sum {x y x' y' : Nat} (hx : Flp x x') (hy : Flp y y') (hs : sB x = sB y) : Flp (sAdd x y) (sAdd x' y') := by
  have hs' : sB x' = sB y' := by rw [hx.sg, hy.sg, hs]
  have infx : x % 9223372036854775808 = 9218868437227405312 → x' % 9223372036854775808 = 9218868437227405312 := fun h => by rw [hx.sz]; exact h
  have infy : y % 9223372036854775808 = 9218868437227405312 → y' % 9223372036854775808 = 9218868437227405312 := fun h => by rw [hy.sz]; exact h
  have numx : NumB x → NumB x' := fun h => by unfold NumB at *; rw [hx.sz]; exact h
  have numy : NumB y → NumB y' := fun h => by unfold NumB at *; rw [hy.sz]; exact h
  unfold sAdd
  rcases hx.nx.cases with h | h <;> rcases hy.nx.cases with h' | h'
  · rw [add_same h h' hs, add_same (numx h) (numy h') hs', cn_some, cn_some, hx.sg]
    unfold aV
    rw [hx.sz, hy.sz]
    refine flp_wrd ?_
    split
    · omega
    · exact nearR_topI _ _
  · rw [(add_inf h' h hy.nx.lt).2, (add_inf (infy h') (numx h) hy.ny.lt).2, cn_some, cn_some]; exact hy
  · rw [(add_inf h h' hx.nx.lt).1, (add_inf (infx h) (numy h') hx.ny.lt).1, cn_some, cn_some]; exact hx
  · have same : ∀ {a b : Nat}, NN a → NN b → a % 9223372036854775808 = b % 9223372036854775808 → sB a = sB b → a = b := fun {a b} ha hb e hs => by
      have p := ha.lt
      have q := hb.lt
      have c : (a / 9223372036854775808 % 2 == 1) = (b / 9223372036854775808 % 2 == 1) := hs
      have d : a / 9223372036854775808 % 2 = b / 9223372036854775808 % 2 := by
        rcases Nat.mod_two_eq_zero_or_one (a / 9223372036854775808) with p | p <;> rcases Nat.mod_two_eq_zero_or_one (b / 9223372036854775808) with q | q <;> rw [p, q] at c <;> simp_all
      omega
    rw [add_infs h h' hx.nx.lt hy.nx.lt, if_pos (same hx.nx hy.nx (by rw [h, h']) hs), add_infs (infx h) (infy h') hx.ny.lt hy.ny.lt, if_pos (same hx.ny hy.ny (by rw [infx h, infy h']) hs'), cn_some, cn_some]
    exact hx
theorem opp_slB {a b a' b' : Nat} (ha : Opp a a') (hb : Opp b b') : Opp (slB a b) (slB a' b') := by
  have one : NumB 4607182418800017408 := by unfold NumB; decide
  have z : Opp 0 0 := ⟨⟨by decide, by decide⟩, ⟨by decide, by decide⟩, by decide⟩
  have up : ∀ {x x' : Nat}, Opp x x' → ltB 0 (x' : Nat) = ltB (x : Nat) 0 ∧ ltB (x' : Nat) 0 = ltB 0 (x : Nat) := fun {x x'} hx => by
    have n0 : nanB 0 = false := by decide
    have r0 : rankI 0 = 0 := by decide
    have e := hx.rk
    rw [ltB_iff n0 hx.ny.nan, ltB_iff hx.nx.nan n0, ltB_iff hx.ny.nan n0, ltB_iff n0 hx.nx.nan, r0]
    constructor <;> apply decide_eq_decide.2 <;> omega
  have key : a % 9223372036854775808 ≠ 0 → b % 9223372036854775808 ≠ 0 → sB a = sB b → Opp (sDiv 4611686018427387904 (sAdd (sDiv 4607182418800017408 a) (sDiv 4607182418800017408 b))) (sDiv 4611686018427387904 (sAdd (sDiv 4607182418800017408 a') (sDiv 4607182418800017408 b'))) := fun h1 h2 hs => by
    have f1 := flp_inv one (by decide) (by decide) (ha.flp h1) h1
    have f2 := flp_inv one (by decide) (by decide) (hb.flp h2) h2
    have s1 := (inv_nn one (by decide) (by decide) ha.nx h1).2
    have s2 := (inv_nn one (by decide) (by decide) hb.nx h2).2
    exact (flp_two (flp_sum f1 f2 (by rw [s1, s2, hs]))).opp
  unfold slB
  rw [(up ha).1, (up ha).2, (up hb).1, (up hb).2]
  rw [show ((ltB (a : Nat) 0 && ltB (b : Nat) 0) || (ltB 0 (a : Nat) && ltB 0 (b : Nat))) = ((ltB 0 (a : Nat) && ltB 0 (b : Nat)) || (ltB (a : Nat) 0 && ltB (b : Nat) 0)) from Bool.or_comm _ _]
  by_cases hc : ((ltB 0 (a : Nat) && ltB 0 (b : Nat)) || (ltB (a : Nat) 0 && ltB (b : Nat) 0)) = true
  · rw [if_pos hc, if_pos hc]
    rw [Bool.or_eq_true, Bool.and_eq_true, Bool.and_eq_true] at hc
    rcases hc with ⟨h1, h2⟩ | ⟨h1, h2⟩
    · obtain ⟨x1, x2⟩ := ltB_pos ha.nx.lt h1
      obtain ⟨y1, y2⟩ := ltB_pos hb.nx.lt h2
      exact key x1 y1 (by rw [x2, y2])
    · obtain ⟨x1, x2⟩ := ltB_neg ha.nx.lt h1
      obtain ⟨y1, y2⟩ := ltB_neg hb.nx.lt h2
      exact key x1 y1 (by rw [x2, y2])
  · rw [if_neg hc, if_neg hc]; exact z
end Go.Proofs.Ytnmjljijgmmakaa
namespace Go.Proofs.Ytnmjljijgmmakaa
open Go.RowKit

theorem held_rank {v a b : Int} (hv : nanB v = false) (ha : nanB a = false) (hb : nanB b = false) : nanB (heldB v a b) = false ∧ rankI (heldB v a b) = max (min (rankI a) (rankI b)) (min (max (rankI a) (rankI b)) (rankI v)) := by
  unfold heldB
  rw [ltB_iff hb ha, ltB_iff hv hb, ltB_iff ha hv, ltB_iff ha hb, ltB_iff hv ha, ltB_iff hb hv]
  simp only [decide_eq_true_eq]
  (repeat' split) <;> exact ⟨by assumption, by omega⟩
/-- Lists turned in sign. -/
structure OppL (l l' : List Nat) : Prop where
  len : l'.length = l.length
  el : ∀ i, Opp (l.getD i 0) (l'.getD i 0)
theorem opp_zero : Opp 0 0 := ⟨⟨by decide, by decide⟩, ⟨by decide, by decide⟩, by decide⟩
theorem getD_app10 (l : List Nat) (x i : Nat) : (l ++ [x]).getD i 0 = if i < l.length then l.getD i 0 else if i = l.length then x else 0 := by
  by_cases h : i < l.length
  · rw [if_pos h]; simp [List.getD, List.getElem?_append_left h]
  · rw [if_neg h]
    by_cases e : i = l.length
    · rw [if_pos e, e]; simp [List.getD]
    · rw [if_neg e]; simp [List.getD, List.getElem?_eq_none (show (l ++ [x]).length ≤ i by simp; omega)]
theorem OppL.snoc {l l' : List Nat} (h : OppL l l') {x x' : Nat} (hx : Opp x x') : OppL (l ++ [x]) (l' ++ [x']) :=
  ⟨by simp [h.len], fun i => by
    rw [getD_app10, getD_app10, h.len]
    split
    · exact h.el i
    · split
      · exact hx
      · exact opp_zero⟩
theorem oppL_one {x x' : Nat} (hx : Opp x x') : OppL [x] [x'] := OppL.snoc (l := []) (l' := []) ⟨rfl, fun i => by simp [List.getD]; exact opp_zero⟩ hx
/-- A table and the turned one. -/
structure OppT (kind : Int) (xs : List Int) (ys ys' : List Nat) : Prop where
  ok : OkT kind xs ys
  f : ∀ i < ys.length, U64 (ys.getD i 0 : Nat)
  el : OppL ys ys'
theorem OppT.steep {kind : Int} {xs : List Int} {ys ys' : List Nat} (h : OppT kind xs ys ys') {k : Nat} (hk : k + 1 < xs.length) : Opp (steepB xs ys k) (steepB xs ys' k) := by
  have hs := h.ok.step hk
  have n0 := node_fine (h.ok.node k (by omega))
  have n1 := node_fine (h.ok.node (k + 1) hk)
  obtain ⟨a, b⟩ := fi_numW (m := xs.getD (k + 1) 0 - xs.getD k 0) (by omega) (by omega)
  exact opp_div (opp_sub (h.el.el (k + 1)) (h.el.el k) (node_num h.ok h.f hk).nb (node_num h.ok h.f (by omega)).nb) a.nb b
theorem OppT.slopP {kind : Int} {xs : List Int} {ys ys' : List Nat} (h : OppT kind xs ys ys') : ∀ k, k + 1 < xs.length → OppL (slopP xs ys k) (slopP xs ys' k)
  | 0, hk => oppL_one (h.steep hk)
  | k + 1, hk => by
    rw [slopP_next, slopP_next]
    exact (OppT.slopP h k (by omega)).snoc (opp_slB (h.steep (by omega)) (h.steep hk))
theorem OppT.slopL {kind : Int} {xs : List Int} {ys ys' : List Nat} (h : OppT kind xs ys ys') : OppL (slopL xs ys xs.length) (slopL xs ys' xs.length) := by
  have hlo := h.ok.lo
  unfold Go.Proofs.Ytnmjljijgmmakaa.slopL
  by_cases h1 : xs.length = 1
  · rw [if_pos h1, if_pos h1]; exact oppL_one opp_zero
  · rw [if_neg h1, if_neg h1]
    exact (h.slopP _ (by omega)).snoc (h.steep (by omega))
end Go.Proofs.Ytnmjljijgmmakaa
namespace Go.Proofs.Ytnmjljijgmmakaa
open Go.RowKit

noncomputable def lnW (y : Nat) : Nat := if y < 18446744073709551616 then cn (lnF y) else 0
noncomputable def exW (y : Nat) : Nat := if y < 18446744073709551616 then cn (expF y) else 0
theorem exW_lt (y : Nat) : exW y < 18446744073709551616 := by
  unfold exW
  split
  · rename_i h
    cases hn : nanB (y : Int) with
    | true => rw [(expF_says h).nan hn, cn_none]; omega
    | false =>
      obtain ⟨z, e, hz⟩ := (expF_says h).num hn
      rw [e, cn_some]; omega
  · decide
theorem ln_numW {y : Nat} (h : NumW y) (hp : ltB 0 (y : Nat) = true) : NumW (lnW y) := by
  obtain ⟨h1, h2⟩ := ltB_pos h.lt hp
  have hs := lnF_says h.lt
  obtain ⟨z, e, hz⟩ := hs.fin h.nb h2 h1
  have hl := hs.lt
  unfold lnW
  rw [if_pos h.lt]
  rw [e, cn_some] at hl ⊢
  exact ⟨hl, hz⟩
/-- At inside a logarithmic piece. -/
theorem log_held {xs : List Int} {ys : List Nat} {x : Int} {k D : Nat} {i : Int} (h : OkT 4 xs ys) (hf : ∀ i < ys.length, U64 (ys.getD i 0 : Nat)) (hI : Inside xs x k D i) :
    nanB (logV lnW exW ys k D i : Nat) = false ∧ logV lnW exW ys k D i < 18446744073709551616 ∧ min (rankI (ys.getD k 0 : Nat)) (rankI (ys.getD (k + 1) 0 : Nat)) ≤ rankI (logV lnW exW ys k D i : Nat) ∧ rankI (logV lnW exW ys k D i : Nat) ≤ max (rankI (ys.getD k 0 : Nat)) (rankI (ys.getD (k + 1) 0 : Nat)) := by
  have hl := hI.lt
  have hD := inside_D h hI
  have a := hI.lo
  have b := hI.hi'
  have w0 := node_num h hf (show k < xs.length by omega)
  have w1 := node_num h hf hl
  have p0 := (node_fine (h.node k (by omega))).2.2.2.2 rfl
  have p1 := (node_fine (h.node (k + 1) hl)).2.2.2.2 rfl
  have l0 := ln_numW w0 p0
  have l1 := ln_numW w1 p1
  unfold logV
  rw [lin_plain (K := 1074) rfl l0 l1 (by omega) (by omega) hD.2]
  obtain ⟨g1, g2, _⟩ := overG_rank (linN (D : Int) i (uI 1074 (lnW (ys.getD k 0))) (uI 1074 (lnW (ys.getD (k + 1) 0)))) D
  generalize overG (linN (D : Int) i (uI 1074 (lnW (ys.getD k 0))) (uI 1074 (lnW (ys.getD (k + 1) 0)))) D = o at *
  have o64 : o < 18446744073709551616 := by have := g1.2; omega
  obtain ⟨e, he, hle⟩ := (expF_says o64).num g2
  have ev : exW o = e := by unfold exW; rw [if_pos o64, he]; rfl
  rw [ev]
  have e64 : e < 18446744073709551616 := by omega
  have en := (rk_pos hle).2.2
  obtain ⟨n1, r1⟩ := held_rank (v := (e : Nat)) en w0.nn.nan w1.nn.nan
  rw [← heldN_cast e64 w0.lt w1.lt] at n1 r1
  exact ⟨n1, heldN_lt e64 w0.lt w1.lt, by rw [r1]; omega, by rw [r1]; omega⟩
end Go.Proofs.Ytnmjljijgmmakaa
