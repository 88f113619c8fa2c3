/- The contract of the document's Ln. What factors and forwards of rates do where their arguments rise: no word of the program. Sizes held through steps: what is not greater than two bounds tells nothing greater than the bounds tell. Ln of a number above 0 is a number. The walk of FnLns: Ln of any float. Exp and Ln of the program alone. Exp and Ln of program and document as plain functions over what may be a NaN; the document's steps likewise. The contracts of package rate's small functions: isNumber, isPositive, number. The contracts of package rate's formulas. The contracts of package rate's compound formulas. The document's Factor, Yield and Forward over plain values. The document's Year. The year of a fraction: one rounding of a quotient; it rises. No word of the program. Go's quotient of two whole floats is the year's rounding. No word of the program. The contract of Year: one rounding of a quotient of whole numbers. -/
import Derived.Test.YtcmbfflemoccmaaGreatHbb
import Derived.Test.YtcmbfflemoccmaaGreatHba
import Derived.Test.YtcmbfflemoccmaaGreatHaz
import Derived.Test.YtcmbfflemoccmaaGreatHas
import Derived.Test.YtcmbfflemoccmaaGreatHap
import Derived.Deep.RegionHeld3
import Derived.Test.YtcmbfflemoccmaaGreatHaj
import Derived.Test.YtcmbfflemoccmaaGreatHaw
import Derived.Test.YtcmbfflemoccmaaGreatNFrac
namespace Go.Proofs.YtcmbfflemoccmaaGreat
open Go.RowKit

theorem lnL_fit : FitL lnL := by unfold FitL; decide
theorem horn_fit {cs : List Nat} {x : Nat} (hf : FitL cs) : ∀ k q, hornAt cs x k = some q → q < 18446744073709551616
  | 0, q, h => by
    have : cs.getD (cs.length - 1) 0 = q := Option.some.inj h
    rw [← this]; exact hf.get _
  | k + 1, q, h => by
    have h2 : stepO x (hornAt cs x k) (cs.getD (cs.length - 2 - k) 0) = some q := h
    rw [← stepO_cn] at h2
    exact float_lt (by simp) h2
theorem cn_horn_lt {cs : List Nat} {x : Nat} (hf : FitL cs) : cn (hornO cs x) < 18446744073709551616 := by
  cases h : hornO cs x with
  | none => decide
  | some q =>
    unfold hornO at h
    split at h
    · have : 0 = q := Option.some.inj h
      show q < _
      omega
    · exact horn_fit hf _ q h

theorem lnTerm (k : Nat) (hk : k < 11) : ∃ fz xi : Int, Hid (∀ w, Calls Tryz.prog 72 #[.int .i64 (2 * (k : Int) + 1)] w fun e w' => e = .returned (.int .u64 fz) ∧ Below w.heap.size w w') ∧
    Hid (∀ w, Calls Tryz.prog 68 #[.int .u64 4607182418800017408, .int .u64 fz] w fun e w' => e = .returned (.int .u64 xi) ∧ Below w.heap.size w w') ∧ Hid (Value.int IntKind.u64 xi = uV (lnL.getD k 0)) := by
  refine ⟨(fi (2 * (k : Int) + 1) : Int), (lnL.getD k 0 : Int), fun w => refInt_any _ w (by omega) (by omega), fun w => ?_, rfl⟩
  have := refDiv_any 4607182418800017408 (fi (2 * (k : Int) + 1)) 4607182418800017408 _ w rfl rfl (by unfold U64; omega) (u64_of_nat (aV_fi (a := 2 * (k : Int) + 1) rfl (by omega) (by omega)).2.2.2)
  have e := ln_row k hk
  rw [show ((2 * k + 1 : Nat) : Int) = 2 * (k : Int) + 1 by omega] at e
  rw [e, cn_some] at this; exact this

set_option maxRecDepth 20000 in
set_option maxHeartbeats 3200000 in
theorem refLn_mid (x N a b hi lo : Nat) (u e res : Int) (w : World) (hu : u = (x : Int)) (h : U64 u) (hn : nanB u = false) (hsg : sgB u = false) (hz : (szI u == 0) = false) (hinf : infB u = false) (hxn : NumB x) (ho : OfR x false N e) (h0 : N ≠ 0)
    (q1 : floatBits .sub .f64 (lnM N) 4607182418800017408 = some a) (q2 : floatBits .add .f64 (lnM N) 4607182418800017408 = some b) (q8 : floatBits .mul .f64 (fi (lnK N e)) 4604418534311723008 = some hi) (q9 : floatBits .mul .f64 (fi (lnK N e)) 4461442080421002358 = some lo) (hres : (cn (lnO a b hi lo) : Int) = res) :
    Calls Tryz.prog 62 #[.int .u64 u] w fun e w' => e = .returned (.int .u64 res) ∧ Below w.heap.size w w' := by
  have hlt := ho.lt
  have hlo := ho.lo
  have hhi := ho.hi
  have hlg : N.log2 ≤ 52 := by have := (Nat.log2_lt h0).2 (show N < 2 ^ 53 from hlt); omega
  obtain ⟨o1, o2⟩ := oneB_rng h0 hlt
  obtain ⟨i0, hi0, hz0, hz1, hz2⟩ := info_parts infoU
  have HN := hideS (refNaN_any u · h)
  rw [hn] at HN
  have HNg : Hid (∀ w, Calls Tryz.prog 103 #[.int .u64 u] w fun e w' => e = .returned (.bool false) ∧ w' = w) := fun w => by
    have := refNegative_any u w
    rw [hsg] at this; exact this
  have HSz := hideS (refSize_any u · h)
  have HI := hideS (refInf_any u · h)
  rw [hinf] at HI
  have HOf : Hid (∀ w, Calls Tryz.prog 78 #[.int .u64 u] w fun r w' => ∃ v, r = .returned (.agg #[.bool false, v, .int .i64 e]) ∧ DN w' v N ∧ Below w.heap.size w w') := fun w => by
    refine (of_num x u w hu h hxn).mono ?_
    rintro r w' ⟨neg, v, N', e', rfl, hd, ho', hb⟩
    have hN' : N' ≠ 0 := by
      intro c
      have v1 := ho'.val
      have v2 := ho.val
      rw [c, Nat.zero_mul] at v1
      rw [← v1] at v2
      rcases Nat.mul_eq_zero.1 v2 with c | c
      · exact h0 c
      · have := Nat.two_pow_pos (e + 1074).toNat; omega
    obtain ⟨m1, m2⟩ := ho'.mag hN'
    obtain ⟨n1, n2⟩ := ho.mag h0
    have e1 : N' = N := by rw [m1, n1]
    have e2 : e' = e := by rw [m2, n2]
    have e3 : neg = false := by rw [ho'.sgn hN', ← ho.sgn h0]
    subst e1 e2 e3
    exact ⟨v, rfl, hd, hb⟩
  obtain ⟨Bl, hBl⟩ : ∃ Bl : Int, (bl N : Int) = Bl := ⟨_, rfl⟩
  have hBl2 : Bl = (N.log2 : Int) + 1 := by rw [← hBl, bl_pos h0]; rfl
  obtain ⟨k0, hk0⟩ : ∃ k0 : Int, Bl - 1 + e = k0 := ⟨_, rfl⟩
  have f1 : IntKind.i64.wrap (Bl - 1) = Bl - 1 := by rw [IntKind.wrap_i64]; omega
  have f2 : IntKind.i64.wrap (Bl - 1 + e) = k0 := by rw [IntKind.wrap_i64]; omega
  have hk1 : -1100 ≤ k0 := by omega
  have hk2 : k0 ≤ 1100 := by omega
  obtain ⟨m0, hm0⟩ : ∃ m0 : Int, m0 = (oneB N : Int) := ⟨_, rfl⟩
  have HNr : Hid (∀ v w, DN w v N → Calls Tryz.prog 76 #[.agg #[.bool false, v, .int .i64 (e - k0)]] w fun r w' => r = .returned (.int .u64 m0) ∧ Below w.heap.size w w') := fun v w hd => by
    have := near_agg false v (e - k0) N w hd (by have := nd_two hlt; omega) (by omega) (by omega)
    rw [nearM_eq false _ h0, if_neg (by decide), Int.zero_add, show e - k0 = -(N.log2 : Int) by omega, oneB_near h0 hlt, ← hm0, ← show e - k0 = -(N.log2 : Int) by omega] at this
    exact this
  have um0 : U64 m0 := by rw [hm0]; exact u64_of_nat (by omega)
  obtain ⟨g, hg⟩ : ∃ g, decide (4609047870845172685 < oneB N) = g := ⟨_, rfl⟩
  have HLt : Hid (∀ w, Calls Tryz.prog 32 #[.int .u64 4609047870845172685, .int .u64 m0] w fun r w' => r = .returned (.bool g) ∧ w = w') := fun w => by
    have r1 := rank_small (b := oneB N) (by omega)
    have r2 := rank_small (b := 4609047870845172685) (by decide)
    refine refLt_at 4609047870845172685 m0 g w (by unfold U64; omega) um0 (by decide) (by rw [hm0]; exact r1.2.1) ?_
    rw [hm0, r1.2.2, show rankI (4609047870845172685 : Int) = 4609047870845172685 from r2.2.2, ← hg]
    exact decide_eq_decide.2 (by omega)
  obtain ⟨mi, hmi⟩ : ∃ mi : Int, mi = (lnM N : Int) := ⟨_, rfl⟩
  have umi : U64 mi := by rw [hmi]; exact u64_of_nat (by have := (lnM_num h0 hlt).2; omega)
  have HHf : Hid (g = true → ∀ w, Calls Tryz.prog 75 #[.int .u64 m0, .int .u64 4602678819172646912] w fun r w' => r = .returned (.int .u64 mi) ∧ Below w.heap.size w w') := fun c w => by
    have hc : 4609047870845172685 < oneB N := by rw [c] at hg; exact of_decide_eq_true hg
    exact mul_is (z := mi) hm0 (v := 4602678819172646912) rfl um0 (by unfold U64; omega) (half_mul (by omega) (by omega)) (by rw [hmi]; unfold lnM; rw [if_pos hc]) w
  have hmg : g = false → m0 = mi := fun c => by
    have hc : ¬ 4609047870845172685 < oneB N := by rw [c] at hg; exact of_decide_eq_false hg
    rw [hm0, hmi]; unfold lnM; rw [if_neg hc]
  have hkk : (if g then k0 + 1 else k0) = lnK N e := by
    unfold lnK
    rw [← hg]
    by_cases c : 4609047870845172685 < oneB N
    · rw [if_pos c, decide_eq_true c, if_pos rfl]; omega
    · rw [if_neg c, decide_eq_false c, if_neg (by decide)]; omega
  obtain ⟨ai, hai⟩ : ∃ ai : Int, ai = (a : Int) := ⟨_, rfl⟩
  obtain ⟨bi, hbi⟩ : ∃ bi : Int, bi = (b : Int) := ⟨_, rfl⟩
  obtain ⟨hii, hhi⟩ : ∃ hii : Int, hii = (hi : Int) := ⟨_, rfl⟩
  obtain ⟨loi, hloi⟩ : ∃ loi : Int, loi = (lo : Int) := ⟨_, rfl⟩
  obtain ⟨fz, hfz⟩ : ∃ fz : Int, fz = (fi (lnK N e) : Int) := ⟨_, rfl⟩
  have ufz : U64 fz := by rw [hfz]; exact u64_of_nat (aV_fi (a := lnK N e) rfl (by rw [← hkk]; split <;> omega) (by rw [← hkk]; split <;> omega)).2.2.2
  obtain ⟨so, hso⟩ : ∃ so, floatBits .quo .f64 a b = so := ⟨_, rfl⟩
  obtain ⟨si, hsi⟩ : ∃ si : Int, si = (cn so : Int) := ⟨_, rfl⟩
  have usi : U64 si := by rw [hsi, ← hso]; exact u64_of_nat (cn_lt (by simp) _ _)
  obtain ⟨zi, hzi⟩ : ∃ zi : Int, zi = (cn (opO .mul so so) : Int) := ⟨_, rfl⟩
  have uzi : U64 zi := by rw [hzi]; exact u64_of_nat (opO_lt (by simp) _ _)
  obtain ⟨ti, hti⟩ : ∃ ti : Int, ti = (cn (opO .mul (some 4611686018427387904) so) : Int) := ⟨_, rfl⟩
  have uti : U64 ti := by rw [hti]; exact u64_of_nat (opO_lt (by simp) _ _)
  obtain ⟨vi, hvi⟩ : ∃ vi : Int, vi = (cn ((opO .mul so so).bind fun z => hornO lnL z) : Int) := ⟨_, rfl⟩
  have hvi2 : vi = (cn (hornO lnL (cn (opO .mul so so))) : Int) := by rw [hvi, horn_ag (ag_cn _) (by rw [lnL_len]; decide)]
  have uvi : U64 vi := by rw [hvi2]; exact u64_of_nat (cn_horn_lt lnL_fit)
  obtain ⟨pi, hpi⟩ : ∃ pi : Int, pi = (cn (opO .mul (opO .mul (some 4611686018427387904) so) ((opO .mul so so).bind fun z => hornO lnL z)) : Int) := ⟨_, rfl⟩
  have upi : U64 pi := by rw [hpi]; exact u64_of_nat (opO_lt (by simp) _ _)
  obtain ⟨ci, hci⟩ : ∃ ci : Int, ci = (cn (opO .add (opO .mul (opO .mul (some 4611686018427387904) so) ((opO .mul so so).bind fun z => hornO lnL z)) (some lo)) : Int) := ⟨_, rfl⟩
  have uci : U64 ci := by rw [hci]; exact u64_of_nat (opO_lt (by simp) _ _)
  have hres2 : res = (cn (opO .add (some hi) (opO .add (opO .mul (opO .mul (some 4611686018427387904) so) ((opO .mul so so).bind fun z => hornO lnL z)) (some lo))) : Int) := by rw [← hres, ← hso]; rfl
  have HS := hideS fun w => sub_is (z := ai) hmi (v := 4607182418800017408) rfl umi (by unfold U64; omega) q1 hai w
  have HA := hideS fun w => add_is (z := bi) hmi (v := 4607182418800017408) rfl umi (by unfold U64; omega) q2 hbi w
  have uai : U64 ai := u64_op (by simp) q1 hai
  have ubi : U64 bi := u64_op (by simp) q2 hbi
  have HD : Hid (∀ w, Calls Tryz.prog 68 #[.int .u64 ai, .int .u64 bi] w fun r w' => r = .returned (.int .u64 si) ∧ Below w.heap.size w w') := fun w => by
    have := refDiv_any a b ai bi w hai hbi uai ubi
    rw [hso, ← hsi] at this; exact this
  have HZ := hideS fun w => mul_cn hsi hsi usi usi hzi w
  have HT := hideS fun w => mul_cn (o := some 4611686018427387904) (u := 4611686018427387904) rfl hsi (by unfold U64; omega) usi hti w
  have HH : Hid (∀ B v w, OwnF w B 51 uV v lnL → Calls Tryz.prog 101 #[v, .int .u64 zi] w fun e w' => e = .returned (.int .u64 vi) ∧ Below w.heap.size w w') := fun B v w hO => by
    have := refHorner_any B 11 (cn (opO .mul so so)) v zi lnL w hO lnL_fit hzi uzi lnL_len (by decide)
    rw [← hvi2] at this; exact this
  have HP := hideS fun w => mul_cn hti hvi uti uvi hpi w
  have HIn : Hid (∀ w, Calls Tryz.prog 72 #[.int .i64 (if g then k0 + 1 else k0)] w fun e w' => e = .returned (.int .u64 fz) ∧ Below w.heap.size w w') := fun w => by
    rw [hkk]
    exact refInt_at (lnK N e) fz w (by rw [← hkk]; split <;> omega) (by rw [← hkk]; split <;> omega) hfz.symm
  have HM1 := hideS fun w => mul_is (z := hii) hfz (v := 4604418534311723008) rfl ufz (by unfold U64; omega) q8 hhi w
  have HM2 := hideS fun w => mul_is (z := loi) hfz (v := 4461442080421002358) rfl ufz (by unfold U64; omega) q9 hloi w
  have HC := hideS fun w => add_cn (o' := some lo) hpi (v := loi) hloi upi (u64_op (by simp) q9 hloi) hci w
  have HR := hideS fun w => add_cn (o := some hi) (u := hii) hhi hci (u64_op (by simp) q8 hhi) uci hres2 w
  have HBl := hideS hBl
  have HNl := hideS hlt
  clear h hn hsg hinf hu hxn ho h0 q1 q2 q8 q9 hres hlg hlt o1 o2 hBl hBl2 hm0 um0 hmi umi hkk hai hbi hhi hloi hfz ufz hso hsi usi hzi uzi hti uti hvi hvi2 uvi hpi upi hci uci hres2 uai ubi hg hk0
  go_enter Tryz.func62, Tryz.ntmps62
  go_wp2_with fail
  refine (turned (HN.out _)).mono ?_
  rintro e w' ⟨rfl, rfl⟩
  go_wp2_with fail
  refine (turned (HNg.out _)).mono ?_
  rintro e w' ⟨rfl, rfl⟩
  go_wp2_with fail
  refine (turned (HSz.out _)).mono ?_
  rintro e w' ⟨rfl, rfl⟩
  go_wp2_with fail
  refine (turned (HI.out _)).mono ?_
  rintro e w' ⟨rfl, rfl⟩
  go_wp2_with fail
  refine (HOf.out _).mono ?_
  rintro r w1 ⟨v1, rfl, hd1, hb1⟩
  obtain ⟨p, l, c, rfl⟩ := hd1.shape
  have HBx := hideS (boxN_below w1 false (.slice p l c) e)
  have HDb := hideS (hd1.below HBx.out)
  have B1 := hideS (hb1.trans (HBx.out.mono hb1.size))
  have HBs := hideS hb1.size
  have HD1 := hideS hd1
  have HQ : Hid (∀ n, DN ((boxN w1 false (.slice p l c) e).drewN n) (.slice p l c) N) := fun n => HDb.out.drewN n
  clear hb1 hd1 HOf HN HNg HSz HI
  go_wp2_with fail
  go_quiet ((go_at_call 80; exact Calls.quiet_of_same (len_at (.slice p l c) N Bl _ (HQ.out _) (by have := nd_two HNl.out; omega) HBl)))
  go_wp2_with fail
  obtain ⟨w2, hw2⟩ : ∃ w2, w2 = ((boxN w1 false (.slice p l c) e).drewN nq).setCell ⟨w1.heap.size, 2, none⟩ (Value.int IntKind.i64 (e - k0)) := ⟨_, rfl⟩
  rw [← hw2]
  have B12 : Hid (Below w1.heap.size w1 w2) := by rw [hw2]; exact (below_drewN HBx.out _).setCell (Nat.le_refl _) _
  have B2 : Hid (Below w.heap.size w w2) := by rw [hw2]; exact (below_drewN B1.out _).setCell (show w.heap.size ≤ w1.heap.size from HBs.out) _
  have HNw := hideS (HNr.out _ w2 (HD1.out.below B12.out))
  clear hw2 B12 B1 HD1 HQ HDb HBx HNr HBl HNl f1 f2
  refine HNw.out.mono ?_
  rintro r w3 ⟨rfl, hb⟩
  have B3 := hideS (B2.out.trans (hb.mono B2.out.size))
  clear hb B2 HNw
  go_wp2_with fail
  refine (HLt.out _).mono ?_
  rintro r w' ⟨rfl, rfl⟩
  clear HLt
  cases g
  case' true =>
    simp only [if_true] at HIn
    have HHg := hideS (HHf.out rfl)
    clear HHf
    have HHf : True := trivial
    go_wp2_with fail
    refine (HHg.out _).mono ?_
    rintro r w4 ⟨rfl, hb⟩
    have B3 := hideS (B3.out.trans (hb.mono B3.out.size))
    clear hb HHg
  case' false =>
    obtain rfl := hmg rfl
    simp only [Bool.false_eq_true, if_false] at HIn
  all_goals
    clear HHf hmg
    go_wp2_with fail
    refine (HS.out _).mono ?_
    rintro r w5 ⟨rfl, hb⟩
    have B5 := hideS (B3.out.trans (hb.mono B3.out.size))
    clear hb
    go_wp2_with fail
    refine (HA.out _).mono ?_
    rintro r w6 ⟨rfl, hb⟩
    have B6 := hideS (B5.out.trans (hb.mono B5.out.size))
    clear hb
    go_wp2_with fail
    refine (HD.out _).mono ?_
    rintro r w7 ⟨rfl, hb⟩
    have B7 := hideS (B6.out.trans (hb.mono B6.out.size))
    clear hb
    go_wp2_with fail
    refine (HZ.out _).mono ?_
    rintro r w8 ⟨rfl, hb⟩
    have B8 := hideS (B7.out.trans (hb.mono B7.out.size))
    clear hb HS HA HD HZ B3 B5 B6 B7
    go_wp2_with fail
    go_loopw [8, 9] (fun v i wr => ∃ k : Nat, k ≤ 11 ∧ i = .int .i64 k ∧ Hid (wr.ownsRow w8.heap.size 51 1 v k (rowOf uV lnL k)) ∧ Hid (Below w.heap.size w wr) ∧ Hid (w8.heap.size ≤ wr.heap.size)) (fun _ i _ => 11 - (intOf i).toNat)
    case atStart => exact ⟨0, Nat.zero_le _, rfl, World.ownsRow_nil _ _ _ _, B8, Nat.le_refl _⟩
    case round =>
      obtain ⟨k, hk, rfl, hown, HB, HZ8⟩ := hrel
      by_cases hlt : k < 11
      · have HTk := hideS (take_next (f := uV) (show k < lnL.length by rw [lnL_len]; exact hlt))
        obtain ⟨tz, xi, T1, T2, T3⟩ := lnTerm k hlt
        have hsz := HB.out.size
        have hsz8 := HZ8.out
        have hB8 := B8.out.size
        go_wp2_with fail
        refine (T1.out _).mono ?_
        rintro r w9 ⟨rfl, hb1⟩
        have HB1 := hideS hb1
        clear hb1
        go_wp2_with fail
        refine (T2.out _).mono ?_
        rintro r w10 ⟨rfl, hb2⟩
        have HB2 := hideS (HB1.out.trans (hb2.mono HB1.out.size))
        have HO2 := hideS (own_below hown.out HB2.out)
        have HBw := hideS (HB.out.trans (HB2.out.mono hsz))
        have hsz2 := HBw.out.size
        have hsz9 : w8.heap.size ≤ w10.heap.size := Nat.le_trans hsz8 HB2.out.size
        clear hb2 HB1 hown
        go_wp2_with (at_builtin; refine wpList_append_own _ rfl _ _ 30 rfl w8.heap.size 51 i0 (.int .u64 0) 1 8 Tryz.underlying30 hi0 hz0 hz1 hz2 rfl (by decide) _ _ _ rfl (HO2.out.alloc _) ⟨w10.heap.size, 0, none⟩ 1 1 [.int .u64 xi] rfl rfl ?c1 ?c2 ?c3 ?c4 ?c5 ?_)
        case c1 =>
          intro j u hj
          match j, hj with
          | 0, hj => simp at hj; subst hj; simp [Addr.add]
        case c2 => intro u hu; simp at hu; subst hu; rfl
        case c3 => unfold maxLen; omega
        case c4 => omega
        case c5 => simp; omega
        · intro v' w11 hown' hgrow _
          have hlow := HO2.out.lt
          have hb3 : Below w.heap.size w w11 := (HBw.out.alloc hsz2 _).grown hgrow (by simp; omega) (fun j hj => Nat.le_trans hB8 (hlow j hj).1)
          have hb4 : Below w8.heap.size w10 w11 := ((Below.refl w8.heap.size w10).alloc hsz9 _).grown hgrow (by simp; omega) (fun j hj => (hlow j hj).1)
          rw [T3.out, ← HTk.out] at hown'
          have HO := hideS hown'
          have HB3 := hideS hb3
          have HZ3 := hideS (Nat.le_trans hsz9 hb4.size)
          clear hown' hgrow hlow hb3 hb4
          go_wp2
          go_roundw
          case rel => exact ⟨k + 1, by omega, by simp, HO, HB3, HZ3⟩
          case measure => simp [intOf]; omega
      · obtain rfl : k = 11 := by omega
        have h1 := hown.out
        rw [show (11 : Nat) = lnL.length from lnL_len.symm, rowOf_all] at h1
        have HO := hideS (OwnF.mk h1 : OwnF wr w8.heap.size 51 uV _ lnL)
        clear h1 hown
        go_wp2_with fail
        refine (HT.out _).mono ?_
        rintro r w12 ⟨rfl, hb⟩
        have C1 := hideS (HB.out.trans (hb.mono HB.out.size))
        have HHw := hideS (HH.out _ _ w12 (HO.out.below hb))
        clear hb HO
        go_wp2_with fail
        refine HHw.out.mono ?_
        rintro r w13 ⟨rfl, hb⟩
        have C2 := hideS (C1.out.trans (hb.mono C1.out.size))
        clear hb HHw
        go_wp2_with fail
        refine (HP.out _).mono ?_
        rintro r w14 ⟨rfl, hb⟩
        have C3 := hideS (C2.out.trans (hb.mono C2.out.size))
        clear hb
        go_wp2_with fail
        refine (HIn.out _).mono ?_
        rintro r w15 ⟨rfl, hb⟩
        have C4 := hideS (C3.out.trans (hb.mono C3.out.size))
        clear hb
        go_wp2_with fail
        refine (HM1.out _).mono ?_
        rintro r w16 ⟨rfl, hb⟩
        have C5 := hideS (C4.out.trans (hb.mono C4.out.size))
        clear hb
        go_wp2_with fail
        refine (HM2.out _).mono ?_
        rintro r w17 ⟨rfl, hb⟩
        have C6 := hideS (C5.out.trans (hb.mono C5.out.size))
        clear hb
        go_wp2_with fail
        refine (HC.out _).mono ?_
        rintro r w18 ⟨rfl, hb⟩
        have C7 := hideS (C6.out.trans (hb.mono C6.out.size))
        clear hb
        go_wp2_with fail
        refine (HR.out _).mono ?_
        rintro r w19 ⟨rfl, hb⟩
        have C8 := hideS (C7.out.trans (hb.mono C7.out.size))
        clear hb
        go_wp2_with fail
        go_ret
        exact ⟨rfl, C8.out⟩
end Go.Proofs.YtcmbfflemoccmaaGreat
namespace Go.Proofs.YtcmbfflemoccmaaGreat

theorem rank_num {r : Nat} (h : NumB r) (h2 : r < 18446744073709551616) : -9218868437227405312 < rankI r ∧ rankI r < 9218868437227405312 := by
  rw [← sgn_rank h2 (num_nan h)]
  unfold NumB at h
  unfold sgn
  generalize (r / 9223372036854775808 % 2 == 1) = p at *
  cases p <;> simp only [Bool.false_eq_true, if_true, if_false] <;> omega
theorem sB_pos {b : Nat} (h : 0 < vI b) : sB b = false ∧ vI b = (aV b : Int) ∧ b % 9223372036854775808 ≠ 0 := by
  have hz : b % 9223372036854775808 ≠ 0 := by
    intro e
    rw [vI_sg] at h
    have : aV b = 0 := by unfold aV; rw [e]; exact V_zero
    rw [this] at h
    unfold sgZ at h
    split at h <;> omega
  rw [vI_sg] at h ⊢
  unfold sgZ at h ⊢
  cases e : sB b
  · exact ⟨rfl, by simp only [Bool.false_eq_true, if_false], hz⟩
  · rw [e] at h; simp only [if_true] at h; omega
theorem step_fit {op : BinOp} {x y f : Nat} {k : Int} (h : ∃ r, floatBits op .f64 x y = some r ∧ RkW r k) (hf : floatBits op .f64 x y = some f) : RkW f k := by
  obtain ⟨r, e, hr⟩ := h
  obtain rfl := Option.some.inj (e.symm.trans hf)
  exact hr
end Go.Proofs.YtcmbfflemoccmaaGreat
namespace Go.Proofs.YtcmbfflemoccmaaGreat
open Go.RowKit

structure Bd (x c : Nat) : Prop where
  num : NumB x
  lt : x < 18446744073709551616
  lo : -(vI c) ≤ vI x
  hi : vI x ≤ vI c
theorem flip_neg {c : Nat} (hc : NumB c) (h : c < 18446744073709551616) : NumB (flipN c) ∧ flipN c < 18446744073709551616 ∧ rankI (flipN c : Int) = -rankI (c : Int) ∧ vI (flipN c) = -(vI c) := by
  obtain ⟨h1, h2, h3⟩ := flip_parts h
  have hn : NumB (flipN c) := by unfold NumB at hc ⊢; rw [h2]; exact hc
  refine ⟨hn, h1, ?_, ?_⟩
  · rw [← sgn_rank h1 (num_nan hn), ← sgn_rank h (num_nan hc), h2, h3]
    unfold sgn
    cases (c / 9223372036854775808 % 2 == 1) <;> simp
  · unfold vI
    rw [h2, h3]
    cases (c / 9223372036854775808 % 2 == 1) <;> simp
theorem bd_of {r c : Nat} {k : Int} (hr : RkW r k) (hc : NumB c) (h : c < 18446744073709551616) (h1 : -rankI (c : Int) ≤ k) (h2 : k ≤ rankI (c : Int)) : Bd r c := by
  obtain ⟨f1, f2, f3, f4⟩ := flip_neg hc h
  have hk := rank_num hc h
  have hn : NumB r := num_rank hr (by omega) (by omega)
  refine ⟨hn, hr.2.1, ?_, ?_⟩
  · rw [← f4]
    refine (rank_le_iff f1 hn f2 hr.2.1).1 ?_
    rw [f3, hr.1]; exact h1
  · refine (rank_le_iff hn hc hr.2.1 h).1 ?_
    rw [hr.1]; exact h2
theorem add_bd {x y a b c : Nat} (hx : Bd x a) (hy : Bd y b) (ha : NumB a) (hb : NumB b) (hc : NumB c) (e : floatBits .add .f64 a b = some c) : ∃ r, floatBits .add .f64 x y = some r ∧ Bd r c := by
  obtain ⟨r, e1, k1⟩ := add_rank hx.num hy.num
  have k2 := step_fit (add_rank ha hb) e
  have := hx.lo; have := hx.hi; have := hy.lo; have := hy.hi
  refine ⟨r, e1, bd_of k1 hc k2.2.1 ?_ ?_⟩
  · rw [k2.1, ← rnd_neg]; exact rnd_mono _ (by omega)
  · rw [k2.1]; exact rnd_mono _ (by omega)
theorem sub_bd {x y a b c : Nat} (hx : Bd x a) (hy : Bd y b) (ha : NumB a) (hb : NumB b) (hc : NumB c) (e : floatBits .add .f64 a b = some c) : ∃ r, floatBits .sub .f64 x y = some r ∧ Bd r c := by
  obtain ⟨r, e1, k1⟩ := sub_rank hx.num hy.num
  have k2 := step_fit (add_rank ha hb) e
  have := hx.lo; have := hx.hi; have := hy.lo; have := hy.hi
  refine ⟨r, e1, bd_of k1 hc k2.2.1 ?_ ?_⟩
  · rw [k2.1, ← rnd_neg]; exact rnd_mono _ (by omega)
  · rw [k2.1]; exact rnd_mono _ (by omega)
theorem mul_bd {x y a b c : Nat} (hx : Bd x a) (hy : Bd y b) (ha : NumB a) (hb : NumB b) (hc : NumB c) (e : floatBits .mul .f64 a b = some c) : ∃ r, floatBits .mul .f64 x y = some r ∧ Bd r c := by
  obtain ⟨r, e1, k1⟩ := mul_rank hx.num hy.num
  have k2 := step_fit (mul_rank ha hb) e
  obtain ⟨l, u⟩ := abs_mul_le hx.lo hx.hi hy.lo hy.hi
  refine ⟨r, e1, bd_of k1 hc k2.2.1 ?_ ?_⟩
  · rw [k2.1, ← rnd_neg]; exact rnd_mono _ l
  · rw [k2.1]; exact rnd_mono _ u
theorem vI_abs (x : Nat) : vI x = (aV x : Int) ∨ vI x = -(aV x : Int) := by
  rw [vI_sg]; unfold sgZ
  cases sB x
  · exact Or.inl rfl
  · exact Or.inr rfl
theorem quo_bd {x y a d c : Nat} (hx : Bd x a) (hy : NumB y) (hd : vI d ≤ vI y) (d0 : 0 < vI d) (ha : NumB a) (hdn : NumB d) (hc : NumB c) (e : floatBits .quo .f64 a d = some c) : ∃ r, floatBits .quo .f64 x y = some r ∧ Bd r c := by
  obtain ⟨s1, e1, z1⟩ := sB_pos (b := y) (by omega)
  obtain ⟨s2, e2, z2⟩ := sB_pos d0
  obtain ⟨r, e3, k3⟩ := quo_rank hx.num hy z1
  have k4 := step_fit (quo_rank ha hdn z2) e
  have a0 : 0 ≤ vI a := by have := hx.lo; have := hx.hi; omega
  have hax : aV x ≤ aV a := by
    have h1 := hx.lo
    have h2 := hx.hi
    rcases vI_abs x with h | h <;> rcases vI_abs a with h' | h' <;> omega
  have hq : qR (aV x) (aV y) ≤ qR (aV a) (aV d) := Nat.le_trans (qR_up hax) (qR_down (by omega) (by omega))
  have hrc : rankI (c : Int) = (qR (aV a) (aV d) : Int) := by
    rw [k4.1, s2]
    by_cases hz : aV a = 0
    · have : qR (aV a) (aV d) = 0 := by unfold qR; rw [if_pos hz]
      rw [this]; unfold sgZ; split <;> simp
    · have : sB a = false := by
        have h1 := vI_sg a
        cases hs : sB a with
        | false => rfl
        | true => rw [hs] at h1; unfold sgZ at h1; simp at h1; omega
      rw [this]; rfl
  refine ⟨r, e3, bd_of k3 hc k4.2.1 ?_ ?_⟩
  · rw [hrc]; unfold sgZ; split <;> omega
  · rw [hrc]; unfold sgZ; split <;> omega
theorem bd_bits {x c : Nat} (h : x ≤ c) (hc : c < 9218868437227405312) : Bd x c := by
  have hx : NumB x := by unfold NumB; omega
  have hn : NumB c := by unfold NumB; omega
  have r1 := (rk_pos (r := x) (by omega)).1
  have r2 := (rk_pos (r := c) (by omega)).1
  have r0 : rankI ((0 : Nat) : Int) = 0 := by decide
  have v0 : vI 0 = 0 := by decide +kernel
  have n0 : NumB 0 := by unfold NumB; decide
  have h1 := (rank_le_iff hx hn (by omega) (by omega)).1 (by rw [r1, r2]; omega)
  have h2 := (rank_le_iff n0 hx (by omega) (by omega)).1 (by rw [r0, r1]; omega)
  have h3 := (rank_le_iff n0 hn (by omega) (by omega)).1 (by rw [r0, r2]; omega)
  rw [v0] at h2 h3
  exact ⟨hx, by omega, by omega, h1⟩
end Go.Proofs.YtcmbfflemoccmaaGreat
namespace Go.Proofs.YtcmbfflemoccmaaGreat
open Go.RowKit

theorem horn_bd {cs : List Nat} {x z : Nat} {B M : Nat → Nat} {n : Nat} (hx : Bd x z) (hz : NumB z) (h0 : Bd (cs.getD (cs.length - 1) 0) (B 0)) (hB : ∀ i, i ≤ n → NumB (B i)) (hM : ∀ i, i < n → NumB (M i)) (hc : ∀ i, i < n → Bd (cs.getD (cs.length - 2 - i) 0) 4607182418800017408)
    (e1 : ∀ i, i < n → floatBits .mul .f64 (B i) z = some (M i)) (e2 : ∀ i, i < n → floatBits .add .f64 (M i) 4607182418800017408 = some (B (i + 1))) : ∀ i, i ≤ n → ∃ r, hornAt cs x i = some r ∧ Bd r (B i) := by
  intro i
  induction i with
  | zero => exact fun _ => ⟨_, rfl, h0⟩
  | succ i ih =>
    intro hi
    obtain ⟨r, hr, hb⟩ := ih (by omega)
    obtain ⟨m, hm, hbm⟩ := mul_bd hb hx (hB i (by omega)) hz (hM i (by omega)) (e1 i (by omega))
    obtain ⟨s, hs, hbs⟩ := add_bd hbm (hc i (by omega)) (hM i (by omega)) (by unfold NumB; decide) (hB (i + 1) hi) (e2 i (by omega))
    refine ⟨s, ?_, hbs⟩
    show stepO x (hornAt cs x i) _ = some s
    rw [hr]
    show ((some r).bind fun p => floatBits .mul .f64 p x).bind _ = some s
    rw [show ((some r).bind fun p => floatBits .mul .f64 p x) = floatBits .mul .f64 r x from rfl, hm]
    exact hs
def nineN : Nat → Nat
  | 0 => 1
  | n + 1 => 9 * nineN n + 1
def nineB (i : Nat) : Nat := fi (nineN i : Int)
def nineM (i : Nat) : Nat := fi ((9 * nineN i : Nat) : Int)
theorem nine_fit : ∀ i, i < 11 → (nineB i) % 9223372036854775808 < 9218868437227405312 ∧ (nineM i) % 9223372036854775808 < 9218868437227405312 ∧ floatBits .mul .f64 (nineB i) 4621256167635550208 = some (nineM i) ∧ floatBits .add .f64 (nineM i) 4607182418800017408 = some (nineB (i + 1)) := by decide +kernel
theorem ln_coef : ∀ i, i < 11 → lnL.getD i 0 ≤ 4607182418800017408 := by decide +kernel
theorem horn_ln {z : Nat} (hz : Bd z 4621256167635550208) : ∃ h, hornO lnL z = some h ∧ Bd h (nineB 10) := by
  have hb := horn_bd (cs := lnL) (x := z) (z := 4621256167635550208) (B := nineB) (M := nineM) (n := 10) hz (by unfold NumB; decide) (bd_bits (ln_coef _ (by rw [lnL_len]; decide)) (by decide)) (fun i hi => (nine_fit i (by omega)).1) (fun i hi => (nine_fit i (by omega)).2.1) (fun i hi => bd_bits (ln_coef _ (by rw [lnL_len]; omega)) (by decide)) (fun i hi => (nine_fit i (by omega)).2.2.1) (fun i hi => (nine_fit i (by omega)).2.2.2) 10 (Nat.le_refl _)
  obtain ⟨r, hr, hb⟩ := hb
  refine ⟨r, ?_, hb⟩
  unfold hornO
  rw [if_neg (by rw [lnL_len]; decide), lnL_len]; exact hr
theorem lnM_rng {N : Nat} (h0 : N ≠ 0) (h : N < 9007199254740992) : lnM N ≤ 4611686018427387904 := by
  obtain ⟨a, b⟩ := oneB_rng h0 h
  unfold lnM
  split <;> omega
theorem fi_bd {k : Int} (h1 : -2000 ≤ k) (h2 : k ≤ 2000) : Bd (fi k) (fi 2000) := by
  obtain ⟨K, hK⟩ : ∃ K, K = 1074 := ⟨_, rfl⟩
  obtain ⟨v1, n1, _, l1⟩ := vI_fi (m := k) hK (by omega) (by omega)
  obtain ⟨v2, _, _, _⟩ := vI_fi (m := 2000) hK (by decide) (by decide)
  have p : (0 : Int) ≤ ((2 ^ K : Nat) : Int) := Int.natCast_nonneg _
  refine ⟨n1, l1, ?_, ?_⟩
  · rw [v1, v2, ← Int.neg_mul]; exact Int.mul_le_mul_of_nonneg_right (by omega) p
  · rw [v1, v2]; exact Int.mul_le_mul_of_nonneg_right h2 p
theorem dec_num (x : Nat) (h : decide (x % 9223372036854775808 < 9218868437227405312) = true) : NumB x := by unfold NumB; exact of_decide_eq_true h
theorem ln_number {N a b hi lo : Nat} {k : Int} (h0 : N ≠ 0) (h : N < 9007199254740992) (hk : -2000 ≤ k ∧ k ≤ 2000) (q1 : floatBits .sub .f64 (lnM N) 4607182418800017408 = some a) (q2 : floatBits .add .f64 (lnM N) 4607182418800017408 = some b) (q8 : floatBits .mul .f64 (fi k) 4604418534311723008 = some hi) (q9 : floatBits .mul .f64 (fi k) 4461442080421002358 = some lo) : ∃ y, lnO a b hi lo = some y ∧ NumB y := by
  have hm : Bd (lnM N) 4611686018427387904 := bd_bits (lnM_rng h0 h) (by decide)
  have ho : Bd 4607182418800017408 4607182418800017408 := bd_bits (Nat.le_refl _) (by decide)
  have n1 : NumB 4607182418800017408 := dec_num _ (by decide)
  have n2 : NumB 4611686018427387904 := dec_num _ (by decide)
  have n3 : NumB 4613937818241073152 := dec_num _ (by decide)
  obtain ⟨a', ea, ba⟩ := sub_bd (c := 4613937818241073152) hm ho n2 n1 n3 (by decide +kernel)
  obtain rfl := Option.some.inj (ea.symm.trans q1)
  obtain ⟨b', eb, bb⟩ := add_bd (c := 4613937818241073152) hm ho n2 n1 n3 (by decide +kernel)
  obtain rfl := Option.some.inj (eb.symm.trans q2)
  have v0 : vI 0 = 0 := by decide +kernel
  have n0 : NumB 0 := by unfold NumB; decide
  have m0 : 0 ≤ vI (lnM N) := by
    have r1 := (rk_pos (r := lnM N) (by have := lnM_rng h0 h; omega)).1
    have := (rank_le_iff n0 hm.num (by decide) hm.lt).1 (by rw [r1, show rankI ((0 : Nat) : Int) = 0 by decide]; omega)
    rw [v0] at this; exact this
  have hone : floatBits .add .f64 0 4607182418800017408 = some 4607182418800017408 := by decide +kernel
  have b1 : vI 4607182418800017408 ≤ vI b' := by
    obtain ⟨r, e, kr⟩ := add_rank n0 n1
    rw [hone] at e
    obtain rfl := Option.some.inj e
    have kb := step_fit (add_rank hm.num n1) q2
    refine (rank_le_iff n1 bb.num (by decide) bb.lt).1 ?_
    rw [kr.1, kb.1]
    exact rnd_mono _ (by rw [v0]; omega)
  have one0 : 0 < vI 4607182418800017408 := by
    have := (rank_lt_iff n0 n1 (by decide) (by decide)).1 (by decide)
    rw [v0] at this; exact this
  obtain ⟨s, es, bs⟩ := quo_bd (c := 4613937818241073152) ba bb.num b1 one0 n3 n1 n3 (by decide +kernel)
  obtain ⟨s2, es2, bs2⟩ := mul_bd (c := 4618441417868443648) (bd_bits (x := 4611686018427387904) (Nat.le_refl _) (by decide)) bs n2 n3 (dec_num _ (by decide)) (by decide +kernel)
  obtain ⟨z, ez, bz⟩ := mul_bd (c := 4621256167635550208) bs bs n3 n3 (dec_num _ (by decide)) (by decide +kernel)
  obtain ⟨hh, eh, bh⟩ := horn_ln bz
  obtain ⟨v, ev, bv⟩ := mul_bd (c := fi ((6 * nineN 10 : Nat) : Int)) bs2 bh (dec_num _ (by decide)) (nine_fit 10 (by decide)).1 (dec_num _ (by decide +kernel)) (by decide +kernel)
  have bk := fi_bd hk.1 hk.2
  have nk : NumB (fi 2000) := dec_num _ (by decide +kernel)
  obtain ⟨hi', ehi, bhi⟩ := mul_bd (c := fi 2000) bk (bd_bits (x := 4604418534311723008) (c := 4607182418800017408) (by decide) (by decide)) nk n1 nk (by decide +kernel)
  obtain rfl := Option.some.inj (ehi.symm.trans q8)
  obtain ⟨lo', elo, blo⟩ := mul_bd (c := fi 2000) bk (bd_bits (x := 4461442080421002358) (c := 4607182418800017408) (by decide) (by decide)) nk n1 nk (by decide +kernel)
  obtain rfl := Option.some.inj (elo.symm.trans q9)
  obtain ⟨c, ec, bc⟩ := add_bd (c := fi ((6 * nineN 10 + 2000 : Nat) : Int)) bv blo (dec_num _ (by decide +kernel)) nk (dec_num _ (by decide +kernel)) (by decide +kernel)
  obtain ⟨y, ey, by'⟩ := add_bd (c := fi ((6 * nineN 10 + 4000 : Nat) : Int)) bhi bc nk (dec_num _ (by decide +kernel)) (dec_num _ (by decide +kernel)) (by decide +kernel)
  refine ⟨y, ?_, by'.num⟩
  unfold lnO
  rw [es, show opO .mul (some 4611686018427387904) (some s) = _ from es2, show opO .mul (some s) (some s) = _ from ez, show ((some z).bind fun z => hornO lnL z) = _ from eh, show opO .mul (some s2) (some hh) = _ from ev, show opO .add (some v) (some lo') = _ from ec]
  exact ey
end Go.Proofs.YtcmbfflemoccmaaGreat
namespace Go.Proofs.YtcmbfflemoccmaaGreat
open Go.RowKit

set_option maxHeartbeats 800000 in
theorem refLn_nan (u : Int) (w : World) (h : U64 u) (hc : nanB u = true ∨ (nanB u = false ∧ sgB u = true ∧ (szI u == 0) = false)) :
    Calls Tryz.prog 62 #[.int .u64 u] w fun e w' => e = .returned (.int .u64 9221120237041090561) ∧ w' = w := by
  rcases hc with h1 | ⟨h1, h2, h3⟩
  · have HN := hideS (refNaN_any u · h)
    rw [h1] at HN
    clear h h1
    go_enter Tryz.func62, Tryz.ntmps62
    go_wp2_with fail
    refine (HN.out _).mono ?_
    rintro e w' ⟨rfl, rfl⟩
    go_wp2_with fail
    go_ret
    exact ⟨rfl, rfl⟩
  · have HN := hideS (refNaN_any u · h)
    have HNg : Hid (∀ w, Calls Tryz.prog 103 #[.int .u64 u] w fun e w' => e = .returned (.bool true) ∧ w' = w) := fun w => by
      have := refNegative_any u w
      rw [h2] at this; exact this
    have HSz := hideS (refSize_any u · h)
    have h4 : (szI u != 0) = true := by rw [bne, h3]; rfl
    rw [h1] at HN
    clear h h1 h2
    go_enter Tryz.func62, Tryz.ntmps62
    go_wp2_with fail
    refine (HN.out _).mono ?_
    rintro e w' ⟨rfl, rfl⟩
    go_wp2_with fail
    refine (HNg.out _).mono ?_
    rintro e w' ⟨rfl, rfl⟩
    go_wp2_with fail
    refine (HSz.out _).mono ?_
    rintro e w' ⟨rfl, rfl⟩
    go_wp2_with fail
    go_ret
    exact ⟨rfl, rfl⟩

set_option maxHeartbeats 800000 in
theorem refLn_zero (u : Int) (w : World) (h : U64 u) (h1 : nanB u = false) (h3 : (szI u == 0) = true) :
    Calls Tryz.prog 62 #[.int .u64 u] w fun e w' => e = .returned (.int .u64 18442240474082181120) ∧ w' = w := by
  have HN := hideS (refNaN_any u · h)
  have HSz := hideS (refSize_any u · h)
  have HF := hideS fun w => refFlip_at 9218868437227405312 9218868437227405312 18442240474082181120 w rfl (by unfold U64; omega) rfl
  have h4 : (szI u != 0) = false := by rw [bne, h3]; rfl
  rw [h1] at HN
  cases h2 : sgB u
  all_goals
    have HNg : Hid (∀ w, Calls Tryz.prog 103 #[.int .u64 u] w fun e w' => e = .returned (.bool (sgB u)) ∧ w' = w) := fun w => refNegative_any u w
    rw [h2] at HNg
    clear h1 h2
    go_enter Tryz.func62, Tryz.ntmps62
    go_wp2_with fail
    refine (HN.out _).mono ?_
    rintro e w' ⟨rfl, rfl⟩
    go_wp2_with fail
    refine (HNg.out _).mono ?_
    rintro e w' ⟨rfl, rfl⟩
    go_wp2_with (first | (go_at_call 47; refine (HSz.out _).mono ?_; rintro e w' ⟨rfl, rfl⟩) | (go_at_call 74; refine (HF.out _).mono ?_; rintro e w' ⟨rfl, rfl⟩))
    go_ret
    exact ⟨rfl, rfl⟩

set_option maxHeartbeats 800000 in
theorem refLn_inf (u : Int) (w : World) (h : U64 u) (h1 : nanB u = false) (h2 : sgB u = false) (h3 : (szI u == 0) = false) (h4 : infB u = true) :
    Calls Tryz.prog 62 #[.int .u64 u] w fun e w' => e = .returned (.int .u64 u) ∧ w' = w := by
  have HN := hideS (refNaN_any u · h)
  have HSz := hideS (refSize_any u · h)
  have HI := hideS (refInf_any u · h)
  have HNg : Hid (∀ w, Calls Tryz.prog 103 #[.int .u64 u] w fun e w' => e = .returned (.bool false) ∧ w' = w) := fun w => by
    have := refNegative_any u w
    rw [h2] at this; exact this
  rw [h1] at HN
  rw [h4] at HI
  clear h h1 h2 h4
  go_enter Tryz.func62, Tryz.ntmps62
  go_wp2_with fail
  refine (HN.out _).mono ?_
  rintro e w' ⟨rfl, rfl⟩
  go_wp2_with fail
  refine (HNg.out _).mono ?_
  rintro e w' ⟨rfl, rfl⟩
  go_wp2_with (first | (go_at_call 47; refine (HSz.out _).mono ?_; rintro e w' ⟨rfl, rfl⟩) | (go_at_call 79; refine (HI.out _).mono ?_; rintro e w' ⟨rfl, rfl⟩))
  go_ret
  exact ⟨rfl, rfl⟩

structure BothL (x : Nat) (u z : Int) : Prop where
  prog : ∀ w, Calls Tryz.prog 128 #[.float .f64 x] w fun e w' => ∃ y, e = .returned (.float .f64 y) ∧ (sameB (y : Int) z = true ∧ U64 (y : Int)) ∧ Below w.heap.size w w'
  doc : ∀ w, Calls Tryz.prog 62 #[.int .u64 u] w fun e w' => e = .returned (.int .u64 z) ∧ Below w.heap.size w w'
  uz : U64 z
theorem bothL_of {x : Nat} {u z : Int} {y : Nat} (hp : ∀ w, Calls Tryz.prog 128 #[.float .f64 x] w fun e w' => e = .returned (.float .f64 y) ∧ w' = w) (hd : ∀ w, Calls Tryz.prog 62 #[.int .u64 u] w fun e w' => e = .returned (.int .u64 z) ∧ w' = w) (hz : z = (y : Int)) (hy : U64 (y : Int)) : BothL x u z :=
  ⟨fun w => (hp w).mono fun _ _ ⟨a, b⟩ => ⟨y, a, ⟨by rw [hz]; exact sameB_refl _, hy⟩, by rw [b]; exact Below.refl _ _⟩, fun w => (hd w).mono fun _ _ ⟨a, b⟩ => ⟨a, by rw [b]; exact Below.refl _ _⟩, by rw [hz]; exact hy⟩
structure BothO (x : Nat) (u : Int) (o : Option Nat) : Prop where
  prog : ∀ w, Calls Tryz.prog 128 #[.float .f64 x] w fun e w' => ∃ y, e = .returned (.float .f64 y) ∧ Ag o y ∧ Below w.heap.size w w'
  doc : ∀ w, Calls Tryz.prog 62 #[.int .u64 u] w fun e w' => e = .returned (.int .u64 (cn o)) ∧ Below w.heap.size w w'
  lt : cn o < 18446744073709551616
  nan : nanB (x : Int) = true → o = none
  fin : NumB x → sB x = false → x % 9223372036854775808 ≠ 0 → ∃ y, o = some y ∧ NumB y
theorem bothO_of {x : Nat} {u z : Int} {y : Nat} (hp : ∀ w, Calls Tryz.prog 128 #[.float .f64 x] w fun e w' => e = .returned (.float .f64 y) ∧ w' = w) (hd : ∀ w, Calls Tryz.prog 62 #[.int .u64 u] w fun e w' => e = .returned (.int .u64 z) ∧ w' = w) (hz : z = (y : Int)) (hy : U64 (y : Int)) (hn : nanB (x : Int) = false) (hc : ¬ (NumB x ∧ x % 9223372036854775808 ≠ 0)) : BothO x u (some y) :=
  ⟨fun w => (hp w).mono fun _ _ ⟨a, b⟩ => ⟨y, a, rfl, by rw [b]; exact Below.refl _ _⟩, fun w => (hd w).mono fun _ _ ⟨a, b⟩ => ⟨by rw [a, hz]; rfl, by rw [b]; exact Below.refl _ _⟩, by have := hy.2; rw [cn_some]; omega, fun a => (by rw [hn] at a; cases a), fun a _ b => absurd ⟨a, b⟩ hc⟩
theorem bothO_nan {x : Nat} {u : Int} {y : Nat} (hp : ∀ w, Calls Tryz.prog 128 #[.float .f64 x] w fun e w' => e = .returned (.float .f64 y) ∧ w' = w) (hd : ∀ w, Calls Tryz.prog 62 #[.int .u64 u] w fun e w' => e = .returned (.int .u64 9221120237041090561) ∧ w' = w) (hn : nanB (y : Int) = true := by first | assumption | decide) (hy : y < 18446744073709551616 := by first | assumption | decide) (hc : NumB x → sB x = true) : BothO x u none :=
  ⟨fun w => (hp w).mono fun _ _ ⟨a, b⟩ => ⟨y, a, ⟨hn, hy⟩, by rw [b]; exact Below.refl _ _⟩, fun w => (hd w).mono fun _ _ ⟨a, b⟩ => ⟨by rw [a]; rfl, by rw [b]; exact Below.refl _ _⟩, by rw [cn_none]; omega, fun _ => rfl, fun a b _ => by rw [hc a] at b; cases b⟩

theorem ln_bothO (x : Nat) (u : Int) (hu : u = (x : Int)) (h : U64 x) : ∃ o, BothO x u o := by
  have hx64 : x < 18446744073709551616 := by have := h.2; omega
  have h' : U64 u := by rw [hu]; exact h
  have un : U64 ((9221120237041090561 : Nat) : Int) := by unfold U64; omega
  cases hn : nanB (x : Int) with
  | true => exact ⟨none, bothO_nan (fun w => ln_nan x w h hn) (fun w => refLn_nan u w h' (Or.inl (by rw [hu]; exact hn))) (hc := fun a => by rw [num_nan a] at hn; cases hn)⟩
  | false =>
    have hn' : nanB u = false := by rw [hu]; exact hn
    have cx := bits_class hu
    have z0 : U64 ((0 : Nat) : Int) := by unfold U64; omega
    have o1 := lt_rank h z0 hn (by decide)
    have o2 := eq_rank h z0 hn (by decide)
    have hr0 : rankI ((0 : Nat) : Int) = 0 := by decide
    rw [hr0] at o1 o2
    have hrk := sgn_rank hx64 hn
    have hsu : sgB u = sB x := by rw [hu]; exact sgB_nat hx64
    have hl := nan_false hn
    by_cases hz : x % 9223372036854775808 = 0
    · have hzu : (szI u == 0) = true := by rw [cx, hz]; rfl
      have hrz : rankI (x : Int) = 0 := by rw [← hrk, hz]; unfold sgn; split <;> rfl
      refine ⟨some 18442240474082181120, bothO_of (fun w => ln_zero x w h hn ?_ ?_) (fun w => refLn_zero u w h' hn' hzu) rfl (by unfold U64; omega) hn (fun a => a.2 hz)⟩
      · rw [o1, hrz]; rfl
      · rw [o2, hrz]; rfl
    · have hzu : (szI u == 0) = false := by rw [cx]; simp; omega
      cases hs : sB x with
      | true =>
        have hneg : rankI (x : Int) < 0 := by
          rw [← hrk]
          have hs' : (x / 9223372036854775808 % 2 == 1) = true := hs
          rw [hs']; unfold sgn; simp; omega
        refine ⟨none, bothO_nan (fun w => ln_neg x w h hn ?_) (fun w => refLn_nan u w h' (Or.inr ⟨hn', by rw [hsu]; exact hs, hzu⟩)) (hc := fun _ => hs)⟩
        rw [o1]; exact decide_eq_true hneg
      | false =>
        have hs' : (x / 9223372036854775808 % 2 == 1) = false := hs
        have hpos : rankI (x : Int) = ((x % 9223372036854775808 : Nat) : Int) := by rw [← hrk, hs']; rfl
        have a1 : (FloatKind.f64.format.order x 0 == some .lt) = false := by rw [o1, hpos, decide_eq_false_iff_not]; omega
        have a2 : (FloatKind.f64.format.order x 0 == some .eq) = false := by rw [o2, hpos, decide_eq_false_iff_not]; omega
        have um : U64 ((9218868437227405311 : Nat) : Int) := by unfold U64; omega
        have o3 := gt_rank h um hn (by decide)
        have hrm : rankI ((9218868437227405311 : Nat) : Int) = 9218868437227405311 := by decide
        rw [hrm, hpos] at o3
        by_cases hinf : x % 9223372036854775808 = 9218868437227405312
        · refine ⟨some x, ?_⟩
          refine bothO_of (y := x) (fun w => ln_inf x w h hn a1 a2 ?_) (fun w => refLn_inf u w h' hn' (by rw [hsu]; exact hs) hzu (by unfold infB; rw [cx, hinf]; rfl)) hu h hn (fun a => by have := a.1; unfold NumB at this; omega)
          rw [o3]; exact decide_eq_true (by omega)
        · have hxn : NumB x := by unfold NumB; omega
          have a3 : (FloatKind.f64.format.order x 9218868437227405311 == some .gt) = false := by rw [o3, decide_eq_false_iff_not]; omega
          have hio : infB u = false := by unfold infB; rw [cx]; simp; omega
          -- its real
          have hN0 : mg (x % 9223372036854775808) ≠ 0 := mg_pos hz
          have hpl : pl (x % 9223372036854775808) ≤ 2045 := by unfold pl; omega
          obtain ⟨N, hN⟩ : ∃ N, N = mg (x % 9223372036854775808) := ⟨_, rfl⟩
          obtain ⟨e, he⟩ : ∃ e : Int, e = -1074 + (pl (x % 9223372036854775808) : Int) := ⟨_, rfl⟩
          have ho : OfR x false N e := ⟨by rw [hN]; exact mg_lt _, by omega, by omega, by rw [hN, he]; unfold aV V; congr 2; omega, fun _ => hs.symm, fun _ => ⟨hN, he⟩⟩
          rw [← hN] at hN0
          have hlt := ho.lt
          have hlo := ho.lo
          have hhi := ho.hi
          have hlg : N.log2 ≤ 52 := by have := (Nat.log2_lt hN0).2 (show N < 2 ^ 53 from hlt); omega
          have hk : -2000 ≤ lnK N e ∧ lnK N e ≤ 2000 := by unfold lnK; split <;> omega
          have hm := (lnM_num hN0 hlt).1
          have n1 : NumB 4607182418800017408 := by unfold NumB; decide
          have fk := (aV_fi (a := lnK N e) rfl (by omega) (by omega)).2.2.1
          have q1 := sub_num hm n1
          have q2 := add_num hm n1
          have q8 := mul_num fk (show NumB 4604418534311723008 by unfold NumB; decide)
          have q9 := mul_num fk (show NumB 4461442080421002358 by unfold NumB; decide)
          refine ⟨_, ⟨fun w => (ln_ag x (lnM N) _ _ _ _ _ (lnK N e) w h hn a1 a2 a3 (fun w => about1_any x N e h hxn ho hN0 w) q1 q2 rfl q8 q9).mono ?_, fun w => refLn_mid x N _ _ _ _ u e _ w hu h' hn' (by rw [hsu]; exact hs) hzu hio hxn ho hN0 q1 q2 q8 q9 rfl, opO_lt (by simp) _ _, fun a => (by rw [hn] at a; cases a), fun _ _ _ => ln_number hN0 hlt hk q1 q2 q8 q9⟩⟩
          rintro r w' ⟨y, rfl, hag, hb⟩
          exact ⟨y, rfl, hag, hb⟩

end Go.Proofs.YtcmbfflemoccmaaGreat
namespace Go.Proofs.YtcmbfflemoccmaaGreat
open Go.RowKit

end Go.Proofs.YtcmbfflemoccmaaGreat
namespace Go.Proofs.YtcmbfflemoccmaaGreat
open Go.RowKit

theorem same_nan {a b : Int} (h : sameB a b = true) (hb : nanB b = true) : nanB a = true := by
  unfold sameB at h
  rw [Bool.or_eq_true] at h
  rcases h with h | h
  · rw [of_decide_eq_true h]; exact hb
  · exact (Bool.and_eq_true_iff.1 h).1

structure ExpR (x : Nat) (o : Option Nat) : Prop where
  prog : ∀ w, Calls Tryz.prog 127 #[.float .f64 x] w fun e w' => ∃ y, e = .returned (.float .f64 y) ∧ (Ag o y ∧ y < 18446744073709551616) ∧ Below w.heap.size w w'
  doc : Stp1 61 (x : Int) (cn o)
  nan : nanB (x : Int) = true → o = none
  num : nanB (x : Int) = false → ∃ y, o = some y ∧ y ≤ 9218868437227405312
theorem exp_ex (x : Nat) : ∃ o, x < 18446744073709551616 → ExpR x o := by
  by_cases h : x < 18446744073709551616
  · obtain ⟨y, z, hb, h1, h2⟩ := exp_bothP x (x : Int) rfl (u64_of_nat h)
    have hy : y < 18446744073709551616 := by have := hb.uy.2; omega
    cases hn : nanB (x : Int) with
    | true =>
      have hz := h1 hn
      have hny : nanB (y : Int) = true := same_nan hb.same (by rw [hz]; decide)
      exact ⟨none, fun _ => ⟨fun w => (hb.prog w).mono fun _ _ ⟨a, b⟩ => ⟨y, a, ⟨⟨hny, hy⟩, hy⟩, b⟩, fun w => (hb.doc w).mono fun _ _ ⟨a, b⟩ => ⟨by rw [a, hz]; rfl, b⟩, fun _ => rfl, fun a => by rw [hn] at a; cases a⟩⟩
    | false =>
      obtain ⟨h3, h4⟩ := h2 hn
      exact ⟨some y, fun _ => ⟨fun w => (hb.prog w).mono fun _ _ ⟨a, b⟩ => ⟨y, a, ⟨rfl, hy⟩, b⟩, fun w => (hb.doc w).mono fun _ _ ⟨a, b⟩ => ⟨by rw [a, h4]; rfl, b⟩, fun a => (by rw [hn] at a; cases a), fun _ => ⟨y, rfl, h3⟩⟩⟩
  · exact ⟨none, fun a => absurd a h⟩
noncomputable def expF (x : Nat) : Option Nat := Classical.choose (exp_ex x)
theorem expF_says {x : Nat} (h : x < 18446744073709551616) : ExpR x (expF x) := Classical.choose_spec (exp_ex x) h
structure LnR (x : Nat) (o : Option Nat) : Prop where
  prog : ∀ w, Calls Tryz.prog 128 #[.float .f64 x] w fun e w' => ∃ y, e = .returned (.float .f64 y) ∧ (Ag o y ∧ y < 18446744073709551616) ∧ Below w.heap.size w w'
  doc : Stp1 62 (x : Int) (cn o)
  lt : cn o < 18446744073709551616
  nan : nanB (x : Int) = true → o = none
  fin : NumB x → sB x = false → x % 9223372036854775808 ≠ 0 → ∃ y, o = some y ∧ NumB y
theorem ln_ex (x : Nat) : ∃ o, x < 18446744073709551616 → LnR x o := by
  by_cases h : x < 18446744073709551616
  · obtain ⟨o, hb⟩ := ln_bothO x (x : Int) rfl (u64_of_nat h)
    refine ⟨o, fun _ => ⟨fun w => (hb.prog w).mono ?_, hb.doc, hb.lt, hb.nan, hb.fin⟩⟩
    rintro _ w' ⟨y, rfl, hag, hbb⟩
    exact ⟨y, rfl, ⟨hag, ag_lt hag fun q hq => by have := hb.lt; rw [hq, cn_some] at this; exact this⟩, hbb⟩
  · exact ⟨none, fun a => absurd a h⟩
noncomputable def lnF (x : Nat) : Option Nat := Classical.choose (ln_ex x)
theorem lnF_says {x : Nat} (h : x < 18446744073709551616) : LnR x (lnF x) := Classical.choose_spec (ln_ex x) h
def AgU (o : Option Nat) (x : Nat) : Prop := Ag o x ∧ x < 18446744073709551616
theorem agU_some {x : Nat} (h : x < 18446744073709551616) : AgU (some x) x := ⟨rfl, h⟩
theorem AgU.u {o : Option Nat} {x : Nat} (h : AgU o x) : U64 (x : Int) := u64_of_nat h.2
theorem op_prog (op : BinOp) (ho : op = .add ∨ op = .sub ∨ op = .mul ∨ op = .quo) (t : TypeId) {o o' : Option Nat} {x y : Nat} (h : AgU o x) (h' : AgU o' y) (w : World) : ∃ r, (∃ q, (binOp op t (.float .f64 x) (.float .f64 y)).run Tryz.prog w = .ok (.float .f64 r) (w.drewN q)) ∧ AgU (opO op o o') r := by
  obtain ⟨r, hr, g⟩ := run_op_ag op ho t x y w
  rw [← opO_ag h.1 h'.1] at g
  refine ⟨r, hr, g, ?_⟩
  cases e : opO op o o' with
  | none => rw [e] at g; exact (ag_none g).2
  | some q => rw [e] at g; rw [ag_some g]; rw [opO_ag h.1 h'.1] at e; exact float_lt ho e
end Go.Proofs.YtcmbfflemoccmaaGreat
namespace Go.Proofs.YtcmbfflemoccmaaGreat
open Go.RowKit

set_option maxHeartbeats 400000 in
theorem isNum_any (x : Nat) (w : World) (h : U64 x) :
    Calls Tryz.prog 88 #[.float .f64 x] w fun e w' => e = .returned (.bool (finB (x : Int))) ∧ w' = w := by
  have H1 := hideS fun w => isNaN_math x w h
  cases hn : nanB (x : Int) with
  | true =>
    rw [hn] at H1
    rw [fin_nan hn]
    clear h hn
    go_enter Tryz.func88, Tryz.ntmps88
    go_wp2_with fail
    refine (H1.out _).mono ?_
    rintro e w' ⟨rfl, rfl⟩
    go_wp2_with fail
    go_ret
    exact ⟨rfl, rfl⟩
  | false =>
    have H2 := hideS fun w => isInf_both x _ w h (inf_gt hn)
    rw [hn] at H1
    clear h hn
    generalize finB (x : Int) = b at *
    cases b
    all_goals
      go_enter Tryz.func88, Tryz.ntmps88
      go_wp2_with fail
      refine (H1.out _).mono ?_
      rintro e w' ⟨rfl, rfl⟩
      go_wp2_with fail
      refine (H2.out _).mono ?_
      rintro e w' ⟨rfl, rfl⟩
      go_wp2_with fail
      go_ret
      exact ⟨rfl, rfl⟩

theorem zero_rank : rankI ((0 : Nat) : Int) = 0 := by decide
theorem gt_lt {x : Nat} (h : U64 (x : Int)) : (FloatKind.f64.format.order x 0 == some .gt) = ltB 0 (x : Int) := by
  cases hn : nanB (x : Int) with
  | true =>
    rw [order_nan_left hn]
    unfold ltB
    rw [hn]; rfl
  | false =>
    rw [gt_rank h (by unfold U64; omega) hn (by decide), zero_rank]
    unfold ltB
    rw [hn, show nanB 0 = false by decide, show rankI 0 = 0 by decide]; rfl

set_option maxHeartbeats 400000 in
theorem isPos_any (x : Nat) (w : World) (h : U64 x) :
    Calls Tryz.prog 53 #[.float .f64 x] w fun e w' => e = .returned (.bool (posB (x : Int))) ∧ w' = w := by
  have H1 := hideS fun w => isNum_any x w h
  have hg := gt_lt h
  unfold posB
  clear h
  generalize finB (x : Int) = b at *
  generalize ltB 0 (x : Int) = c at *
  cases b <;> cases c
  all_goals
    go_enter Tryz.func53, Tryz.ntmps53
    go_wp2_with fail
    refine (H1.out _).mono ?_
    rintro e w' ⟨rfl, rfl⟩
    go_wp2_with fail
    go_ret
    exact ⟨rfl, rfl⟩

def enyN (x : Nat) : Nat := if finB (x : Int) = true then x else 0
set_option maxHeartbeats 400000 in
theorem number_any (x : Nat) (w : World) (h : U64 x) :
    Calls Tryz.prog 54 #[.float .f64 x] w fun e w' => e = .returned (.tuple #[.float .f64 (enyN x), .int .i64 (enyE (x : Int))]) ∧ w' = w := by
  have H1 := hideS fun w => isNum_any x w h
  unfold enyN enyE
  clear h
  generalize finB (x : Int) = b at *
  cases b
  all_goals
    go_enter Tryz.func54, Tryz.ntmps54
    go_wp2_with fail
    refine (H1.out _).mono ?_
    rintro e w' ⟨rfl, rfl⟩
    go_wp2_with fail
    go_ret2
    exact ⟨rfl, rfl⟩
theorem eny_ag {o : Option Nat} {x y : Nat} (h : Ag o x) (h' : Ag o y) : enyN x = enyN y ∧ enyE (x : Int) = enyE (y : Int) := by
  cases o with
  | none =>
    unfold enyN enyE
    rw [fin_nan (ag_none h).1, fin_nan (ag_none h').1]
    exact ⟨rfl, rfl⟩
  | some r => rw [ag_some h, ag_some h']; exact ⟨rfl, rfl⟩

def endN (x : Nat) : Nat := if finB (x : Int) = true ∧ szI (x : Int) ≠ 0 then x else 0
end Go.Proofs.YtcmbfflemoccmaaGreat
namespace Go.Proofs.YtcmbfflemoccmaaGreat
open Go.RowKit

abbrev one64 : Nat := 4607182418800017408
theorem below_dN {w w' : World} (h : Below w.heap.size w w') (q : Nat) : Below w.heap.size w (w'.drewN q) := ⟨h.os, h.tape, h.output, h.size, h.block⟩

end Go.Proofs.YtcmbfflemoccmaaGreat
namespace Go.Proofs.YtcmbfflemoccmaaGreat
open Go.RowKit

end Go.Proofs.YtcmbfflemoccmaaGreat
namespace Go.Proofs.YtcmbfflemoccmaaGreat
open Go.RowKit

theorem agU_one : AgU (some one64) 4607182418800017408 := agU_some (by decide)
def fwdO (a b c : Nat) : Option Nat := opO .quo (opO .sub (opO .quo (some a) (some b)) (some one64)) (some c)

end Go.Proofs.YtcmbfflemoccmaaGreat
namespace Go.Proofs.YtcmbfflemoccmaaGreat
open Go.RowKit

def yearK (X Y : Nat) : Nat := (70 - (bl X : Int) + (bl Y : Int)).toNat
def Two (b : Nat) (P Q : Int) (w : World) : Prop := w.cell? ⟨b, 0, none⟩ = some (.int .i64 P) ∧ w.cell? ⟨b, 1, none⟩ = some (.int .i64 Q)
end Go.Proofs.YtcmbfflemoccmaaGreat
namespace Go.Proofs.YtcmbfflemoccmaaGreat
open Go.RowKit

def yearR (X Y : Nat) : Nat := nearR (quoS X Y 200) (-1 - ((200 : Nat) : Int))
theorem yearK_le {X Y : Nat} (hX : X ≠ 0) (hY : Y ≠ 0) (hY' : Y ≤ 1000000000) : yearK X Y ≤ 200 ∧ 54 + Y.log2 ≤ X.log2 + yearK X Y := by
  have h1 := bl_pos hX
  have h2 := bl_pos hY
  have h3 : Y.log2 < 30 := (Nat.log2_lt hY).2 (by omega)
  unfold yearK
  omega
end Go.Proofs.YtcmbfflemoccmaaGreat
namespace Go.Proofs.YtcmbfflemoccmaaGreat
open Go.RowKit

theorem quoS_upN (X Y a k : Nat) : quoS (X * 2 ^ a) Y k = quoS X Y (a + k) := by
  unfold quoS
  rw [Nat.mul_assoc, ← Nat.pow_add]
theorem quoS_scaleN (X Y k c : Nat) (hc : 0 < c) : quoS (X * c) (Y * c) k = quoS X Y k := by
  unfold quoS
  rw [show X * c * 2 ^ k = X * 2 ^ k * c by rw [Nat.mul_assoc, Nat.mul_comm c, ← Nat.mul_assoc], Nat.mul_div_mul_right _ _ hc, Nat.mul_mod_mul_right]
  have : (X * 2 ^ k % Y * c = 0) ↔ (X * 2 ^ k % Y = 0) := by
    rw [Nat.mul_eq_zero]; omega
  simp only [this]
theorem quoS_same {A B X Y p q m t : Nat} (hA : A * 2 ^ p = X * 2 ^ t) (hB : B * 2 ^ q = Y * 2 ^ t) : quoS A B (p + m) = quoS X Y (q + m) := by
  rw [← quoS_upN A B p m, hA, ← quoS_scaleN _ B m (2 ^ q) (Nat.two_pow_pos _), hB, show X * 2 ^ t * 2 ^ q = X * 2 ^ q * 2 ^ t by rw [Nat.mul_assoc, Nat.mul_comm (2 ^ t), ← Nat.mul_assoc], quoS_scaleN _ _ _ _ (Nat.two_pow_pos _), quoS_upN]
theorem quo_whole {x y X Y : Nat} (hx : NumB x) (hy : NumB y) (hX : aV x = X * 2 ^ 1074) (hY : aV y = Y * 2 ^ 1074) (hX0 : X ≠ 0) (hY0 : Y ≠ 0) (hY' : Y ≤ 1000000000) :
    floatBits .quo .f64 x y = some (wrd (sB x ^^ sB y) (yearR X Y)) := by
  have px := Nat.two_pow_pos 1074
  have h0 : x % 9223372036854775808 ≠ 0 := by
    intro h
    unfold aV at hX
    rw [h, V_zero] at hX
    have := Nat.mul_pos (show 0 < X by omega) px
    omega
  have h1 : y % 9223372036854775808 ≠ 0 := by
    intro h
    unfold aV at hY
    rw [h, V_zero] at hY
    have := Nat.mul_pos (show 0 < Y by omega) px
    omega
  unfold aV V at hX hY
  have mx := mg_pos h0
  have my := mg_pos h1
  have lx := mg_lt (x % 9223372036854775808)
  have ly := mg_lt (y % 9223372036854775808)
  have hl : (mg (y % 9223372036854775808)).log2 < 53 := (Nat.log2_lt my).2 (by omega)
  rw [quo_num hx hy h0 h1 rfl rfl rfl rfl (k := pl (x % 9223372036854775808) + 300) (by omega), quoS_same hX hY]
  obtain ⟨k1, k2⟩ := yearK_le hX0 hY0 hY'
  have hb := quo_bits hX0 hY0 k2
  have e1 := near_quo (X := X) (Y := Y) (p := -1) (by omega) (show yearK X Y ≤ pl (y % 9223372036854775808) + 300 by omega) hb.2
  have e2 := near_quo (X := X) (Y := Y) (p := -1) (by omega) k1 hb.2
  unfold yearR
  rw [← e2, e1]
  congr 3
  omega
end Go.Proofs.YtcmbfflemoccmaaGreat
namespace Go.Proofs.YtcmbfflemoccmaaGreat
open Go.RowKit

theorem floatOf_fi7 (m : Int) : floatOfInt .f64 m = fi m := by
  show Ieee.double.nearest (decide (m < 0)) m.natAbs 0 = _
  unfold fi joinN
  by_cases h0 : m = 0
  · subst h0; rfl
  · rw [if_neg h0, nearest_eq _ (by omega)]
    by_cases hn : m < 0
    · simp only [hn, decide_true, if_true]; rw [word_true]
    · simp only [hn, decide_false, if_false]; rw [word_false]
theorem aV_fi7 {m : Int} {K : Nat} (hK : K = 1074) (h1 : -1000000000 ≤ m) (h2 : m ≤ 1000000000) : NumB (fi m) ∧ aV (fi m) = m.natAbs * 2 ^ K ∧ sB (fi m) = decide (m < 0) ∧ fi m < 18446744073709551616 := by
  obtain ⟨a, b, c, d⟩ := vI_fi (m := m) hK (by omega) (by omega)
  refine ⟨b, ?_, c, d⟩
  unfold aV
  have hn : (vI (fi m)).natAbs = V (fi m % 9223372036854775808) := by
    unfold vI
    split <;> simp
  rw [← hn, a, Int.natAbs_mul, Int.natAbs_natCast]
def yW (P Q : Int) : Nat := if P = 0 then 0 else wrd (decide (P < 0)) (yearR P.natAbs Q.natAbs)
theorem quo_year {P Q : Int} (h1 : -1000000000 ≤ P) (h2 : P ≤ 1000000000) (h3 : 0 < Q) (h4 : Q ≤ 1000000000) : floatBits .quo .f64 (fi P) (fi Q) = some (yW P Q) := by
  obtain ⟨K, hK⟩ : ∃ K : Nat, K = 1074 := ⟨_, rfl⟩
  obtain ⟨a1, a2, a3, _⟩ := aV_fi7 (m := P) hK h1 h2
  obtain ⟨b1, b2, b3, _⟩ := aV_fi7 (m := Q) hK (by omega) h4
  have hs : decide (Q < 0) = false := decide_eq_false (by omega)
  have hp := Nat.two_pow_pos K
  unfold yW
  by_cases h0 : P = 0
  · rw [if_pos h0]
    subst h0
    have hq : fi Q % 9223372036854775808 ≠ 0 := fun e => by
      unfold aV at b2
      rw [e, V_zero] at b2
      have := Nat.mul_pos (show 0 < Q.natAbs by omega) hp
      omega
    rw [show fi 0 = 0 from fi_zero, quo_zero (by rfl) b1 hq, b3, hs]
    rfl
  · rw [if_neg h0]
    subst hK
    rw [quo_whole a1 b1 a2 b2 (by omega) (by omega) (by omega), a3, b3, hs]
    simp
set_option maxHeartbeats 800000 in
theorem yearP_ok (kind W a b P Q : Int) (v : Value) (w : World) (h1 : -1000000000 ≤ P) (h2 : P ≤ 1000000000) (h3 : 0 < Q) (h4 : Q ≤ 1000000000) (H : Hid (FracH w kind W a b P Q 0 v)) :
    Calls Tryz.prog 35 #[.int .i64 kind, .agg #[.int .i64 W, v], .int .i64 a, .int .i64 b] w fun e w' => e = .returned (.tuple #[.float .f64 (yW P Q), .int .i64 0]) ∧ Below w.heap.size w w' := by
  have HB := hideS (cbox_first w W v)
  have f1 := floatOf_fi7 P
  have f2 := floatOf_fi7 Q
  have hq := quo_year h1 h2 h3 h4
  unfold FracH at H
  clear h1 h2 h3 h4
  generalize yW P Q = R at *
  generalize fi P = X at *
  generalize fi Q = Y at *
  have hr := fun wx => run_float_arith (P := Tryz.prog) wx .quo 38 .f64 X Y R hq
  clear hq
  go_enter Tryz.func35, Tryz.ntmps35
  go_wp2_with (go_at_call 52; refine (H.out _ HB.out).mono ?_; rintro e w1 ⟨rfl, hb⟩)
  go_ret2
  exact ⟨rfl, HB.out.trans (hb.mono HB.out.size)⟩
end Go.Proofs.YtcmbfflemoccmaaGreat
