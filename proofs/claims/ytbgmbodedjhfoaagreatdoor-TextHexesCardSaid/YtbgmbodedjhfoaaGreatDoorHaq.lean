/- Contracts of the document's Whole, Join, Of and Split. The contracts of AddDigits, SubDigits, CmpDigits. -/
import Derived.Test.YtbgmbodedjhfoaaGreatDoorHap
import Derived.Test.YtbgmbodedjhfoaaGreatDoorHan
import Derived.Test.YtbgmbodedjhfoaaGreatDoorHad
import Derived.Lib.MinMax
namespace Go.Proofs.YtbgmbodedjhfoaaGreatDoor
open Go.RowKit

theorem nearR_tiny {N : Nat} {e : Int} (h0 : N ≠ 0) (h : (bl N : Int) + e < -1200) : nearR N e = 0 := by
  have hb := bl_pos h0
  have e3 : lastP N e = -1074 := by unfold lastP; omega
  unfold nearR
  rw [e3, show (e - -1074).toNat = 0 by omega, Nat.pow_zero, Nat.mul_one, rne_small]
  · rfl
  · have h1 := lt_bl N
    have h2 : (2 : Nat) ^ (bl N + 1) ≤ 2 ^ (-1074 - e).toNat := Nat.pow_le_pow_right (by decide) (by omega)
    rw [Nat.pow_succ] at h2; omega
theorem nearM_eq (neg : Bool) {N : Nat} (e : Int) (h0 : N ≠ 0) : nearM neg N e false = (if neg then 9223372036854775808 else 0) + (nearR N e : Int) := by
  have hb := bl_pos h0
  unfold nearM
  rw [if_neg h0]
  have key : (if farB N e = true then if 0 < e ∨ 0 < (bl N : Int) + e then madeI neg 9218868437227405312 else madeI neg 0 else madeI neg (rnd53 N e false)) = madeI neg (nearR N e) := by
    cases hf : farB N e
    · simp only [Bool.false_eq_true, if_false]
      rw [← rnd_near e h0]
      unfold madeI
      cases neg <;> simp only [Bool.false_eq_true, if_true, if_false] <;> omega
    · simp only [if_true]
      unfold farB at hf
      rw [Bool.or_eq_true, decide_eq_true_eq, decide_eq_true_eq] at hf
      rcases hf with hf | hf
      · rw [if_pos (Or.inr (by omega)), nearR_big h0 (by omega)]; rfl
      · rw [if_neg (by omega), nearR_tiny h0 hf]; rfl
  rw [key]
  have hle : nearR N e ≤ 9218868437227405312 := Nat.min_le_right _ _
  unfold madeI
  cases neg <;> simp only [Bool.false_eq_true, if_true, if_false] <;> omega

theorem DN.shape {w : World} {v : Value} {N : Nat} (h : DN w v N) : ∃ p l c, v = .slice p l c := by
  rcases h with ⟨_, p, c, rfl⟩ | ⟨_, g, c, rfl, _⟩
  · exact ⟨p, 0, c, rfl⟩
  · exact ⟨_, _, _, rfl⟩

set_option maxHeartbeats 400000 in
theorem whole_pos (n : Int) (w : World) (h0 : 0 ≤ n) (h1 : n ≤ 9223372036854775807) :
    Calls Tryz.prog 39 #[.int .i64 n] w fun x w' => ∃ v, x = .returned (NumV false v 0) ∧ DN w' v n.toNat ∧ Below w.heap.size w w' := by
  have hu : Hid (n = (n.toNat : Int)) := by show _ = _; omega
  unfold NumV
  go_enter Tryz.func39, Tryz.ntmps39
  go_wp2_with fail
  refine (digits_as n n.toNat _ hu (by omega)).mono ?_
  rintro x w1 ⟨v1, rfl, hd1, hfr, hb1⟩
  obtain ⟨p, l, c, rfl⟩ := hd1.shape
  have HB := hide hb1
  obtain ⟨hc, hf⟩ := bcell hb1
  have hz : w.heap.size < w1.heap.size := by have := hb1.size; simp at this; omega
  have HD := fun a b c => ((hd1.set hfr (a := ⟨w.heap.size, 0, none⟩) (by simp) a).set hfr (a := ⟨w.heap.size, 1, none⟩) (by simp) b).set hfr (a := ⟨w.heap.size, 2, none⟩) (by simp) c
  have HD := hide HD
  clear hd1 hb1 hfr
  go_wp2_with fail
  refine bodyPost_ret (v := .agg #[.bool false, .slice p l c, .int .i64 0]) (by simp [results, Tryz.results39, go_sem, hc]) rfl ⟨_, rfl, HD.out _ _ _, ?_⟩
  exact ((((Below.refl w.heap.size w).alloc (Nat.le_refl _) _).trans (HB.out.mono (by simp))).setCell (Nat.le_refl _) _).setCell (Nat.le_refl _) _ |>.setCell (Nat.le_refl _) _

set_option maxHeartbeats 400000 in
theorem whole_neg (n : Int) (w : World) (h0 : n < 0) (h1 : -9223372036854775808 ≤ n) :
    Calls Tryz.prog 39 #[.int .i64 n] w fun x w' => ∃ v, x = .returned (NumV true v 0) ∧ DN w' v n.natAbs ∧ Below w.heap.size w w' := by
  have hu : Hid (-(n + 1) + 1 = (n.natAbs : Int)) := by show _ = _; omega
  unfold NumV
  go_enter Tryz.func39, Tryz.ntmps39
  go_wp2_with fail
  refine (digits_as _ n.natAbs _ hu (by omega)).mono ?_
  rintro x w1 ⟨v1, rfl, hd1, hfr, hb1⟩
  obtain ⟨p, l, c, rfl⟩ := hd1.shape
  have HB := hide hb1
  obtain ⟨hc, hf⟩ := bcell hb1
  have hz : w.heap.size < w1.heap.size := by have := hb1.size; simp at this; omega
  have HD := fun a b c => ((hd1.set hfr (a := ⟨w.heap.size, 0, none⟩) (by simp) a).set hfr (a := ⟨w.heap.size, 1, none⟩) (by simp) b).set hfr (a := ⟨w.heap.size, 2, none⟩) (by simp) c
  have HD := hide HD
  clear hd1 hb1 hfr
  go_wp2_with fail
  refine bodyPost_ret (v := .agg #[.bool true, .slice p l c, .int .i64 0]) (by simp [results, Tryz.results39, go_sem, hc]) rfl ⟨_, rfl, HD.out _ _ _, ?_⟩
  exact ((((Below.refl w.heap.size w).alloc (Nat.le_refl _) _).trans (HB.out.mono (by simp))).setCell (Nat.le_refl _) _).setCell (Nat.le_refl _) _ |>.setCell (Nat.le_refl _) _

theorem wholeN_any (n : Int) (w : World) (h0 : -9223372036854775808 ≤ n) (h1 : n ≤ 9223372036854775807) :
    Calls Tryz.prog 39 #[.int .i64 n] w fun x w' => ∃ v, x = .returned (NumV (decide (n < 0)) v 0) ∧ DN w' v n.natAbs ∧ Below w.heap.size w w' := by
  by_cases h : n < 0
  · rw [decide_eq_true h]; exact whole_neg n w h h0
  · rw [decide_eq_false h, show n.natAbs = n.toNat by omega]; exact whole_pos n w (by omega) h1

theorem near_agg (neg : Bool) (v : Value) (e : Int) (N : Nat) (w : World) (h : DN w v N) (hb : nd N ≤ 1000000) (he : -10000000 ≤ e) (he' : e ≤ 10000000) :
    Calls Tryz.prog 47 #[.agg #[.bool neg, v, .int .i64 e]] w fun x w' => x = .returned (.int .u64 (nearM neg N e false)) ∧ Below w.heap.size w w' := near_num neg v e N w h hb he he'

def clampE (e : Int) : Int := min (max e (-1048576)) 1048576

set_option maxHeartbeats 400000 in
theorem refJoin_core (m e : Int) (w : World) (h0 : -9223372036854775808 ≤ m) (h1 : m ≤ 9223372036854775807) :
    Calls Tryz.prog 25 #[.int .i64 m, .int .i64 e] w fun x w' => x = .returned (.int .u64 (nearM (decide (m < 0)) m.natAbs (clampE e) false)) ∧ Below w.heap.size w w' := by
  have hcl : min (max e (-1048576)) 1048576 = clampE e := rfl
  have hc1 : -1048576 ≤ clampE e := by unfold clampE; omega
  have hc2 : clampE e ≤ 1048576 := by unfold clampE; omega
  have hnd : nd m.natAbs ≤ 1000000 := Nat.le_trans (nd_mono (k := 2) (by omega)) (by omega)
  generalize clampE e = E at hcl hc1 hc2
  generalize hng : decide (m < 0) = neg
  have HNG := hide hng
  clear hng
  go_enter Tryz.func25, Tryz.ntmps25
  go_wp2_with fail
  refine (wholeN_any m _ h0 h1).mono ?_
  rw [HNG.out]
  rintro x w1 ⟨v1, rfl, hd1, hb1⟩
  obtain ⟨p, l, c, rfl⟩ := hd1.shape
  have HB := hide hb1
  have HD := hide hd1
  unfold NumV
  clear hd1 hb1
  go_wp2_with fail
  refine (near_agg neg _ E m.natAbs _ (HD.out.below ((Below.refl _ _).alloc (Nat.le_refl _) _)) hnd (by omega) (by omega)).mono ?_
  rintro x w2 ⟨rfl, hb2⟩
  have HB2 := hide hb2
  clear hb2
  go_wp2_with fail
  go_ret
  exact ⟨rfl, (HB.out.alloc HB.out.size _).trans (HB2.out.mono (by have := HB.out.size; simp; omega))⟩

theorem near_clamp {N : Nat} (e : Int) (h0 : N ≠ 0) (h : N < 18446744073709551616) : nearR N (clampE e) = nearR N e := by
  unfold clampE
  by_cases h1 : 1048576 < e
  · rw [show min (max e (-1048576)) 1048576 = 1048576 by omega, nearR_big h0 (by omega), nearR_big h0 (by omega)]
  · by_cases h2 : e < -1048576
    · rw [show min (max e (-1048576)) 1048576 = -1048576 by omega, nearR_small h (by omega), nearR_small h (by omega)]
    · rw [show min (max e (-1048576)) 1048576 = e by omega]

theorem refJoin_any (m e : Int) (w : World) (h0 : -9223372036854775808 ≤ m) (h1 : m ≤ 9223372036854775807) :
    Calls Tryz.prog 25 #[.int .i64 m, .int .i64 e] w fun x w' => x = .returned (.int .u64 (joinN m e : Int)) ∧ Below w.heap.size w w' := by
  have ev : nearM (decide (m < 0)) m.natAbs (clampE e) false = (joinN m e : Int) := by
    unfold joinN
    by_cases hz : m = 0
    · subst hz; rw [if_pos rfl]; rfl
    · rw [if_neg hz, nearM_eq _ _ (by omega), near_clamp e (by omega) (by omega)]
      by_cases hn : m < 0
      · rw [if_pos hn, decide_eq_true hn]; simp only [if_true]; omega
      · rw [if_neg hn, decide_eq_false hn]; simp
  rw [← ev]; exact refJoin_core m e w h0 h1

set_option maxHeartbeats 400000 in
theorem refNumber_any (u : Int) (w : World) (h : U64 u) :
    Calls Tryz.prog 15 #[.int .u64 u] w fun e w' => e = .returned (.bool (splOk u)) ∧ w' = w := by
  have hz := andNot_sz h
  go_enter Tryz.func15, Tryz.ntmps15
  go_wp2
  go_ret
  exact ⟨rfl, rfl⟩

theorem and_mant {u : Int} (h : U64 u) : bits .and .u64 u 4503599627370495 = szI u % 4503599627370496 := by
  rw [and_mask52 h.1 h.2]; unfold szI; omega
theorem and_2047 {z : Int} (h0 : 0 ≤ z) (h : z < 18446744073709551616) : bits .and .u64 z 2047 = z % 2048 := by
  obtain ⟨b, rfl⟩ := Int.eq_ofNat_of_zero_le h0
  have := bits_and_u64_nat b 2047 (by omega) (by decide)
  rw [show ((2047 : Nat) : Int) = 2047 from rfl] at this
  rw [this]
  have e := Nat.and_two_pow_sub_one_eq_mod b 11
  rw [show (2 : Nat) ^ 11 - 1 = 2047 from rfl, show (2 : Nat) ^ 11 = 2048 from rfl] at e
  rw [e]; omega

set_option maxHeartbeats 400000 in
theorem of_sub (u : Int) (w : World) (h : U64 u) (h1 : 0 < szI u) (h2 : szI u < 4503599627370496) :
    Calls Tryz.prog 37 #[.int .u64 u] w fun x w' => ∃ v, x = .returned (NumV (sgB u) v (-1074)) ∧ DN w' v (szI u).toNat ∧ Below w.heap.size w w' := by
  have hm : bits .and .u64 u 4503599627370495 = szI u := by rw [and_mant h]; omega
  have hE : bits .and .u64 (u / 4503599627370496) 2047 = 0 := by
    have := h.1; have := h.2
    rw [and_2047 (by omega) (by omega)]; unfold szI at h2; omega
  have hz0 : (szI u == 0) = false := by simp; omega
  have hu : Hid (szI u = ((szI u).toNat : Int)) := by show _ = _; omega
  have hsg : decide (9223372036854775808 ≤ u) = sgB u := rfl
  have hb2 : (szI u).toNat < 18446744073709551616 := by omega
  generalize szI u = z at h1 h2 hm hz0 hu hb2
  generalize sgB u = sg at hsg
  unfold NumV
  go_enter Tryz.func37, Tryz.ntmps37
  go_wp2_with fail
  refine (digits_as z z.toNat _ hu hb2).mono ?_
  rintro x w1 ⟨v1, rfl, hd1, hfr, hb1⟩
  obtain ⟨p, l, c, rfl⟩ := hd1.shape
  have HB := hide hb1
  obtain ⟨hc, hf⟩ := bcell hb1
  have hz : w.heap.size < w1.heap.size := by have := hb1.size; simp at this; omega
  have HD := fun a b c => ((hd1.set hfr (a := ⟨w.heap.size, 0, none⟩) (by simp) a).set hfr (a := ⟨w.heap.size, 1, none⟩) (by simp) b).set hfr (a := ⟨w.heap.size, 2, none⟩) (by simp) c
  have HD := hide HD
  clear hd1 hb1 hfr
  go_wp2_with fail
  refine bodyPost_ret (v := .agg #[.bool sg, .slice p l c, .int .i64 (-1074)]) (by simp [results, Tryz.results37, go_sem, hc]) rfl ⟨_, rfl, HD.out _ _ _, ?_⟩
  exact ((((Below.refl w.heap.size w).alloc (Nat.le_refl _) _).trans (HB.out.mono (by simp))).setCell (Nat.le_refl _) _).setCell (Nat.le_refl _) _ |>.setCell (Nat.le_refl _) _

set_option maxHeartbeats 400000 in
theorem of_normal (u : Int) (w : World) (h : U64 u) (h1 : 4503599627370496 ≤ szI u) (h2 : szI u < 9218868437227405312) :
    Calls Tryz.prog 37 #[.int .u64 u] w fun x w' => ∃ v, x = .returned (NumV (sgB u) v (szI u / 4503599627370496 - 1075)) ∧ DN w' v (4503599627370496 + szI u % 4503599627370496).toNat ∧ Below w.heap.size w w' := by
  have hm : bits .and .u64 u 4503599627370495 = szI u % 4503599627370496 := and_mant h
  have hE : bits .and .u64 (u / 4503599627370496) 2047 = szI u / 4503599627370496 := by
    have := h.1; have := h.2
    rw [and_2047 (by omega) (by omega)]; unfold szI at h2 ⊢; omega
  have hq0 : 0 < szI u / 4503599627370496 := by omega
  have hq1 : szI u / 4503599627370496 < 2047 := by omega
  have hr0 : 0 ≤ szI u % 4503599627370496 := by omega
  have hr1 : szI u % 4503599627370496 < 4503599627370496 := by omega
  have hsg : decide (9223372036854775808 ≤ u) = sgB u := rfl
  clear h1 h2
  generalize szI u % 4503599627370496 = z at hm hr0 hr1
  generalize szI u / 4503599627370496 = q at hE hq0 hq1
  generalize sgB u = sg at hsg
  have hu : Hid (z + 4503599627370496 = ((4503599627370496 + z).toNat : Int)) := by show _ = _; omega
  have hz0 : (z + 4503599627370496 == 0) = false := by simp; omega
  unfold NumV
  go_enter Tryz.func37, Tryz.ntmps37
  go_wp2_with fail
  refine (digits_as _ (4503599627370496 + z).toNat _ hu (by omega)).mono ?_
  rintro x w1 ⟨v1, rfl, hd1, hfr, hb1⟩
  obtain ⟨p, l, c, rfl⟩ := hd1.shape
  have HB := hide hb1
  obtain ⟨hc, hf⟩ := bcell hb1
  have hz : w.heap.size < w1.heap.size := by have := hb1.size; simp at this; omega
  have HD := fun a b c => ((hd1.set hfr (a := ⟨w.heap.size, 0, none⟩) (by simp) a).set hfr (a := ⟨w.heap.size, 1, none⟩) (by simp) b).set hfr (a := ⟨w.heap.size, 2, none⟩) (by simp) c
  have HD := hide HD
  clear hd1 hb1 hfr
  go_wp2_with fail
  refine bodyPost_ret (v := .agg #[.bool sg, .slice p l c, .int .i64 (q - 1075)]) (by simp [results, Tryz.results37, go_sem, hc]) rfl ⟨_, rfl, HD.out _ _ _, ?_⟩
  exact ((((Below.refl w.heap.size w).alloc (Nat.le_refl _) _).trans (HB.out.mono (by simp))).setCell (Nat.le_refl _) _).setCell (Nat.le_refl _) _ |>.setCell (Nat.le_refl _) _

theorem of_any (u : Int) (w : World) (h : U64 u) (h1 : 0 < szI u) (h2 : szI u < 9218868437227405312) :
    Calls Tryz.prog 37 #[.int .u64 u] w fun x w' => ∃ v, x = .returned (NumV (sgB u) v (plcI (szI u))) ∧ DN w' v (magI (szI u)).toNat ∧ Below w.heap.size w w' := by
  unfold plcI magI
  by_cases hc : szI u < 4503599627370496
  · rw [if_pos hc, if_pos hc]; exact of_sub u w h h1 hc
  · rw [if_neg hc, if_neg hc]; exact of_normal u w h (by omega) h2

set_option maxHeartbeats 800000 in
theorem refSplit_in (u m E : Int) (sg : Bool) (w : World) (h : U64 u) (h1 : 0 < szI u) (h2 : Hid (szI u < 9218868437227405312)) (hm : Hid (magI (szI u) = m)) (hE : Hid (plcI (szI u) = E)) (hsg : Hid (sgB u = sg)) (hok : splOk u = true) :
    Calls Tryz.prog 17 #[.int .u64 u] w fun x w' => x = .returned (.tuple #[.int .i64 (if sg then -m else m), .int .i64 E, .bool true]) ∧ Below w.heap.size w w' := by
  have hz0 : (szI u == 0) = false := by simp; omega
  have hm0 : 0 ≤ m ∧ m < 9007199254740992 := by rw [← hm.out]; unfold magI; split <;> omega
  have hd2 := two_digits (K := m.toNat) (by omega)
  have b0 := dgt_lt m.toNat 0
  have b1 : dgt m.toNat 1 ≤ 2097152 := by omega
  generalize hq0 : dgt m.toNat 0 = q0 at hd2 b0
  generalize hq1 : dgt m.toNat 1 = q1 at hd2 b1
  have HD0 : Hid ((dgt m.toNat 0 : Int) = q0) := by show _ = _; rw [hq0]
  have HD1 : Hid ((dgt m.toNat 1 : Int) = q1) := by show _ = _; rw [hq1]
  clear hq0 hq1
  have hsum : (q0 : Int) + (q1 : Int) * 4294967296 = m := by omega
  obtain ⟨hm1, hm2⟩ := hm0
  have w3 : IntKind.u64.wrap ((q1 : Int) * 4294967296) = (q1 : Int) * 4294967296 := by rw [IntKind.wrap_u64]; omega
  have w4 : IntKind.u64.wrap m = m := by rw [IntKind.wrap_u64]; omega
  have w5 : IntKind.i64.wrap m = m := by rw [IntKind.wrap_i64]; omega
  clear hd2
  have HOf : Hid (∀ w, Calls Tryz.prog 37 #[.int .u64 u] w fun x w' => ∃ v, x = .returned (.agg #[.bool sg, v, .int .i64 E]) ∧ DN w' v m.toNat ∧ Below w.heap.size w w') := fun w => by
    have := of_any u w h h1 h2.out
    rw [hm.out, hE.out, hsg.out] at this; exact this
  cases sg
  all_goals
    simp only [Bool.false_eq_true, if_true, if_false]
    go_enter Tryz.func17, Tryz.ntmps17
    go_wp2_with (first | (go_at_call 15; refine (refNumber_any _ _ h).mono ?_; rintro x w' ⟨rfl, rfl⟩) | (go_at_call 18; refine (refSize_any _ _ h).mono ?_; rintro x w' ⟨rfl, rfl⟩))
    refine (HOf.out _).mono ?_
    rintro x w1 ⟨v1, rfl, hd1, hb1⟩
    obtain ⟨p, l, c, rfl⟩ := hd1.shape
    have HB := hide hb1
    have HDN : Hid (∀ o n, DN ((w1.alloc o).drewN n) (.slice p l c) m.toNat) := fun o n => hd1.below (below_drewN ((Below.refl _ _).alloc (Nat.le_refl _) o) n)
    clear hd1 hb1
    go_wp2_with fail
    go_quiet ((first | (go_at_call_of 38 (Value.int IntKind.i64 0); exact Calls.quiet_of_same (digit_at _ _ 0 0 _ _ (HDN.out _ _) rfl HD0)) | (go_at_call_of 38 (Value.int IntKind.i64 1); exact Calls.quiet_of_same (digit_at _ _ 1 1 _ _ (HDN.out _ _) rfl HD1))))
    go_wp2_with fail
    go_quiet (fail)
    go_wp2_with fail
    go_ret3
    exact ⟨rfl, below_drewN (below_drewN (HB.out.alloc HB.out.size _) _) _⟩

set_option maxHeartbeats 400000 in
theorem refSplit_out (u : Int) (ok : Bool) (w : World) (h : U64 u) (hok : splOk u = ok) (hz : ok = true → (szI u == 0) = true) :
    Calls Tryz.prog 17 #[.int .u64 u] w fun x w' => x = .returned (.tuple #[.int .i64 0, .int .i64 0, .bool ok]) ∧ w' = w := by
  cases ok
  · go_enter Tryz.func17, Tryz.ntmps17
    go_wp2_with (first | (go_at_call 15; refine (refNumber_any _ _ h).mono ?_; rintro x w' ⟨rfl, rfl⟩) | (go_at_call 18; refine (refSize_any _ _ h).mono ?_; rintro x w' ⟨rfl, rfl⟩))
    go_ret3
    exact ⟨rfl, rfl⟩
  · have hz0 := hz rfl
    clear hz
    go_enter Tryz.func17, Tryz.ntmps17
    go_wp2_with (first | (go_at_call 15; refine (refNumber_any _ _ h).mono ?_; rintro x w' ⟨rfl, rfl⟩) | (go_at_call 18; refine (refSize_any _ _ h).mono ?_; rintro x w' ⟨rfl, rfl⟩))
    go_ret3
    exact ⟨rfl, rfl⟩

theorem refSplit_any (u : Int) (w : World) (h : U64 u) :
    Calls Tryz.prog 17 #[.int .u64 u] w fun x w' => x = .returned (.tuple #[.int .i64 (splM u), .int .i64 (splE u), .bool (splOk u)]) ∧ Below w.heap.size w w' := by
  have hl := szI_lo u
  cases hok : splOk u
  · rw [show splM u = 0 by simp [splM, hok], show splE u = 0 by simp [splE, hok]]
    refine (refSplit_out u false w h hok (fun h => by cases h)).mono ?_
    rintro x w' ⟨rfl, rfl⟩; exact ⟨rfl, Below.refl _ _⟩
  · by_cases hz : szI u = 0
    · rw [show splM u = 0 by unfold splM magI; rw [hz]; simp, show splE u = 0 by unfold splE; rw [hz]; simp]
      refine (refSplit_out u true w h hok (fun _ => by rw [hz]; rfl)).mono ?_
      rintro x w' ⟨rfl, rfl⟩; exact ⟨rfl, Below.refl _ _⟩
    · have h2 : szI u < 9218868437227405312 := of_decide_eq_true hok
      rw [show splM u = (if sgB u then -magI (szI u) else magI (szI u)) by simp [splM, hok], show splE u = plcI (szI u) by simp [splE, hok, hz]]
      exact refSplit_in u _ _ _ w h (by omega) h2 rfl rfl rfl hok

end Go.Proofs.YtbgmbodedjhfoaaGreatDoor
namespace Go.Proofs.YtbgmbodedjhfoaaGreatDoor
open Go.RowKit

theorem DN.form {w : World} {v : Value} {N : Nat} (h : DN w v N) : ∃ p c, v = .slice p (nd N) c := by
  rcases h with ⟨h0, p, c, rfl⟩ | ⟨h0, g, c, rfl, _⟩
  · exact ⟨p, c, by rw [h0]; rfl⟩
  · exact ⟨_, _, rfl⟩

set_option maxRecDepth 10000 in
set_option maxHeartbeats 800000 in
theorem addDigits_form (p q : Option Addr) (c d m n L A B : Nat) (w : World) (hA : Hid (DN w (.slice p m c) A)) (hB : Hid (DN w (.slice q n d) B)) (hL : max (m : Int) (n : Int) = (L : Int)) (hm : m ≤ 10000000) (hn : n ≤ 10000000) (hA2 : Hid (A < 2 ^ (32 * m))) (hB2 : Hid (B < 2 ^ (32 * n))) :
    Calls Tryz.prog 84 #[.slice p m c, .slice q n d] w fun e w' => ∃ v, e = .returned v ∧ DN w' v (A + B) ∧ From w.heap.size v ∧ Below w.heap.size w w' := by
  have hL1 : m ≤ L := by omega
  have hL2 : n ≤ L := by omega
  have hL3 : L ≤ 10000000 := by omega
  have hmk := fun w => run_make_row' (P := Tryz.prog) 58 28 (.int .u64 0) 8 Tryz.underlying58 info_u64 rfl .i64 .i64 (L + 1) (by omega) (by omega) w
  have ec : ((L + 1 : Nat) : Int) = (L : Int) + 1 := by omega
  rw [ec] at hmk
  clear ec
  have HO := hide (half_made w (L + 1) (A + B))
  go_enter Tryz.func84, Tryz.ntmps84
  go_wp2_with fail
  go_loopw [7, 8] (fun s i wr => ∃ k c : Nat, k ≤ L + 1 ∧ c ≤ 1 ∧ i = .int .i64 k ∧ s = .int .u64 c ∧ Hid (c = cry A B k) ∧ Hid (Half wr w.heap.size (L + 1) (A + B) k) ∧ Hid (Below w.heap.size w wr)) (fun _ i _ => L + 1 - (intOf i).toNat)
  case atStart => exact ⟨0, 0, Nat.zero_le _, Nat.zero_le _, rfl, rfl, (cry_zero A B).symm, HO, (Below.refl _ _).alloc (Nat.le_refl _) _⟩
  case round =>
    clear HO hmk
    obtain ⟨k, x, hk, hx, rfl, rfl, HC, HH, HB⟩ := hrel
    by_cases hlt : k < L + 1
    · have H1 := hide (digit_any _ A k wr (hA.out.below HB.out))
      have H2 := hide (digit_any _ B k wr (hB.out.below HB.out))
      have b1 := dgt_lt A k
      have b2 := dgt_lt B k
      have h1 := HH.out.cell (i := k) (by omega)
      have f1 := HH.out.frozen k
      have HS := hide fun a b (ha : a = dgt A k) (hb : b = dgt B k) => add_round (s := a + b + x) ha hb HC.out rfl
      generalize hD : dgt A k = a at H1 b1
      generalize hE : dgt B k = b at H2 b2
      have HS := hide (HS.out a b hD.symm hE.symm)
      clear hD hE
      go_wp2_with fail
      refine H1.out.mono ?_
      rintro e w' ⟨rfl, rfl⟩
      go_wp2_with fail
      refine H2.out.mono ?_
      rintro e w' ⟨rfl, rfl⟩
      go_wp2_with fail
      go_roundw
      case rel => exact ⟨k + 1, (a + b + x) / 4294967296, by omega, by omega, by go_num, by go_num, HS.out.2, half_step HH.out (by rw [← HS.out.1]; omega), HB.out.setCell (Nat.le_refl _) _⟩
      case measure => simp [intOf]; omega
    · obtain rfl : k = L + 1 := by omega
      have HO2 := hide (half_end HH.out)
      have hM : Hid (A + B < 2 ^ (32 * (L + 1))) := sum_lt hA2.out hB2.out (by omega) (by omega)
      have hlt2 := HO2.out.lt
      have HD := hide (dn_mk HO2.out.row hM.out (Nat.le_refl _) hlt2)
      go_wp2_with fail
      refine (trim_row _ _ _ _ _ HO2.out.row hM.out (Nat.le_refl _) (by omega)).mono ?_
      rintro e w' ⟨rfl, rfl⟩
      go_wp2_with fail
      go_ret
      exact ⟨_, rfl, HD.out, from_at _ _ _ _ (Nat.le_refl _), HB.out⟩

theorem addDigits_any (u v : Value) (A B : Nat) (w : World) (hA : DN w u A) (hB : DN w v B) (ha : nd A ≤ 10000000) (hb : nd B ≤ 10000000) :
    Calls Tryz.prog 84 #[u, v] w fun e w' => ∃ v, e = .returned v ∧ DN w' v (A + B) ∧ From w.heap.size v ∧ Below w.heap.size w w' := by
  obtain ⟨p, c, rfl⟩ := hA.form
  obtain ⟨q, d, rfl⟩ := hB.form
  exact addDigits_form p q c d (nd A) (nd B) (max (nd A) (nd B)) A B w hA hB (by omega) ha hb (nd_lt A) (nd_lt B)

set_option maxRecDepth 10000 in
set_option maxHeartbeats 400000 in
theorem subDigits_nil (p : Option Addr) (c : Nat) (v : Value) (w : World) :
    Calls Tryz.prog 86 #[.slice p 0 c, v] w fun e w' => ∃ v, e = .returned v ∧ DN w' v 0 ∧ From w.heap.size v ∧ Below w.heap.size w w' := by
  have hmk := fun w => run_make_row' (P := Tryz.prog) 58 28 (.int .u64 0) 8 Tryz.underlying58 info_u64 rfl .i64 .i64 0 (by omega) (by omega) w
  rw [show ((0 : Nat) : Int) = 0 from rfl] at hmk
  go_enter Tryz.func86, Tryz.ntmps86
  go_wp2_with fail
  go_loopw [6, 7] (fun s i wr => i = .int .i64 0 ∧ s = .int .u64 0 ∧ Hid (Below w.heap.size w wr)) (fun _ _ _ => 0)
  case atStart => exact ⟨rfl, rfl, (Below.refl _ _).alloc (Nat.le_refl _) _⟩
  case round =>
    obtain ⟨rfl, rfl, HB⟩ := hrel
    go_wp2_with fail
    refine (trim_row w.heap.size 0 0 0 _ (fun i hi => absurd hi (by omega)) (by decide) (Nat.le_refl _) (by omega)).mono ?_
    rintro e w' ⟨rfl, rfl⟩
    go_wp2_with fail
    go_ret
    exact ⟨_, rfl, Or.inl ⟨rfl, _, _, rfl⟩, from_at _ _ _ _ (Nat.le_refl _), HB.out⟩

set_option maxRecDepth 10000 in
set_option maxHeartbeats 800000 in
theorem subDigits_row (g : Nat) (v : Value) (c m B D : Nat) (w : World) (hrow : Hid (RowIs w g m (B + D))) (hg : g < w.heap.size) (hB : Hid (DN w v B)) (hm : m ≤ 10000000) (hA2 : Hid (B + D < 2 ^ (32 * m))) :
    Calls Tryz.prog 86 #[.slice (some ⟨g, 0, none⟩) m c, v] w fun e w' => ∃ v, e = .returned v ∧ DN w' v D ∧ From w.heap.size v ∧ Below w.heap.size w w' := by
  have hmk := fun w => run_make_row' (P := Tryz.prog) 58 28 (.int .u64 0) 8 Tryz.underlying58 info_u64 rfl .i64 .i64 m (by omega) (by omega) w
  have HO := hide (half_made w m D)
  go_enter Tryz.func86, Tryz.ntmps86
  go_wp2_with fail
  go_loopw [6, 7] (fun s i wr => ∃ k c : Nat, k ≤ m ∧ c ≤ 1 ∧ i = .int .i64 k ∧ s = .int .u64 c ∧ Hid (c = cry B D k) ∧ Hid (Half wr w.heap.size m D k) ∧ Hid (Below w.heap.size w wr)) (fun _ i _ => m - (intOf i).toNat)
  case atStart => exact ⟨0, 0, Nat.zero_le _, Nat.zero_le _, rfl, rfl, (cry_zero B D).symm, HO, (Below.refl _ _).alloc (Nat.le_refl _) _⟩
  case round =>
    clear HO hmk
    obtain ⟨k, x, hk, hx, rfl, rfl, HC, HH, HB⟩ := hrel
    by_cases hlt : k < m
    · have hc : wr.cell? ⟨g, k, none⟩ = some (.int .u64 (dgt (B + D) k : Int)) := (HB.out.cell (p := ⟨g, k, none⟩) hg).trans (hrow.out k hlt)
      have H2 := hide fun q => digit_any _ B k (wr.drewN q) (hB.out.below (below_drewN HB.out q))
      have b1 := dgt_lt (B + D) k
      have b2 := dgt_lt B k
      have h1 := HH.out.cell (i := k) (by omega)
      have f1 := HH.out.frozen k
      have HS := hide (sub_round (k := k) rfl rfl HC.out)
      generalize dgt (B + D) k = a at hc b1 HS
      generalize dgt B k = b at H2 b2 HS
      have hle := HS.out.1
      have hle2 := HS.out.2.2.1
      have w1 : IntKind.u64.wrap ((a : Int) + 4294967296) = (a : Int) + 4294967296 := by rw [IntKind.wrap_u64]; omega
      have w2 : IntKind.u64.wrap ((a : Int) + 4294967296 - (b : Int)) = (a : Int) + 4294967296 - (b : Int) := by rw [IntKind.wrap_u64]; omega
      have w3 : IntKind.u64.wrap ((a : Int) + 4294967296 - (b : Int) - (x : Int)) = ((a + 4294967296 - b - x : Nat) : Int) := by rw [IntKind.wrap_u64]; omega
      have hs : a + 4294967296 - b - x < 8589934592 := by omega
      generalize a + 4294967296 - b - x = s at w3 HS hle2 hs
      go_wp2_with fail
      go_quiet ((go_at_call 38; exact Calls.quiet_of_same (H2.out _)))
      go_wp2_with fail
      go_roundw
      case rel => exact ⟨k + 1, 1 - s / 4294967296, by omega, by omega, by go_num, by go_num, HS.out.2.2.2, half_step (w := wr.drewN nq) HH.out (by rw [← HS.out.2.1]; omega), (below_drewN HB.out _).setCell (Nat.le_refl _) _⟩
      case measure => simp [intOf]; omega
    · obtain rfl : k = m := by omega
      have HO2 := hide (half_end HH.out)
      have hM : Hid (D < 2 ^ (32 * k)) := by show _ < _; have := hA2.out; omega
      have hlt2 := HO2.out.lt
      have HD := hide (dn_mk HO2.out.row hM.out (Nat.le_refl _) hlt2)
      go_wp2_with fail
      refine (trim_row _ _ _ _ _ HO2.out.row hM.out (Nat.le_refl _) (by omega)).mono ?_
      rintro e w' ⟨rfl, rfl⟩
      go_wp2_with fail
      go_ret
      exact ⟨_, rfl, HD.out, from_at _ _ _ _ (Nat.le_refl _), HB.out⟩

theorem subDigits_any (u v : Value) (A B : Nat) (w : World) (hA : DN w u A) (hB : DN w v B) (ha : nd A ≤ 10000000) (hle : B ≤ A) :
    Calls Tryz.prog 86 #[u, v] w fun e w' => ∃ v, e = .returned v ∧ DN w' v (A - B) ∧ From w.heap.size v ∧ Below w.heap.size w w' := by
  obtain ⟨D, rfl⟩ : ∃ D, A = B + D := ⟨A - B, by omega⟩
  rw [Nat.add_sub_cancel_left]
  rcases hA with ⟨h0, p, c, rfl⟩ | ⟨h0, g, c, rfl, hc, hg, hr⟩
  · rw [show D = 0 by omega]; exact subDigits_nil p c v w
  · exact subDigits_row g v c (nd (B + D)) B D w hr hg hB ha (nd_lt _)

theorem cmpDigits_len (p q : Option Addr) (m n c d A B : Nat) (w : World) (hA : Hid (nd A = m)) (hB : Hid (nd B = n)) (hne : m ≠ n) :
    Calls Tryz.prog 85 #[.slice p m c, .slice q n d] w fun e w' => e = .returned (.int .i64 (cmpN A B)) ∧ ∃ q, w' = w.drewN q := by
  rcases Nat.lt_or_gt_of_ne hne with h | h
  · have e : cmpN A B = -1 := cmpN_lt (nd_lt_lt (by rw [hA.out, hB.out]; exact h))
    rw [e]
    go_enter Tryz.func85, Tryz.ntmps85
    go_wp2
    go_ret
    exact ⟨rfl, 0, rfl⟩
  · have e : cmpN A B = 1 := cmpN_gt (nd_lt_lt (by rw [hA.out, hB.out]; exact h))
    rw [e]
    go_enter Tryz.func85, Tryz.ntmps85
    go_wp2
    go_ret
    exact ⟨rfl, 0, rfl⟩

theorem top_zero {A n : Nat} (h : A < 2 ^ (32 * n)) : A / 2 ^ (32 * n) = 0 := Nat.div_eq_of_lt h

set_option maxHeartbeats 800000 in
theorem cmpDigits_row (g f n c d A B : Nat) (w : World) (hrA : Hid (RowIs w g n A)) (hrB : Hid (RowIs w f n B)) (hA : Hid (A < 2 ^ (32 * n))) (hB : Hid (B < 2 ^ (32 * n))) (hn : n ≤ 10000000) :
    Calls Tryz.prog 85 #[.slice (some ⟨g, 0, none⟩) n c, .slice (some ⟨f, 0, none⟩) n d] w fun e w' => e = .returned (.int .i64 (cmpN A B)) ∧ ∃ q, w' = w.drewN q := by
  go_enter Tryz.func85, Tryz.ntmps85
  go_wp2_with fail
  go_loopw [5] (fun i wr => ∃ k : Nat, k ≤ n ∧ i = .int .i64 ((k : Int) - 1) ∧ Hid (A / 2 ^ (32 * k) = B / 2 ^ (32 * k)) ∧ Hid (∃ q, wr = w.drewN q)) (fun i _ => (intOf i + 1).toNat)
  case atStart => exact ⟨n, Nat.le_refl _, rfl, by show _ = _; rw [top_zero hA.out, top_zero hB.out], 0, rfl⟩
  case round =>
    obtain ⟨k, hk, rfl, HE, HQ⟩ := hrel
    cases k with
    | zero =>
      have e : cmpN A B = 0 := cmpN_eq (by have := HE.out; rw [Nat.mul_zero, Nat.pow_zero, Nat.div_one, Nat.div_one] at this; exact this)
      have E := hide e.symm
      clear e
      go_wp2_with fail
      go_ret
      exact ⟨ret_int E.out, HQ.out⟩
    | succ j =>
      have e1 : ((j + 1 : Nat) : Int) - 1 = (j : Int) := by omega
      rw [e1]
      have hc1 : wr.cell? ⟨g, j, none⟩ = some (.int .u64 (dgt A j : Int)) := by obtain ⟨q, rfl⟩ := HQ.out; exact hrA.out j (by omega)
      have hc2 : wr.cell? ⟨f, j, none⟩ = some (.int .u64 (dgt B j : Int)) := by obtain ⟨q, rfl⟩ := HQ.out; exact hrB.out j (by omega)
      clear e1
      have H1 := hide fun h => cmpN_lt (lt_of_top HE.out h)
      have H2 := hide fun h => cmpN_gt (lt_of_top HE.out.symm h)
      have H3 := hide fun h => eq_of_top HE.out h
      generalize dgt A j = a at hc1 H1 H2 H3
      generalize dgt B j = b at hc2 H1 H2 H3
      clear HE
      rcases Nat.lt_trichotomy a b with h | h | h
      · have e := H1.out h
        have E := hide e.symm
        clear e H1 H2 H3
        go_wp2_with fail
        go_quiet (fail)
        go_wp2_with fail
        go_ret
        refine ⟨ret_int E.out, ?_⟩
        obtain ⟨q, rfl⟩ := HQ.out; exact ⟨_, World.drewN_drewN _ _ _⟩
      · have H4 := hide (H3.out h)
        clear H1 H2 H3
        subst h
        go_wp2_with fail
        go_quiet (fail)
        go_wp2_with fail
        go_quiet (fail)
        go_wp2_with fail
        go_roundw
        case rel =>
          refine ⟨j, by omega, by go_num, H4, ?_⟩
          obtain ⟨q, rfl⟩ := HQ.out
          exact ⟨_, by first | exact World.drewN_drewN _ _ _ | rw [World.drewN_drewN, World.drewN_drewN]⟩
        case measure => simp [intOf]
      · have e := H2.out h
        have E := hide e.symm
        clear e H1 H2 H3
        go_wp2_with fail
        go_quiet (fail)
        go_wp2_with fail
        go_quiet (fail)
        go_wp2_with fail
        go_ret
        refine ⟨ret_int E.out, ?_⟩
        obtain ⟨q, rfl⟩ := HQ.out; exact ⟨_, by first | exact World.drewN_drewN _ _ _ | rw [World.drewN_drewN, World.drewN_drewN]⟩

set_option maxHeartbeats 800000 in
theorem cmpDigits_nil (p q : Option Addr) (c d : Nat) (w : World) :
    Calls Tryz.prog 85 #[.slice p 0 c, .slice q 0 d] w fun e w' => e = .returned (.int .i64 0) ∧ ∃ q, w' = w.drewN q := by
  go_enter Tryz.func85, Tryz.ntmps85
  go_wp2_with fail
  go_loop [5] (fun i => i = .int .i64 (-1)) (fun _ => 0)
  case atStart => rfl
  case round =>
    subst hrel
    go_wp2_with fail
    go_ret
    exact ⟨rfl, 0, rfl⟩

theorem cmpDigits_any (u v : Value) (A B : Nat) (w : World) (hA : DN w u A) (hB : DN w v B) (ha : nd A ≤ 10000000) :
    Calls Tryz.prog 85 #[u, v] w fun e w' => e = .returned (.int .i64 (cmpN A B)) ∧ ∃ q, w' = w.drewN q := by
  by_cases hne : nd A = nd B
  · rcases hA with ⟨h0, p, c, rfl⟩ | ⟨h0, g, c, rfl, hc, hg, hr⟩
    · rcases hB with ⟨h1, q, d, rfl⟩ | ⟨h1, f, d, rfl, hd, hf, hs⟩
      · rw [cmpN_eq (h0.trans h1.symm)]; exact cmpDigits_nil p q c d w
      · exfalso; have h2 := nd_pos h1; rw [h0, nd_zero] at hne; omega
    · rcases hB with ⟨h1, q, d, rfl⟩ | ⟨h1, f, d, rfl, hd, hf, hs⟩
      · exfalso; have h2 := nd_pos h0; rw [h1, nd_zero] at hne; omega
      · rw [← hne] at hs ⊢
        exact cmpDigits_row g f (nd A) c d A B w hr hs (nd_lt A) (by show _ < _; rw [hne]; exact nd_lt B) ha
  · obtain ⟨p, c, rfl⟩ := hA.form
    obtain ⟨q, d, rfl⟩ := hB.form
    exact cmpDigits_len p q _ _ c d A B w rfl rfl hne

end Go.Proofs.YtbgmbodedjhfoaaGreatDoor
