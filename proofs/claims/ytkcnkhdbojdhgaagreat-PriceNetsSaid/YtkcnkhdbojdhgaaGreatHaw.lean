/- The contract of the document's Exp. The walk of FnHorners: any coefficients, any float. The walk of FnExps: Exp of any float. The program's Ln, whatever its steps tell. A number above 0 as m * 2^k, m about 1: what about1 tells, and the document. The document's steps over what may be a NaN. The contract of the document's Ln. What factors and forwards of rates do where their arguments rise: no word of the program. -/
import Derived.Test.YtkcnkhdbojdhgaaGreatHav
import Derived.Test.YtkcnkhdbojdhgaaGreatHau
import Derived.Test.YtkcnkhdbojdhgaaGreatHam
import Derived.Test.YtkcnkhdbojdhgaaGreatHal
namespace Go.Proofs.YtkcnkhdbojdhgaaGreat
open Go.RowKit

theorem magI_mg (r : Nat) : magI (r : Int) = (mg r : Int) := by
  unfold magI mg
  by_cases c : r < 4503599627370496
  · rw [if_pos c, if_pos (by omega)]
  · rw [if_neg c, if_neg (by omega)]; omega
theorem plcI_pl (r : Nat) : plcI (r : Int) = -1074 + (pl r : Int) := by
  unfold plcI pl
  by_cases c : r < 4503599627370496
  · rw [if_pos (by omega)]; omega
  · rw [if_neg (by omega)]; omega
theorem split_of {p : Nat} {neg : Bool} {N : Nat} {e : Int} (h : OfR p neg N e) (h64 : p < 18446744073709551616) (hn : NumB p) (h0 : N ≠ 0) : splM (p : Int) = sg neg N ∧ splE (p : Int) = e ∧ neg = sB p := by
  obtain ⟨m1, m2⟩ := h.mag h0
  have hsz := szI_nat p
  unfold NumB at hn
  have hok : splOk (p : Int) = true := by unfold splOk; rw [hsz]; simp; omega
  have hr0 : p % 9223372036854775808 ≠ 0 := by
    intro e0; rw [e0] at m1; exact h0 (by rw [m1]; decide)
  refine ⟨?_, ?_, h.sgn h0⟩
  · unfold splM
    rw [hok, if_pos rfl, hsz, magI_mg, ← m1, sgB_nat h64, ← h.sgn h0]
    rfl
  · unfold splE
    rw [hok, hsz, plcI_pl, ← m2, show decide (((p % 9223372036854775808 : Nat) : Int) ≠ 0) = true by simpa using fun h => hr0 (by omega)]
    rfl
theorem exp_end {p : Nat} {neg : Bool} {N : Nat} {e k : Int} (h : OfR p neg N e) (h64 : p < 18446744073709551616) (hn : NumB p) (hv : 0 ≤ vI p) : nearM neg N (e + k) false = (joinN (splM p) (splE p + k) : Int) := by
  by_cases h0 : N = 0
  · have hz : p % 9223372036854775808 = 0 := by
      have := h.val
      rw [h0, Nat.zero_mul] at this
      exact zero_V2 this.symm
    have hs : splM (p : Int) = 0 := by
      unfold splM
      rw [szI_nat, hz]
      unfold magI
      split
      · split <;> simp
      · rfl
    rw [hs, h0]
    rfl
  · obtain ⟨s1, s2, s3⟩ := split_of h h64 hn h0
    have hneg : neg = false := by
      cases hneg : neg with
      | false => rfl
      | true =>
        exfalso
        have ha : aV p ≠ 0 := by
          rw [← h.val]
          have := Nat.mul_pos (show 0 < N by omega) (Nat.two_pow_pos (e + 1074).toNat); omega
        rw [vI_sB, ← s3, hneg] at hv
        unfold sg at hv; simp at hv; omega
    rw [s1, s2, hneg, nearM_eq false _ h0, if_neg (by decide)]
    unfold sg joinN
    simp only [Bool.false_eq_true, if_false]
    rw [if_neg (by omega), if_neg (by omega), Int.natAbs_natCast]; omega

set_option maxHeartbeats 800000 in
theorem refExp_nan (u : Int) (w : World) (h : U64 u) (hn : nanB u = true) :
    Calls Tryz.prog 139 #[.int .u64 u] w fun e w' => e = .returned (.int .u64 9221120237041090561) ∧ Below w.heap.size w w' := by
  have H := hideS (refNaN_any u w h)
  rw [hn] at H
  clear h hn
  go_enter Tryz.func139, Tryz.ntmps139
  go_wp2_with fail
  refine (turned H.out).mono ?_
  rintro e w' ⟨rfl, rfl⟩
  go_wp2_with fail
  go_ret
  exact ⟨rfl, Below.refl _ _⟩
theorem refInt_at (n z : Int) (w : World) (h0 : -9223372036854775808 ≤ n) (h1 : n ≤ 9223372036854775807) (hz : (fi n : Int) = z) :
    Calls Tryz.prog 203 #[.int .i64 n] w fun e w' => e = .returned (.int .u64 z) ∧ Below w.heap.size w w' := by
  rw [← hz]; exact refInt_any n w h0 h1

set_option maxHeartbeats 800000 in
theorem refExp_hi (u : Int) (w : World) (h : U64 u) (hn : nanB u = false) (hl : decide (rankI u < rankI 4649456441864749056) = false) :
    Calls Tryz.prog 139 #[.int .u64 u] w fun e w' => e = .returned (.int .u64 9218868437227405312) ∧ Below w.heap.size w w' := by
  have H := hideS (refNaN_any u w h)
  have HI := hideS fun w => refInt_at 710 4649456441864749056 w (by omega) (by omega) (by rw [c710]; rfl)
  have HL := hideS fun w => refLt_at u 4649456441864749056 false w h (by unfold U64; omega) hn (by decide) hl
  rw [hn] at H
  clear h hn hl
  go_enter Tryz.func139, Tryz.ntmps139
  go_wp2_with fail
  refine (turned H.out).mono ?_
  rintro e w' ⟨rfl, rfl⟩
  go_wp2_with fail
  refine (HI.out _).mono ?_
  rintro e w1 ⟨rfl, hb⟩
  have HB := hideS hb
  clear hb
  go_wp2_with fail
  refine (HL.out _).mono ?_
  rintro e w' ⟨rfl, rfl⟩
  go_wp2_with fail
  go_ret
  exact ⟨rfl, HB.out⟩

set_option maxHeartbeats 800000 in
theorem refExp_lo (u : Int) (w : World) (h : U64 u) (hn : nanB u = false) (hl : decide (rankI u < rankI 4649456441864749056) = true) (hl2 : decide (rankI 13873145138068324352 < rankI u) = false) :
    Calls Tryz.prog 139 #[.int .u64 u] w fun e w' => e = .returned (.int .u64 0) ∧ Below w.heap.size w w' := by
  have H := hideS (refNaN_any u w h)
  have HI := hideS fun w => refInt_at 710 4649456441864749056 w (by omega) (by omega) (by rw [c710]; rfl)
  have HL := hideS fun w => refLt_at u 4649456441864749056 true w h (by unfold U64; omega) hn (by decide) hl
  have HI2 := hideS fun w => refInt_at (-746) 13873145138068324352 w (by omega) (by omega) (by rw [c746]; rfl)
  have HL2 := hideS fun w => refLt_at 13873145138068324352 u false w (by unfold U64; omega) h (by decide) hn hl2
  rw [hn] at H
  clear h hn hl hl2
  go_enter Tryz.func139, Tryz.ntmps139
  go_wp2_with fail
  refine (turned H.out).mono ?_
  rintro e w' ⟨rfl, rfl⟩
  go_wp2_with fail
  refine (HI.out _).mono ?_
  rintro e w1 ⟨rfl, hb⟩
  have HB := hideS hb
  clear hb
  go_wp2_with fail
  refine (HL.out _).mono ?_
  rintro e w' ⟨rfl, rfl⟩
  go_wp2_with fail
  refine (HI2.out _).mono ?_
  rintro e w2 ⟨rfl, hb⟩
  have HB2 := hideS (HB.out.trans (hb.mono HB.out.size))
  clear hb
  go_wp2_with fail
  refine (HL2.out _).mono ?_
  rintro e w' ⟨rfl, rfl⟩
  go_wp2_with fail
  go_ret
  exact ⟨rfl, HB2.out⟩

theorem u64_op {op : BinOp} (ho : op = .add ∨ op = .sub ∨ op = .mul ∨ op = .quo) {x y r : Nat} {z : Int} (h : floatBits op .f64 x y = some r) (hz : z = (r : Int)) : U64 z := by rw [hz]; exact u64_of_nat (float_lt ho h)
theorem mul_is {x y r : Nat} {u v z : Int} (hu : u = (x : Int)) (hv : v = (y : Int)) (h : U64 u) (h' : U64 v) (hr : floatBits .mul .f64 x y = some r) (hz : z = (r : Int)) (w : World) :
    Calls Tryz.prog 47 #[.int .u64 u, .int .u64 v] w fun e w' => e = .returned (.int .u64 z) ∧ Below w.heap.size w w' := by
  have := refMul_any x y u v w hu hv h h'
  rw [hr, cn_some, ← hz] at this; exact this
theorem add_is {x y r : Nat} {u v z : Int} (hu : u = (x : Int)) (hv : v = (y : Int)) (h : U64 u) (h' : U64 v) (hr : floatBits .add .f64 x y = some r) (hz : z = (r : Int)) (w : World) :
    Calls Tryz.prog 46 #[.int .u64 u, .int .u64 v] w fun e w' => e = .returned (.int .u64 z) ∧ Below w.heap.size w w' := by
  have := refAdd_any x y u v w hu hv h h'
  rw [hr, cn_some, ← hz] at this; exact this
theorem sub_is {x y r : Nat} {u v z : Int} (hu : u = (x : Int)) (hv : v = (y : Int)) (h : U64 u) (h' : U64 v) (hr : floatBits .sub .f64 x y = some r) (hz : z = (r : Int)) (w : World) :
    Calls Tryz.prog 67 #[.int .u64 u, .int .u64 v] w fun e w' => e = .returned (.int .u64 z) ∧ Below w.heap.size w w' := by
  have := refSub_any x y u v w hu hv h h'
  rw [hr, cn_some, ← hz] at this; exact this
set_option maxRecDepth 20000 in
set_option maxHeartbeats 1600000 in
theorem refExp_mid (x y t hi lo d r p : Nat) (u k res : Int) (K : Nat) (w : World) (hu : u = (x : Int)) (h : U64 u) (hn : nanB u = false) (hl : decide (rankI u < rankI 4649456441864749056) = true) (hl2 : decide (rankI 13873145138068324352 < rankI u) = true)
    (q1 : floatBits .mul .f64 x 4609176140021203710 = some y) (q2 : floatBits .add .f64 y 4602678819172646912 = some t) (tn : NumB t) (hK : K = 1074) (f1 : k * ((2 ^ K : Nat) : Int) ≤ vI t) (f2 : vI t < (k + 1) * ((2 ^ K : Nat) : Int)) (k1 : -2000 ≤ k) (k2 : k ≤ 2000)
    (q3 : floatBits .mul .f64 (fi k) 4604418534311723008 = some hi) (q4 : floatBits .mul .f64 (fi k) 4461442080421002358 = some lo) (q5 : floatBits .sub .f64 x hi = some d) (q6 : floatBits .sub .f64 d lo = some r) (q7 : hornO expL r = some p) (pn : NumB p) (p64 : p < 18446744073709551616) (pv : 0 ≤ vI p) (hres : (joinN (splM p) (splE p + k) : Int) = res) :
    Calls Tryz.prog 139 #[.int .u64 u] w fun e w' => e = .returned (.int .u64 res) ∧ Below w.heap.size w w' := by
  have H := hideS (refNaN_any u w h)
  have HI := hideS fun w => refInt_at 710 4649456441864749056 w (by omega) (by omega) (by rw [c710]; rfl)
  have HL := hideS fun w => refLt_at u 4649456441864749056 true w h (by unfold U64; omega) hn (by decide) hl
  have HI2 := hideS fun w => refInt_at (-746) 13873145138068324352 w (by omega) (by omega) (by rw [c746]; rfl)
  have HL2 := hideS fun w => refLt_at 13873145138068324352 u true w (by unfold U64; omega) h (by decide) hn hl2
  rw [hn] at H
  obtain ⟨yi, hy⟩ : ∃ yi : Int, yi = (y : Int) := ⟨_, rfl⟩
  obtain ⟨ti, ht⟩ : ∃ ti : Int, ti = (t : Int) := ⟨_, rfl⟩
  obtain ⟨fz, hf⟩ : ∃ fz : Int, fz = (fi k : Int) := ⟨_, rfl⟩
  obtain ⟨hii, hhi⟩ : ∃ hii : Int, hii = (hi : Int) := ⟨_, rfl⟩
  obtain ⟨loi, hlo⟩ : ∃ loi : Int, loi = (lo : Int) := ⟨_, rfl⟩
  obtain ⟨di, hd⟩ : ∃ di : Int, di = (d : Int) := ⟨_, rfl⟩
  obtain ⟨ri, hr⟩ : ∃ ri : Int, ri = (r : Int) := ⟨_, rfl⟩
  obtain ⟨pi, hp⟩ : ∃ pi : Int, pi = (p : Int) := ⟨_, rfl⟩
  have uf : U64 fz := by rw [hf]; exact u64_of_nat (aV_fi (a := k) rfl (by omega) (by omega)).2.2.2
  have M1 := hideS fun w => mul_is (z := yi) hu (v := 4609176140021203710) rfl h (by unfold U64; omega) q1 hy w
  have A1 := hideS fun w => add_is (z := ti) hy (v := 4602678819172646912) rfl (u64_op (by simp) q1 hy) (by unfold U64; omega) q2 ht w
  have FL := hideS fun w => refFloor_at t ti k K w ht (u64_op (by simp) q2 ht) tn hK f1 f2 k1 k2
  have IK := hideS fun w => refInt_at k fz w (by omega) (by omega) hf.symm
  have M2 := hideS fun w => mul_is (z := hii) hf (v := 4604418534311723008) rfl uf (by unfold U64; omega) q3 hhi w
  have S1 := hideS fun w => sub_is (z := di) hu hhi h (u64_op (by simp) q3 hhi) q5 hd w
  have M3 := hideS fun w => mul_is (z := loi) hf (v := 4461442080421002358) rfl uf (by unfold U64; omega) q4 hlo w
  have S2 := hideS fun w => sub_is (z := ri) hd hlo (u64_op (by simp) q5 hd) (u64_op (by simp) q4 hlo) q6 hr w
  have HH : Hid (∀ B v w, OwnF w B 48 uV v expL → Calls Tryz.prog 206 #[v, .int .u64 ri] w fun e w' => e = .returned (.int .u64 pi) ∧ Below w.heap.size w w') := fun B v w hO => by
    have := refHorner_any B 14 r v ri expL w hO expL_fit hr (u64_op (by simp) q6 hr) expL_len (by decide)
    rw [q7, cn_some, ← hp] at this; exact this
  have HO := hideS fun w => of_num p pi w hp (by rw [hp]; exact u64_of_nat p64) pn
  have HEnd : Hid (∀ neg N e, OfR p neg N e → nearM neg N (e + k) false = res ∧ N < 9007199254740992 ∧ -1074 ≤ e ∧ e ≤ 971) := fun neg N e ho => ⟨by rw [← hres]; exact exp_end ho p64 pn pv, ho.lt, ho.lo, ho.hi⟩
  clear h hn hl hl2 hu q1 q2 tn hK f1 f2 q3 q4 q5 q6 q7 pn p64 pv hres hy ht hf hhi hlo hd hr hp uf
  go_enter Tryz.func139, Tryz.ntmps139
  go_wp2_with fail
  refine (turned H.out).mono ?_
  rintro e w' ⟨rfl, rfl⟩
  go_wp2_with fail
  refine (HI.out _).mono ?_
  rintro e w1 ⟨rfl, hb⟩
  have B1 := hideS hb
  clear hb
  go_wp2_with fail
  refine (HL.out _).mono ?_
  rintro e w' ⟨rfl, rfl⟩
  go_wp2_with fail
  refine (HI2.out _).mono ?_
  rintro e w2 ⟨rfl, hb⟩
  have B2 := hideS (B1.out.trans (hb.mono B1.out.size))
  clear hb B1
  go_wp2_with fail
  refine (HL2.out _).mono ?_
  rintro e w' ⟨rfl, rfl⟩
  go_wp2_with fail
  refine (M1.out _).mono ?_
  rintro e w3 ⟨rfl, hb⟩
  have B3 := hideS (B2.out.trans (hb.mono B2.out.size))
  clear hb B2
  go_wp2_with fail
  refine (A1.out _).mono ?_
  rintro e w4 ⟨rfl, hb⟩
  have B4 := hideS (B3.out.trans (hb.mono B3.out.size))
  clear hb B3
  go_wp2_with fail
  refine (FL.out _).mono ?_
  rintro e w5 ⟨rfl, hb⟩
  have B5 := hideS (B4.out.trans (hb.mono B4.out.size))
  clear hb B4
  go_wp2_with fail
  refine (IK.out _).mono ?_
  rintro e w6 ⟨rfl, hb⟩
  have B6 := hideS (B5.out.trans (hb.mono B5.out.size))
  clear hb B5
  go_wp2_with fail
  refine (M2.out _).mono ?_
  rintro e w7 ⟨rfl, hb⟩
  have B7 := hideS (B6.out.trans (hb.mono B6.out.size))
  clear hb B6
  go_wp2_with fail
  refine (S1.out _).mono ?_
  rintro e w8 ⟨rfl, hb⟩
  have B8 := hideS (B7.out.trans (hb.mono B7.out.size))
  clear hb B7
  go_wp2_with fail
  refine (M3.out _).mono ?_
  rintro e w9 ⟨rfl, hb⟩
  have B9 := hideS (B8.out.trans (hb.mono B8.out.size))
  clear hb B8
  go_wp2_with fail
  refine (S2.out _).mono ?_
  rintro e w10 ⟨rfl, hb⟩
  have B10 := hideS (B9.out.trans (hb.mono B9.out.size))
  clear hb B9
  go_wp2_with fail
  refine (facts_any _).mono ?_
  rintro e w11 ⟨v, rfl, hO, hb⟩
  have B11 := hideS (B10.out.trans (hb.mono B10.out.size))
  have HO11 := hideS (HH.out _ _ _ hO)
  clear hb B10 hO HH
  go_wp2_with fail
  refine HO11.out.mono ?_
  rintro e w12 ⟨rfl, hb⟩
  have B12 := hideS (B11.out.trans (hb.mono B11.out.size))
  clear hb B11 HO11
  go_wp2_with fail
  refine (HO.out _).mono ?_
  rintro e w13 ⟨neg, vx, N, ee, rfl, hdx, hX, hb⟩
  obtain ⟨pp, l, c, rfl⟩ := hdx.shape
  obtain ⟨e1, e2, e3, e4⟩ := HEnd.out neg N ee hX
  have B13 := hideS (B12.out.trans (hb.mono B12.out.size))
  have HNr : Hid (Calls Tryz.prog 97 #[.agg #[.bool neg, .slice pp l c, .int .i64 (ee + k)]] (boxN w13 neg (.slice pp l c) (ee + k)) fun x w' => x = .returned (.int .u64 res) ∧ Below (boxN w13 neg (.slice pp l c) (ee + k)).heap.size (boxN w13 neg (.slice pp l c) (ee + k)) w') := by
    rw [← e1]
    exact near_agg neg _ (ee + k) N _ (hdx.below (boxN_below _ _ _ _)) (by have := nd_two e2; omega) (by omega) (by omega)
  have B14 := hideS (B13.out.trans ((boxN_below w13 neg (.slice pp l c) (ee + k)).mono B13.out.size))
  clear hb B12 hdx hX e1 e2 HEnd B13
  go_wp2_with fail
  refine HNr.out.mono ?_
  rintro e w15 ⟨rfl, hb⟩
  have B15 := hideS (B14.out.trans (hb.mono B14.out.size))
  clear hb B14
  go_wp2_with fail
  go_ret
  exact ⟨rfl, B15.out⟩
end Go.Proofs.YtkcnkhdbojdhgaaGreat
namespace Go.Proofs.YtkcnkhdbojdhgaaGreat
open Go.RowKit

theorem ag_lt {o : Option Nat} {r : Nat} (h : Ag o r) (ho : ∀ q, o = some q → q < 18446744073709551616) : r < 18446744073709551616 := by
  cases o with
  | none => exact (ag_none h).2
  | some q => rw [ag_some h]; exact ho q rfl
end Go.Proofs.YtkcnkhdbojdhgaaGreat
namespace Go.Proofs.YtkcnkhdbojdhgaaGreat
open Go.RowKit

structure Both (f g : Nat) (x : Nat) (u : Int) (y : Nat) (z : Int) : Prop where
  prog : ∀ w, Calls Tryz.prog f #[.float .f64 x] w fun e w' => e = .returned (.float .f64 y) ∧ Below w.heap.size w w'
  doc : ∀ w, Calls Tryz.prog g #[.int .u64 u] w fun e w' => e = .returned (.int .u64 z) ∧ Below w.heap.size w w'
  same : sameB (y : Int) z = true
  uy : U64 (y : Int)
  uz : U64 z
theorem to_below {f : Nat} {args : Array Value} {v : Value} {w : World} (h : Calls Tryz.prog f args w fun e w' => e = .returned v ∧ w' = w) : Calls Tryz.prog f args w fun e w' => e = .returned v ∧ Below w.heap.size w w' :=
  h.mono fun _ _ ⟨a, b⟩ => ⟨a, by rw [b]; exact Below.refl _ _⟩
theorem same_cast {y : Nat} {z : Int} (h : z = (y : Int)) : sameB (y : Int) z = true := by rw [h]; exact sameB_refl _
theorem joinN_lt (m e : Int) : joinN m e < 18446744073709551616 := by
  unfold joinN
  have h1 := nearR_le m.natAbs e
  split
  · decide
  · split <;> omega

theorem exp_bothP (x : Nat) (u : Int) (hu : u = (x : Int)) (h : U64 x) : ∃ y z, Both 271 139 x u y z ∧ (nanB (x : Int) = true → z = 9221120237041090561) ∧ (nanB (x : Int) = false → y ≤ 9218868437227405312 ∧ z = (y : Int)) := by
  have hx64 : x < 18446744073709551616 := by have := h.2; omega
  have h' : U64 u := by rw [hu]; exact h
  cases hn : nanB (x : Int) with
  | true => exact ⟨x, 9221120237041090561, ⟨fun w => to_below (exp_nan x w h hn), fun w => refExp_nan u w h' (by rw [hu]; exact hn), sameB_nan hn cn_nan, h, by unfold U64; omega⟩, fun _ => rfl, fun a => by cases a⟩
  | false =>
    have hn' : nanB u = false := by rw [hu]; exact hn
    have u1 : U64 ((4649456441864749056 : Nat) : Int) := by unfold U64; omega
    have u2 : U64 ((13873145138068324352 : Nat) : Int) := by unfold U64; omega
    have n1 : nanB ((4649456441864749056 : Nat) : Int) = false := by decide +kernel
    have n2 : nanB ((13873145138068324352 : Nat) : Int) = false := by decide +kernel
    have g1 := gt_rank h u1 hn n1
    have e1 := eq_rank h u1 hn n1
    have g2 := lt_rank h u2 hn n2
    have e2 := eq_rank h u2 hn n2
    have r1 : rankI ((4649456441864749056 : Nat) : Int) = 4649456441864749056 := by decide +kernel
    have r2 : rankI ((13873145138068324352 : Nat) : Int) = -4649773101213548544 := by decide +kernel
    have r1' : rankI (4649456441864749056 : Int) = 4649456441864749056 := by decide +kernel
    have r2' : rankI (13873145138068324352 : Int) = -4649773101213548544 := by decide +kernel
    rw [r1] at g1 e1
    rw [r2] at g2 e2
    by_cases c1 : 4649456441864749056 ≤ rankI (x : Int)
    · refine ⟨9218868437227405312, 9218868437227405312, ⟨fun w => to_below (exp_hi x _ _ w h hn g1 e1 ?_), fun w => refExp_hi u w h' hn' ?_, rfl, by unfold U64; omega, by unfold U64; omega⟩, fun a => (by cases a), fun _ => ⟨Nat.le_refl _, rfl⟩⟩
      · simp only [Bool.or_eq_true, decide_eq_true_eq]; omega
      · rw [r1', hu, decide_eq_false_iff_not]; omega
    have f1 : (FloatKind.f64.format.order x 4649456441864749056 == some .gt) = false := by rw [g1, decide_eq_false_iff_not]; omega
    have f2 : (FloatKind.f64.format.order x 4649456441864749056 == some .eq) = false := by rw [e1, decide_eq_false_iff_not]; omega
    have d1 : decide (rankI u < rankI 4649456441864749056) = true := by rw [r1', hu, decide_eq_true_eq]; omega
    by_cases c2 : rankI (x : Int) ≤ -4649773101213548544
    · refine ⟨0, 0, ⟨fun w => to_below (exp_lo x _ _ w h hn f1 f2 g2 e2 ?_), fun w => refExp_lo u w h' hn' d1 ?_, rfl, by unfold U64; omega, by unfold U64; omega⟩, fun a => (by cases a), fun _ => ⟨Nat.zero_le _, rfl⟩⟩
      · simp only [Bool.or_eq_true, decide_eq_true_eq]; omega
      · rw [r2', hu, decide_eq_false_iff_not]; omega
    have f3 : (FloatKind.f64.format.order x 13873145138068324352 == some .lt) = false := by rw [g2, decide_eq_false_iff_not]; omega
    have f4 : (FloatKind.f64.format.order x 13873145138068324352 == some .eq) = false := by rw [e2, decide_eq_false_iff_not]; omega
    have d2 : decide (rankI 13873145138068324352 < rankI u) = true := by rw [r2', hu, decide_eq_true_eq]; omega
    obtain ⟨K, g, hs⟩ := scale
    have hxn : NumB x := by
      have hl := nan_false hn
      rw [← sgn_rank hx64 hn] at c1 c2
      unfold NumB
      unfold sgn at c1 c2
      generalize x % 9223372036854775808 = r at *
      generalize (x / 9223372036854775808 % 2 == 1) = s at c1 c2
      cases s <;> simp only [Bool.false_eq_true, if_true, if_false] at c1 c2 <;> omega
    obtain ⟨w1, w2, w3⟩ := fi_worth hs (m := 710) (by decide) (by decide)
    obtain ⟨v1, v2, v3⟩ := fi_worth hs (m := -746) (by decide) (by decide)
    rw [c710] at w1 w2 w3
    rw [c746] at v1 v2 v3
    have b1 := rank_worth hxn w2 hx64 w3 (by rw [r1]; omega)
    have b2 := rank_worth v2 hxn v3 hx64 (by rw [r2]; omega)
    rw [w1] at b1
    rw [v1] at b2
    obtain ⟨y, t, hi, lo, d, r, k, q1, q2, tn, q3, kf1, kf2, k1, k2, q4, q5, q6, q7, rn, _, r1, r2⟩ := exp_chain hs hxn (by omega) (by omega)
    obtain ⟨p, p0, pn, p64, pv⟩ := horn_exp hs rn r1 r2
    obtain ⟨s1, s2, s3, s4⟩ := spl_of pn p64 pv
    refine ⟨joinN (splM p) (splE p + k), (joinN (splM p) (splE p + k) : Int), ⟨fun w => exp_mid x y t (fi k) hi lo d r p k w h hn f1 f2 f3 f4 q1 q2 (fun w => floor_at t _ w tn q3) q4 q5 q6 q7 p0 (u64_of_nat p64) (toInt_fi k1 k2) ⟨k1, k2⟩ ⟨s3, s4⟩ (spl_rng s1 s2), fun w => refExp_mid x y t hi lo d r p u k _ K w hu h' hn' d1 d2 q1 q2 tn hs.k kf1 kf2 k1 k2 q4 q5 q6 q7 p0 pn p64 pv rfl, same_cast rfl, u64_of_nat (joinN_lt _ _), u64_of_nat (joinN_lt _ _)⟩, fun a => (by cases a), fun _ => ⟨join_top s1, rfl⟩⟩

end Go.Proofs.YtkcnkhdbojdhgaaGreat
namespace Go.Proofs.YtkcnkhdbojdhgaaGreat
open Go.RowKit

theorem horn_nan {cs : List Nat} {x : Nat} (hx : nanB (x : Int) = true) (hl : 2 ≤ cs.length) : hornO cs x = none := by
  obtain ⟨k, hk⟩ : ∃ k, cs.length - 1 = k + 1 := ⟨cs.length - 2, by omega⟩
  unfold hornO
  rw [if_neg (by omega), hk]
  show stepO x (hornAt cs x k) _ = none
  unfold stepO
  cases hornAt cs x k with
  | none => rfl
  | some p =>
    show (floatBits .mul .f64 p x).bind _ = none
    rw [nan_right hx]; rfl
theorem horn_ag {cs : List Nat} {z : Option Nat} {x : Nat} (h : Ag z x) (hl : 2 ≤ cs.length) : (z.bind fun z => hornO cs z) = hornO cs x := by
  cases z with
  | none => rw [horn_nan (ag_none h).1 hl]; rfl
  | some r => rw [ag_some h]; rfl
def lnO (a b hi lo : Nat) : Option Nat :=
  opO .add (some hi) (opO .add (opO .mul (opO .mul (some 4611686018427387904) (floatBits .quo .f64 a b)) ((opO .mul (floatBits .quo .f64 a b) (floatBits .quo .f64 a b)).bind fun z => hornO lnL z)) (some lo))
theorem lnL_len : lnL.length = 11 := by decide
theorem ln_steps {a b hi lo s s2 z h v c r : Nat} (g3 : Ag (floatBits .quo .f64 a b) s) (g4 : Ag (floatBits .mul .f64 4611686018427387904 s) s2) (g5 : Ag (floatBits .mul .f64 s s) z) (g6 : Ag (hornO lnL z) h) (g7 : Ag (floatBits .mul .f64 s2 h) v) (g8 : Ag (floatBits .add .f64 v lo) c) (g9 : Ag (floatBits .add .f64 hi c) r) : Ag (lnO a b hi lo) r := by
  unfold lnO
  have e0 : Ag (some 4611686018427387904) 4611686018427387904 := rfl
  have e4 : Ag (opO .mul (some 4611686018427387904) (floatBits .quo .f64 a b)) s2 := by rw [opO_ag e0 g3]; exact g4
  have e5 : Ag (opO .mul (floatBits .quo .f64 a b) (floatBits .quo .f64 a b)) z := by rw [opO_ag g3 g3]; exact g5
  have e6 : Ag ((opO .mul (floatBits .quo .f64 a b) (floatBits .quo .f64 a b)).bind fun z => hornO lnL z) h := by rw [horn_ag e5 (by rw [lnL_len]; decide)]; exact g6
  have e7 : Ag (opO .mul (opO .mul (some 4611686018427387904) (floatBits .quo .f64 a b)) ((opO .mul (floatBits .quo .f64 a b) (floatBits .quo .f64 a b)).bind fun z => hornO lnL z)) v := by rw [opO_ag e4 e6]; exact g7
  have e8 := opO_ag (op := .add) (o' := some lo) (c := lo) e7 rfl
  rw [← e8] at g8
  have e9 := opO_ag (op := .add) (o := some hi) (a := hi) rfl g8
  rw [← e9] at g9
  exact g9

set_option maxRecDepth 20000 in
set_option maxHeartbeats 1600000 in
theorem ln_ag (x m a b kf hi lo : Nat) (k : Int) (w : World) (h : U64 x) (hn : nanB x = false) (hl : (FloatKind.f64.format.order x 0 == some .lt) = false) (he : (FloatKind.f64.format.order x 0 == some .eq) = false) (hi0 : (FloatKind.f64.format.order x 9218868437227405311 == some .gt) = false)
    (hA : Hid (∀ w, Calls Tryz.prog 290 #[.float .f64 x] w fun r w' => r = .returned (.tuple #[.float .f64 m, .int .i64 k]) ∧ ∃ q, w' = w.drewN q))
    (q1 : floatBits .sub .f64 m 4607182418800017408 = some a) (q2 : floatBits .add .f64 m 4607182418800017408 = some b) (hkf : fi k = kf) (q8 : floatBits .mul .f64 kf 4604418534311723008 = some hi) (q9 : floatBits .mul .f64 kf 4461442080421002358 = some lo) :
    Calls Tryz.prog 272 #[.float .f64 x] w fun e w' => ∃ r, e = .returned (.float .f64 r) ∧ Ag (lnO a b hi lo) r ∧ Below w.heap.size w w' := by
  have H := hideS (isNaN_math x w h)
  rw [hn] at H
  have HI := hideS (isInf_pos x false w hi0)
  have r1 := fun w => run_float_arith (P := Tryz.prog) w .sub 45 .f64 _ _ _ q1
  have r2 := fun w => run_float_arith (P := Tryz.prog) w .add 45 .f64 _ _ _ q2
  have hfo := (floatOf_fi k).trans hkf
  have HL : Hid (∀ w, Calls Tryz.prog 287 #[.float .f64 kf] w fun e w' => e = .returned (.tuple #[.float .f64 hi, .float .f64 lo]) ∧ w' = w) := fun w => logs_at kf hi lo w q8 q9
  clear h hn q1 q2 q8 q9 hi0 hkf
  go_enter Tryz.func272, Tryz.ntmps272
  go_wp2_with fail
  refine (turned H.out).mono ?_
  rintro e w' ⟨rfl, rfl⟩
  clear H
  go_wp2_with fail
  refine (turned HI.out).mono ?_
  rintro e w' ⟨rfl, rfl⟩
  clear HI
  go_wp2_with fail
  refine (hA.out _).mono ?_
  rintro e w' ⟨rfl, q, hw'⟩
  have B0 : Hid (Below w.heap.size w w') := by rw [hw']; exact ⟨rfl, rfl, rfl, Nat.le_refl _, fun _ _ => rfl⟩
  clear hw'
  obtain ⟨s, ⟨q3, r3⟩, g3⟩ := run_op_ag .quo (by simp) 45 a b w'
  obtain ⟨s2, ⟨q4, r4⟩, g4⟩ := run_op_ag .mul (by simp) 45 4611686018427387904 s (w'.drewN q3)
  have G3 := hideS g3
  have G4 := hideS g4
  clear g3 g4
  go_wp2_with fail
  obtain ⟨w2, hw2⟩ : ∃ w2, w2 = w'.drewN (q3 + q4) := ⟨_, rfl⟩
  rw [← hw2]
  have B2 : Hid (Below w.heap.size w w2) := by rw [hw2]; exact ⟨B0.out.os, B0.out.tape, B0.out.output, B0.out.size, B0.out.block⟩
  clear hw2 r3 r4 B0
  have HT := hideS (lnTerms_any w2)
  refine HT.out.mono ?_
  rintro e w3 ⟨rfl, hs, hb⟩
  have B3 : Hid (Below w.heap.size w w3) := B2.out.trans (hb.mono B2.out.size)
  obtain ⟨z, ⟨q5, r5⟩, g5⟩ := run_op_ag .mul (by simp) 45 s s w3
  have HH : Hid (Calls Tryz.prog 288 #[.slice (some ⟨w2.heap.size, 0, none⟩) 11 11, .float .f64 z] (w3.drewN q5) fun e w4 => ∃ r', e = .returned (.float .f64 r') ∧ Ag (hornO lnL z) r' ∧ ∃ q, w4 = (w3.drewN q5).drewN q) := horner_any _ w2.heap.size 0 11 z 11 lnL (w3.drewN q5) (hs.below ⟨rfl, rfl, rfl, Nat.le_refl _, fun _ _ => rfl⟩) rfl (by decide)
  have G5 := hideS g5
  clear hs hb HT B2 g5
  go_wp2_with fail
  refine HH.out.mono ?_
  rintro e w4 ⟨h', rfl, hag, q6, hw4⟩
  have B4 : Hid (Below w.heap.size w w4) := by rw [hw4]; exact ⟨B3.out.os, B3.out.tape, B3.out.output, B3.out.size, B3.out.block⟩
  obtain ⟨v, ⟨q7, r7⟩, g7⟩ := run_op_ag .mul (by simp) 45 s2 h' w4
  have G6 := hideS hag
  have G7 := hideS g7
  clear hag g7 hw4 HH B3 r5
  go_wp2_with fail
  obtain ⟨w5, hw5⟩ : ∃ w5, w5 = w4.drewN q7 := ⟨_, rfl⟩
  rw [← hw5]
  have B5 : Hid (Below w.heap.size w w5) := by rw [hw5]; exact ⟨B4.out.os, B4.out.tape, B4.out.output, B4.out.size, B4.out.block⟩
  clear hw5 r7 B4
  refine (turned (HL.out _)).mono ?_
  rintro e w' ⟨rfl, rfl⟩
  obtain ⟨c, ⟨q8, r8⟩, g8⟩ := run_op_ag .add (by simp) 45 v lo w5
  obtain ⟨r, ⟨q9, r9⟩, g9⟩ := run_op_ag .add (by simp) 45 hi c (w5.drewN q8)
  have GE := hideS (ln_steps G3.out G4.out G5.out G6.out G7.out g8 g9)
  clear g8 g9 G3 G4 G5 G6 G7
  go_wp2_with fail
  go_ret
  exact ⟨r, rfl, GE.out, ⟨B5.out.os, B5.out.tape, B5.out.output, B5.out.size, B5.out.block⟩⟩
end Go.Proofs.YtkcnkhdbojdhgaaGreat
namespace Go.Proofs.YtkcnkhdbojdhgaaGreat
open Go.RowKit

def oneB (N : Nat) : Nat := 4602678819172646912 + N * 2 ^ (52 - N.log2)
theorem oneB_parts {N : Nat} (h0 : N ≠ 0) (h : N < 9007199254740992) : 4503599627370496 ≤ N * 2 ^ (52 - N.log2) ∧ N * 2 ^ (52 - N.log2) < 9007199254740992 := by
  have hl : N.log2 ≤ 52 := by have := (Nat.log2_lt h0).2 (show N < 2 ^ 53 from h); omega
  have a := Nat.log2_self_le h0
  have b : N < 2 ^ (N.log2 + 1) := Nat.lt_log2_self
  constructor
  · have := Nat.mul_le_mul_right (2 ^ (52 - N.log2)) a
    rw [← Nat.pow_add, show N.log2 + (52 - N.log2) = 52 by omega] at this; exact this
  · have := Nat.mul_lt_mul_of_pos_right b (Nat.two_pow_pos (52 - N.log2))
    rw [← Nat.pow_add, show N.log2 + 1 + (52 - N.log2) = 53 by omega] at this; exact this
theorem oneB_near {N : Nat} (h0 : N ≠ 0) (h : N < 9007199254740992) : nearR N (-(N.log2 : Int)) = oneB N := by
  have hl : N.log2 ≤ 52 := by have := (Nat.log2_lt h0).2 (show N < 2 ^ 53 from h); omega
  obtain ⟨p1, p2⟩ := oneB_parts h0 h
  have e := nearR_scale h0 (52 - N.log2) (-(N.log2 : Int))
  rw [show -(N.log2 : Int) - ((52 - N.log2 : Nat) : Int) = -52 by omega] at e
  rw [← e]
  unfold oneB
  generalize N * 2 ^ (52 - N.log2) = k at *
  have m1 : mg (4602678819172646912 + k) = k := by unfold mg; rw [if_neg (by omega)]; omega
  have m2 : pl (4602678819172646912 + k) = 1022 := by unfold pl; omega
  have := nearR_mg (r := 4602678819172646912 + k) (by omega) (by omega)
  rw [m1, m2] at this
  exact this
theorem oneB_rng {N : Nat} (h0 : N ≠ 0) (h : N < 9007199254740992) : 4607182418800017408 ≤ oneB N ∧ oneB N < 4611686018427387904 := by
  obtain ⟨p1, p2⟩ := oneB_parts h0 h
  unfold oneB; omega
theorem half_V {r : Nat} (h : 9007199254740992 ≤ r) : V r = 2 * V (r - 4503599627370496) ∧ mg (r - 4503599627370496) = mg r ∧ pl r = pl (r - 4503599627370496) + 1 := by
  have e1 : mg (r - 4503599627370496) = mg r := by unfold mg; rw [if_neg (by omega), if_neg (by omega)]; omega
  have e2 : pl r = pl (r - 4503599627370496) + 1 := by unfold pl; omega
  refine ⟨?_, e1, e2⟩
  unfold V
  rw [e1, e2, Nat.pow_succ, ← Nat.mul_assoc, Nat.mul_comm]
theorem ne_mul_pow {v K : Nat} (h : v ≠ 0) : v * 2 ^ K ≠ 0 := Nat.mul_ne_zero h (Nat.pos_iff_ne_zero.1 (Nat.two_pow_pos K))
theorem wrd_plain (x : Nat) : wrd (false ^^ false) x = x := rfl
theorem half_mul {r : Nat} (h : 9007199254740992 ≤ r) (h2 : r < 9218868437227405312) : floatBits .mul .f64 r 4602678819172646912 = some (r - 4503599627370496) := by
  obtain ⟨K, hK⟩ : ∃ K : Nat, K = 1074 := ⟨_, rfl⟩
  have hP : P2 (-1) = 4602678819172646912 := by decide +kernel
  obtain ⟨a1, a2, _⟩ := P2_num (k := -1) (by omega) (by omega)
  have a3 := aV_P2 (k := -1) (by omega) (by omega)
  rw [hP] at a1 a2 a3
  have hr : NumB r := by unfold NumB; omega
  rw [mul_num hr a1, a2, a3]
  refine congrArg some ?_
  have hs : sB r = false := by unfold sB; rw [show r / 9223372036854775808 = 0 by omega]; rfl
  have ha : aV r = V r := by unfold aV; rw [Nat.mod_eq_of_lt (by omega)]
  have hT : V r * 2 ^ ((-1 : Int) + 1074).toNat = V (r - 4503599627370496) * 2 ^ K := by
    rw [(half_V h).1, show ((-1 : Int) + 1074).toNat = K - 1 by omega, show K = (K - 1) + 1 by omega, Nat.pow_succ, Nat.add_sub_cancel, Nat.mul_comm 2, Nat.mul_assoc, Nat.mul_comm 2]
  rw [ha, hT, hs]
  unfold mulR
  have hv : V (r - 4503599627370496) ≠ 0 := fun e => by have := zero_V2 e; omega
  rw [if_neg (ne_mul_pow hv)]
  have := nearR_V (r := r - 4503599627370496) (by omega) K
  rw [show (-1074 - (K : Int)) = -2148 by omega] at this
  rw [this]; exact wrd_plain _
theorem half_quo {r : Nat} (h : 9007199254740992 ≤ r) (h2 : r < 9218868437227405312) : floatBits .quo .f64 r 4611686018427387904 = some (r - 4503599627370496) := by
  have hr : NumB r := by unfold NumB; omega
  have hm : r % 9223372036854775808 = r := Nat.mod_eq_of_lt (by omega)
  have hX0 : mg r ≠ 0 := mg_pos (by omega)
  have hXg : 4503599627370496 ≤ mg r := mg_ge (by omega)
  have hlg : 52 ≤ (mg r).log2 := (Nat.le_log2 hX0).2 hXg
  have hY : mg (4611686018427387904 % 9223372036854775808) = 4503599627370496 := by decide
  have hpY : pl (4611686018427387904 % 9223372036854775808) = 1023 := by decide
  have hYl : Nat.log2 4503599627370496 = 52 := by decide
  have e := quo_num (x := r) (y := 4611686018427387904) hr (by unfold NumB; decide) (by omega) (by decide) (X := mg r) (Y := 4503599627370496) (ex := -1074 + (pl r : Int)) (ey := -51) (by rw [hm]) hY.symm (by rw [hm]) (by rw [hpY]; rfl) (k := 54) (by rw [hYl]; omega)
  rw [e]
  refine congrArg some ?_
  have hq : quoS (mg r) 4503599627370496 54 = mg r * 2 ^ 3 := by
    unfold quoS
    rw [show (2 : Nat) ^ 54 = 4 * 4503599627370496 from rfl, ← Nat.mul_assoc, Nat.mul_div_cancel _ (by decide), Nat.mul_mod_left, if_pos rfl]; omega
  have hs : sB r = false := by unfold sB; rw [show r / 9223372036854775808 = 0 by omega]; rfl
  have hs2 : sB 4611686018427387904 = false := by decide
  rw [hq, hs, hs2]
  obtain ⟨v1, v2, v3⟩ := half_V h
  have e2 := nearR_scale hX0 3 (-1074 + (pl r : Int) - 1)
  rw [show -1074 + (pl r : Int) - 1 - ((3 : Nat) : Int) = -1074 + (pl r : Int) - -51 - 1 - ((54 : Nat) : Int) by omega] at e2
  rw [e2, ← v2, v3, show -1074 + ((pl (r - 4503599627370496) + 1 : Nat) : Int) - 1 = -1074 + (pl (r - 4503599627370496) : Int) by omega, nearR_mg (by omega) (by omega)]
  exact wrd_plain _

def lnM (N : Nat) : Nat := if 4609047870845172685 < oneB N then oneB N - 4503599627370496 else oneB N
def lnK (N : Nat) (e : Int) : Int := if 4609047870845172685 < oneB N then e + (N.log2 : Int) + 1 else e + (N.log2 : Int)
theorem lnM_num {N : Nat} (h0 : N ≠ 0) (h : N < 9007199254740992) : NumB (lnM N) ∧ lnM N < 9218868437227405312 := by
  obtain ⟨a, b⟩ := oneB_rng h0 h
  unfold lnM NumB
  split <;> omega
theorem gt_bits {m : Nat} (h : m < 9218868437227405312) : (FloatKind.f64.format.order m 4609047870845172685 == some .gt) = decide (4609047870845172685 < m) := by
  have u1 : U64 (m : Int) := by unfold U64; omega
  have u2 : U64 ((4609047870845172685 : Nat) : Int) := by unfold U64; omega
  have r1 := rank_small (b := m) h
  have r2 := rank_small (b := 4609047870845172685) (by decide)
  rw [gt_rank u1 u2 r1.2.1 r2.2.1, r1.2.2, r2.2.2]
  exact decide_eq_decide.2 (by omega)

theorem about1_any (x N : Nat) (e : Int) (hx : U64 x) (hn : NumB x) (ho : OfR x false N e) (h0 : N ≠ 0) (w : World) :
    Calls Tryz.prog 290 #[.float .f64 x] w fun r w' => r = .returned (.tuple #[.float .f64 (lnM N), .int .i64 (lnK N e)]) ∧ ∃ q, w' = w.drewN q := by
  have hx64 : x < 18446744073709551616 := by have := hx.2; omega
  obtain ⟨s1, s2, _⟩ := split_of ho hx64 hn h0
  have hlt := ho.lt
  have hlo := ho.lo
  have hhi := ho.hi
  have hl : N.log2 ≤ 52 := by have := (Nat.log2_lt h0).2 (show N < 2 ^ 53 from hlt); omega
  have hS : Hid (∀ w, Calls Tryz.prog 80 #[.float .f64 x] w fun r w' => r = .returned (.tuple #[.int .i64 (N : Int), .int .i64 e, .bool (splOk (x : Int))]) ∧ w' = w) := fun w => by
    have := split_as x x w rfl hx
    rw [s1, s2] at this; exact this
  have hL : Hid (∀ w, Calls Tryz.prog 125 #[.int .u64 (N : Int)] w fun r w' => r = .returned (.int .i64 ((N.log2 : Int) + 1)) ∧ w' = w) := fun w => by
    have := Tryz.bits_Len (N : Int) w (by omega) (by omega)
    rw [Int.toNat_natCast, bitLen_log2 h0 (by omega)] at this
    exact this
  have hJ : Hid (∀ w, Calls Tryz.prog 104 #[.int .i64 (N : Int), .int .i64 (1 - ((N.log2 : Int) + 1))] w fun r w' => r = .returned (.float .f64 (oneB N)) ∧ ∃ q, w' = w.drewN q) := fun w => by
    have := join_any (N : Int) (1 - ((N.log2 : Int) + 1)) w (by omega) (by omega)
    have e : joinN (N : Int) (1 - ((N.log2 : Int) + 1)) = oneB N := by
      unfold joinN
      rw [if_neg (by omega), if_neg (by omega), Int.natAbs_natCast, show 1 - ((N.log2 : Int) + 1) = -(N.log2 : Int) by omega, oneB_near h0 hlt]
    rw [e] at this; exact this
  obtain ⟨o1, o2⟩ := oneB_rng h0 hlt
  have := about1_at x (oneB N) (oneB N - 4503599627370496) (N : Int) e ((N.log2 : Int) + 1) _ _ w hS (by omega) (by omega) hL (by omega) hJ (gt_bits (by omega)) (half_quo (by omega) (by omega))
  refine this.mono ?_
  rintro r w' ⟨rfl, hq⟩
  refine ⟨?_, hq⟩
  unfold lnM lnK
  by_cases c : 4609047870845172685 < oneB N
  · rw [if_pos c, if_pos c, decide_eq_true c]
    simp only [if_true]
    rw [show e + ((N.log2 : Int) + 1) = e + (N.log2 : Int) + 1 by omega]
  · rw [if_neg c, if_neg c, decide_eq_false c]
    simp only [Bool.false_eq_true, if_false]
    rw [show e + ((N.log2 : Int) + 1) - 1 = e + (N.log2 : Int) by omega]
end Go.Proofs.YtkcnkhdbojdhgaaGreat
namespace Go.Proofs.YtkcnkhdbojdhgaaGreat
open Go.RowKit

theorem opO_cn (op : BinOp) (o o' : Option Nat) : floatBits op .f64 (cn o) (cn o') = opO op o o' := (opO_ag (ag_cn o) (ag_cn o')).symm

theorem opO_lt {op : BinOp} (ho : op = .add ∨ op = .sub ∨ op = .mul ∨ op = .quo) (o o' : Option Nat) : cn (opO op o o') < 18446744073709551616 := by rw [← opO_cn]; exact cn_lt ho _ _

theorem mul_cn {o o' : Option Nat} {u v z : Int} (hu : u = (cn o : Int)) (hv : v = (cn o' : Int)) (h : U64 u) (h' : U64 v) (hz : z = (cn (opO .mul o o') : Int)) (w : World) :
    Calls Tryz.prog 47 #[.int .u64 u, .int .u64 v] w fun e w' => e = .returned (.int .u64 z) ∧ Below w.heap.size w w' := by
  have := refMul_any (cn o) (cn o') u v w hu hv h h'
  rw [opO_cn, ← hz] at this; exact this

theorem add_cn {o o' : Option Nat} {u v z : Int} (hu : u = (cn o : Int)) (hv : v = (cn o' : Int)) (h : U64 u) (h' : U64 v) (hz : z = (cn (opO .add o o') : Int)) (w : World) :
    Calls Tryz.prog 46 #[.int .u64 u, .int .u64 v] w fun e w' => e = .returned (.int .u64 z) ∧ Below w.heap.size w w' := by
  have := refAdd_any (cn o) (cn o') u v w hu hv h h'
  rw [opO_cn, ← hz] at this; exact this

end Go.Proofs.YtkcnkhdbojdhgaaGreat
namespace Go.Proofs.YtkcnkhdbojdhgaaGreat
open Go.RowKit

theorem lnL_fit : FitL lnL := by unfold FitL; decide
theorem horn_fit {cs : List Nat} {x : Nat} (hf : FitL cs) : ∀ k q, hornAt cs x k = some q → q < 18446744073709551616
  | 0, q, h => by
    have : cs.getD (cs.length - 1) 0 = q := Option.some.inj h
    rw [← this]; exact hf.get _
  | k + 1, q, h => by
    have h2 : stepO x (hornAt cs x k) (cs.getD (cs.length - 2 - k) 0) = some q := h
    rw [← stepO_cn] at h2
    exact float_lt (by simp) h2
theorem cn_horn_lt {cs : List Nat} {x : Nat} (hf : FitL cs) : cn (hornO cs x) < 18446744073709551616 := by
  cases h : hornO cs x with
  | none => decide
  | some q =>
    unfold hornO at h
    split at h
    · have : 0 = q := Option.some.inj h
      show q < _
      omega
    · exact horn_fit hf _ q h

theorem lnTerm (k : Nat) (hk : k < 11) : ∃ fz xi : Int, Hid (∀ w, Calls Tryz.prog 203 #[.int .i64 (2 * (k : Int) + 1)] w fun e w' => e = .returned (.int .u64 fz) ∧ Below w.heap.size w w') ∧
    Hid (∀ w, Calls Tryz.prog 66 #[.int .u64 4607182418800017408, .int .u64 fz] w fun e w' => e = .returned (.int .u64 xi) ∧ Below w.heap.size w w') ∧ Hid (Value.int IntKind.u64 xi = uV (lnL.getD k 0)) := by
  refine ⟨(fi (2 * (k : Int) + 1) : Int), (lnL.getD k 0 : Int), fun w => refInt_any _ w (by omega) (by omega), fun w => ?_, rfl⟩
  have := refDiv_any 4607182418800017408 (fi (2 * (k : Int) + 1)) 4607182418800017408 _ w rfl rfl (by unfold U64; omega) (u64_of_nat (aV_fi (a := 2 * (k : Int) + 1) rfl (by omega) (by omega)).2.2.2)
  have e := ln_row k hk
  rw [show ((2 * k + 1 : Nat) : Int) = 2 * (k : Int) + 1 by omega] at e
  rw [e, cn_some] at this; exact this

set_option maxRecDepth 20000 in
set_option maxHeartbeats 3200000 in
theorem refLn_mid (x N a b hi lo : Nat) (u e res : Int) (w : World) (hu : u = (x : Int)) (h : U64 u) (hn : nanB u = false) (hsg : sgB u = false) (hz : (szI u == 0) = false) (hinf : infB u = false) (hxn : NumB x) (ho : OfR x false N e) (h0 : N ≠ 0)
    (q1 : floatBits .sub .f64 (lnM N) 4607182418800017408 = some a) (q2 : floatBits .add .f64 (lnM N) 4607182418800017408 = some b) (q8 : floatBits .mul .f64 (fi (lnK N e)) 4604418534311723008 = some hi) (q9 : floatBits .mul .f64 (fi (lnK N e)) 4461442080421002358 = some lo) (hres : (cn (lnO a b hi lo) : Int) = res) :
    Calls Tryz.prog 140 #[.int .u64 u] w fun e w' => e = .returned (.int .u64 res) ∧ Below w.heap.size w w' := by
  have hlt := ho.lt
  have hlo := ho.lo
  have hhi := ho.hi
  have hlg : N.log2 ≤ 52 := by have := (Nat.log2_lt h0).2 (show N < 2 ^ 53 from hlt); omega
  obtain ⟨o1, o2⟩ := oneB_rng h0 hlt
  obtain ⟨i0, hi0, hz0, hz1, hz2⟩ := info_parts infoU
  have HN := hideS (refNaN_any u · h)
  rw [hn] at HN
  have HNg : Hid (∀ w, Calls Tryz.prog 143 #[.int .u64 u] w fun e w' => e = .returned (.bool false) ∧ w' = w) := fun w => by
    have := refNegative_any u w
    rw [hsg] at this; exact this
  have HSz := hideS (refSize_any u · h)
  have HI := hideS (refInf_any u · h)
  rw [hinf] at HI
  have HOf : Hid (∀ w, Calls Tryz.prog 91 #[.int .u64 u] w fun r w' => ∃ v, r = .returned (.agg #[.bool false, v, .int .i64 e]) ∧ DN w' v N ∧ Below w.heap.size w w') := fun w => by
    refine (of_num x u w hu h hxn).mono ?_
    rintro r w' ⟨neg, v, N', e', rfl, hd, ho', hb⟩
    have hN' : N' ≠ 0 := by
      intro c
      have v1 := ho'.val
      have v2 := ho.val
      rw [c, Nat.zero_mul] at v1
      rw [← v1] at v2
      rcases Nat.mul_eq_zero.1 v2 with c | c
      · exact h0 c
      · have := Nat.two_pow_pos (e + 1074).toNat; omega
    obtain ⟨m1, m2⟩ := ho'.mag hN'
    obtain ⟨n1, n2⟩ := ho.mag h0
    have e1 : N' = N := by rw [m1, n1]
    have e2 : e' = e := by rw [m2, n2]
    have e3 : neg = false := by rw [ho'.sgn hN', ← ho.sgn h0]
    subst e1 e2 e3
    exact ⟨v, rfl, hd, hb⟩
  obtain ⟨Bl, hBl⟩ : ∃ Bl : Int, (bl N : Int) = Bl := ⟨_, rfl⟩
  have hBl2 : Bl = (N.log2 : Int) + 1 := by rw [← hBl, bl_pos h0]; rfl
  obtain ⟨k0, hk0⟩ : ∃ k0 : Int, Bl - 1 + e = k0 := ⟨_, rfl⟩
  have f1 : IntKind.i64.wrap (Bl - 1) = Bl - 1 := by rw [IntKind.wrap_i64]; omega
  have f2 : IntKind.i64.wrap (Bl - 1 + e) = k0 := by rw [IntKind.wrap_i64]; omega
  have hk1 : -1100 ≤ k0 := by omega
  have hk2 : k0 ≤ 1100 := by omega
  obtain ⟨m0, hm0⟩ : ∃ m0 : Int, m0 = (oneB N : Int) := ⟨_, rfl⟩
  have HNr : Hid (∀ v w, DN w v N → Calls Tryz.prog 97 #[.agg #[.bool false, v, .int .i64 (e - k0)]] w fun r w' => r = .returned (.int .u64 m0) ∧ Below w.heap.size w w') := fun v w hd => by
    have := near_agg false v (e - k0) N w hd (by have := nd_two hlt; omega) (by omega) (by omega)
    rw [nearM_eq false _ h0, if_neg (by decide), Int.zero_add, show e - k0 = -(N.log2 : Int) by omega, oneB_near h0 hlt, ← hm0, ← show e - k0 = -(N.log2 : Int) by omega] at this
    exact this
  have um0 : U64 m0 := by rw [hm0]; exact u64_of_nat (by omega)
  obtain ⟨g, hg⟩ : ∃ g, decide (4609047870845172685 < oneB N) = g := ⟨_, rfl⟩
  have HLt : Hid (∀ w, Calls Tryz.prog 62 #[.int .u64 4609047870845172685, .int .u64 m0] w fun r w' => r = .returned (.bool g) ∧ w = w') := fun w => by
    have r1 := rank_small (b := oneB N) (by omega)
    have r2 := rank_small (b := 4609047870845172685) (by decide)
    refine refLt_at 4609047870845172685 m0 g w (by unfold U64; omega) um0 (by decide) (by rw [hm0]; exact r1.2.1) ?_
    rw [hm0, r1.2.2, show rankI (4609047870845172685 : Int) = 4609047870845172685 from r2.2.2, ← hg]
    exact decide_eq_decide.2 (by omega)
  obtain ⟨mi, hmi⟩ : ∃ mi : Int, mi = (lnM N : Int) := ⟨_, rfl⟩
  have umi : U64 mi := by rw [hmi]; exact u64_of_nat (by have := (lnM_num h0 hlt).2; omega)
  have HHf : Hid (g = true → ∀ w, Calls Tryz.prog 47 #[.int .u64 m0, .int .u64 4602678819172646912] w fun r w' => r = .returned (.int .u64 mi) ∧ Below w.heap.size w w') := fun c w => by
    have hc : 4609047870845172685 < oneB N := by rw [c] at hg; exact of_decide_eq_true hg
    exact mul_is (z := mi) hm0 (v := 4602678819172646912) rfl um0 (by unfold U64; omega) (half_mul (by omega) (by omega)) (by rw [hmi]; unfold lnM; rw [if_pos hc]) w
  have hmg : g = false → m0 = mi := fun c => by
    have hc : ¬ 4609047870845172685 < oneB N := by rw [c] at hg; exact of_decide_eq_false hg
    rw [hm0, hmi]; unfold lnM; rw [if_neg hc]
  have hkk : (if g then k0 + 1 else k0) = lnK N e := by
    unfold lnK
    rw [← hg]
    by_cases c : 4609047870845172685 < oneB N
    · rw [if_pos c, decide_eq_true c, if_pos rfl]; omega
    · rw [if_neg c, decide_eq_false c, if_neg (by decide)]; omega
  obtain ⟨ai, hai⟩ : ∃ ai : Int, ai = (a : Int) := ⟨_, rfl⟩
  obtain ⟨bi, hbi⟩ : ∃ bi : Int, bi = (b : Int) := ⟨_, rfl⟩
  obtain ⟨hii, hhi⟩ : ∃ hii : Int, hii = (hi : Int) := ⟨_, rfl⟩
  obtain ⟨loi, hloi⟩ : ∃ loi : Int, loi = (lo : Int) := ⟨_, rfl⟩
  obtain ⟨fz, hfz⟩ : ∃ fz : Int, fz = (fi (lnK N e) : Int) := ⟨_, rfl⟩
  have ufz : U64 fz := by rw [hfz]; exact u64_of_nat (aV_fi (a := lnK N e) rfl (by rw [← hkk]; split <;> omega) (by rw [← hkk]; split <;> omega)).2.2.2
  obtain ⟨so, hso⟩ : ∃ so, floatBits .quo .f64 a b = so := ⟨_, rfl⟩
  obtain ⟨si, hsi⟩ : ∃ si : Int, si = (cn so : Int) := ⟨_, rfl⟩
  have usi : U64 si := by rw [hsi, ← hso]; exact u64_of_nat (cn_lt (by simp) _ _)
  obtain ⟨zi, hzi⟩ : ∃ zi : Int, zi = (cn (opO .mul so so) : Int) := ⟨_, rfl⟩
  have uzi : U64 zi := by rw [hzi]; exact u64_of_nat (opO_lt (by simp) _ _)
  obtain ⟨ti, hti⟩ : ∃ ti : Int, ti = (cn (opO .mul (some 4611686018427387904) so) : Int) := ⟨_, rfl⟩
  have uti : U64 ti := by rw [hti]; exact u64_of_nat (opO_lt (by simp) _ _)
  obtain ⟨vi, hvi⟩ : ∃ vi : Int, vi = (cn ((opO .mul so so).bind fun z => hornO lnL z) : Int) := ⟨_, rfl⟩
  have hvi2 : vi = (cn (hornO lnL (cn (opO .mul so so))) : Int) := by rw [hvi, horn_ag (ag_cn _) (by rw [lnL_len]; decide)]
  have uvi : U64 vi := by rw [hvi2]; exact u64_of_nat (cn_horn_lt lnL_fit)
  obtain ⟨pi, hpi⟩ : ∃ pi : Int, pi = (cn (opO .mul (opO .mul (some 4611686018427387904) so) ((opO .mul so so).bind fun z => hornO lnL z)) : Int) := ⟨_, rfl⟩
  have upi : U64 pi := by rw [hpi]; exact u64_of_nat (opO_lt (by simp) _ _)
  obtain ⟨ci, hci⟩ : ∃ ci : Int, ci = (cn (opO .add (opO .mul (opO .mul (some 4611686018427387904) so) ((opO .mul so so).bind fun z => hornO lnL z)) (some lo)) : Int) := ⟨_, rfl⟩
  have uci : U64 ci := by rw [hci]; exact u64_of_nat (opO_lt (by simp) _ _)
  have hres2 : res = (cn (opO .add (some hi) (opO .add (opO .mul (opO .mul (some 4611686018427387904) so) ((opO .mul so so).bind fun z => hornO lnL z)) (some lo))) : Int) := by rw [← hres, ← hso]; rfl
  have HS := hideS fun w => sub_is (z := ai) hmi (v := 4607182418800017408) rfl umi (by unfold U64; omega) q1 hai w
  have HA := hideS fun w => add_is (z := bi) hmi (v := 4607182418800017408) rfl umi (by unfold U64; omega) q2 hbi w
  have uai : U64 ai := u64_op (by simp) q1 hai
  have ubi : U64 bi := u64_op (by simp) q2 hbi
  have HD : Hid (∀ w, Calls Tryz.prog 66 #[.int .u64 ai, .int .u64 bi] w fun r w' => r = .returned (.int .u64 si) ∧ Below w.heap.size w w') := fun w => by
    have := refDiv_any a b ai bi w hai hbi uai ubi
    rw [hso, ← hsi] at this; exact this
  have HZ := hideS fun w => mul_cn hsi hsi usi usi hzi w
  have HT := hideS fun w => mul_cn (o := some 4611686018427387904) (u := 4611686018427387904) rfl hsi (by unfold U64; omega) usi hti w
  have HH : Hid (∀ B v w, OwnF w B 48 uV v lnL → Calls Tryz.prog 206 #[v, .int .u64 zi] w fun e w' => e = .returned (.int .u64 vi) ∧ Below w.heap.size w w') := fun B v w hO => by
    have := refHorner_any B 11 (cn (opO .mul so so)) v zi lnL w hO lnL_fit hzi uzi lnL_len (by decide)
    rw [← hvi2] at this; exact this
  have HP := hideS fun w => mul_cn hti hvi uti uvi hpi w
  have HIn : Hid (∀ w, Calls Tryz.prog 203 #[.int .i64 (if g then k0 + 1 else k0)] w fun e w' => e = .returned (.int .u64 fz) ∧ Below w.heap.size w w') := fun w => by
    rw [hkk]
    exact refInt_at (lnK N e) fz w (by rw [← hkk]; split <;> omega) (by rw [← hkk]; split <;> omega) hfz.symm
  have HM1 := hideS fun w => mul_is (z := hii) hfz (v := 4604418534311723008) rfl ufz (by unfold U64; omega) q8 hhi w
  have HM2 := hideS fun w => mul_is (z := loi) hfz (v := 4461442080421002358) rfl ufz (by unfold U64; omega) q9 hloi w
  have HC := hideS fun w => add_cn (o' := some lo) hpi (v := loi) hloi upi (u64_op (by simp) q9 hloi) hci w
  have HR := hideS fun w => add_cn (o := some hi) (u := hii) hhi hci (u64_op (by simp) q8 hhi) uci hres2 w
  have HBl := hideS hBl
  have HNl := hideS hlt
  clear h hn hsg hinf hu hxn ho h0 q1 q2 q8 q9 hres hlg hlt o1 o2 hBl hBl2 hm0 um0 hmi umi hkk hai hbi hhi hloi hfz ufz hso hsi usi hzi uzi hti uti hvi hvi2 uvi hpi upi hci uci hres2 uai ubi hg hk0
  go_enter Tryz.func140, Tryz.ntmps140
  go_wp2_with fail
  refine (turned (HN.out _)).mono ?_
  rintro e w' ⟨rfl, rfl⟩
  go_wp2_with fail
  refine (turned (HNg.out _)).mono ?_
  rintro e w' ⟨rfl, rfl⟩
  go_wp2_with fail
  refine (turned (HSz.out _)).mono ?_
  rintro e w' ⟨rfl, rfl⟩
  go_wp2_with fail
  refine (turned (HI.out _)).mono ?_
  rintro e w' ⟨rfl, rfl⟩
  go_wp2_with fail
  refine (HOf.out _).mono ?_
  rintro r w1 ⟨v1, rfl, hd1, hb1⟩
  obtain ⟨p, l, c, rfl⟩ := hd1.shape
  have HBx := hideS (boxN_below w1 false (.slice p l c) e)
  have HDb := hideS (hd1.below HBx.out)
  have B1 := hideS (hb1.trans (HBx.out.mono hb1.size))
  have HBs := hideS hb1.size
  have HD1 := hideS hd1
  have HQ : Hid (∀ n, DN ((boxN w1 false (.slice p l c) e).drewN n) (.slice p l c) N) := fun n => HDb.out.drewN n
  clear hb1 hd1 HOf HN HNg HSz HI
  go_wp2_with fail
  go_quiet ((go_at_call 157; exact Calls.quiet_of_same (len_at (.slice p l c) N Bl _ (HQ.out _) (by have := nd_two HNl.out; omega) HBl)))
  go_wp2_with fail
  obtain ⟨w2, hw2⟩ : ∃ w2, w2 = ((boxN w1 false (.slice p l c) e).drewN nq).setCell ⟨w1.heap.size, 2, none⟩ (Value.int IntKind.i64 (e - k0)) := ⟨_, rfl⟩
  rw [← hw2]
  have B12 : Hid (Below w1.heap.size w1 w2) := by rw [hw2]; exact (below_drewN HBx.out _).setCell (Nat.le_refl _) _
  have B2 : Hid (Below w.heap.size w w2) := by rw [hw2]; exact (below_drewN B1.out _).setCell (show w.heap.size ≤ w1.heap.size from HBs.out) _
  have HNw := hideS (HNr.out _ w2 (HD1.out.below B12.out))
  clear hw2 B12 B1 HD1 HQ HDb HBx HNr HBl HNl f1 f2
  refine HNw.out.mono ?_
  rintro r w3 ⟨rfl, hb⟩
  have B3 := hideS (B2.out.trans (hb.mono B2.out.size))
  clear hb B2 HNw
  go_wp2_with fail
  refine (HLt.out _).mono ?_
  rintro r w' ⟨rfl, rfl⟩
  clear HLt
  cases g
  case' true =>
    simp only [if_true] at HIn
    have HHg := hideS (HHf.out rfl)
    clear HHf
    have HHf : True := trivial
    go_wp2_with fail
    refine (HHg.out _).mono ?_
    rintro r w4 ⟨rfl, hb⟩
    have B3 := hideS (B3.out.trans (hb.mono B3.out.size))
    clear hb HHg
  case' false =>
    obtain rfl := hmg rfl
    simp only [Bool.false_eq_true, if_false] at HIn
  all_goals
    clear HHf hmg
    go_wp2_with fail
    refine (HS.out _).mono ?_
    rintro r w5 ⟨rfl, hb⟩
    have B5 := hideS (B3.out.trans (hb.mono B3.out.size))
    clear hb
    go_wp2_with fail
    refine (HA.out _).mono ?_
    rintro r w6 ⟨rfl, hb⟩
    have B6 := hideS (B5.out.trans (hb.mono B5.out.size))
    clear hb
    go_wp2_with fail
    refine (HD.out _).mono ?_
    rintro r w7 ⟨rfl, hb⟩
    have B7 := hideS (B6.out.trans (hb.mono B6.out.size))
    clear hb
    go_wp2_with fail
    refine (HZ.out _).mono ?_
    rintro r w8 ⟨rfl, hb⟩
    have B8 := hideS (B7.out.trans (hb.mono B7.out.size))
    clear hb HS HA HD HZ B3 B5 B6 B7
    go_wp2_with fail
    go_loopw [8, 9] (fun v i wr => ∃ k : Nat, k ≤ 11 ∧ i = .int .i64 k ∧ Hid (wr.ownsRow w8.heap.size 48 1 v k (rowOf uV lnL k)) ∧ Hid (Below w.heap.size w wr) ∧ Hid (w8.heap.size ≤ wr.heap.size)) (fun _ i _ => 11 - (intOf i).toNat)
    case atStart => exact ⟨0, Nat.zero_le _, rfl, World.ownsRow_nil _ _ _ _, B8, Nat.le_refl _⟩
    case round =>
      obtain ⟨k, hk, rfl, hown, HB, HZ8⟩ := hrel
      by_cases hlt : k < 11
      · have HTk := hideS (take_next (f := uV) (show k < lnL.length by rw [lnL_len]; exact hlt))
        obtain ⟨tz, xi, T1, T2, T3⟩ := lnTerm k hlt
        have hsz := HB.out.size
        have hsz8 := HZ8.out
        have hB8 := B8.out.size
        go_wp2_with fail
        refine (T1.out _).mono ?_
        rintro r w9 ⟨rfl, hb1⟩
        have HB1 := hideS hb1
        clear hb1
        go_wp2_with fail
        refine (T2.out _).mono ?_
        rintro r w10 ⟨rfl, hb2⟩
        have HB2 := hideS (HB1.out.trans (hb2.mono HB1.out.size))
        have HO2 := hideS (own_below hown.out HB2.out)
        have HBw := hideS (HB.out.trans (HB2.out.mono hsz))
        have hsz2 := HBw.out.size
        have hsz9 : w8.heap.size ≤ w10.heap.size := Nat.le_trans hsz8 HB2.out.size
        clear hb2 HB1 hown
        go_wp2_with (at_builtin; refine wpList_append_own _ rfl _ _ 31 rfl w8.heap.size 48 i0 (.int .u64 0) 1 8 Tryz.underlying31 hi0 hz0 hz1 hz2 rfl (by decide) _ _ _ rfl (HO2.out.alloc _) ⟨w10.heap.size, 0, none⟩ 1 1 [.int .u64 xi] rfl rfl ?c1 ?c2 ?c3 ?c4 ?c5 ?_)
        case c1 =>
          intro j u hj
          match j, hj with
          | 0, hj => simp at hj; subst hj; simp [Addr.add]
        case c2 => intro u hu; simp at hu; subst hu; rfl
        case c3 => unfold maxLen; omega
        case c4 => omega
        case c5 => simp; omega
        · intro v' w11 hown' hgrow _
          have hlow := HO2.out.lt
          have hb3 : Below w.heap.size w w11 := (HBw.out.alloc hsz2 _).grown hgrow (by simp; omega) (fun j hj => Nat.le_trans hB8 (hlow j hj).1)
          have hb4 : Below w8.heap.size w10 w11 := ((Below.refl w8.heap.size w10).alloc hsz9 _).grown hgrow (by simp; omega) (fun j hj => (hlow j hj).1)
          rw [T3.out, ← HTk.out] at hown'
          have HO := hideS hown'
          have HB3 := hideS hb3
          have HZ3 := hideS (Nat.le_trans hsz9 hb4.size)
          clear hown' hgrow hlow hb3 hb4
          go_wp2
          go_roundw
          case rel => exact ⟨k + 1, by omega, by simp, HO, HB3, HZ3⟩
          case measure => simp [intOf]; omega
      · obtain rfl : k = 11 := by omega
        have h1 := hown.out
        rw [show (11 : Nat) = lnL.length from lnL_len.symm, rowOf_all] at h1
        have HO := hideS (OwnF.mk h1 : OwnF wr w8.heap.size 48 uV _ lnL)
        clear h1 hown
        go_wp2_with fail
        refine (HT.out _).mono ?_
        rintro r w12 ⟨rfl, hb⟩
        have C1 := hideS (HB.out.trans (hb.mono HB.out.size))
        have HHw := hideS (HH.out _ _ w12 (HO.out.below hb))
        clear hb HO
        go_wp2_with fail
        refine HHw.out.mono ?_
        rintro r w13 ⟨rfl, hb⟩
        have C2 := hideS (C1.out.trans (hb.mono C1.out.size))
        clear hb HHw
        go_wp2_with fail
        refine (HP.out _).mono ?_
        rintro r w14 ⟨rfl, hb⟩
        have C3 := hideS (C2.out.trans (hb.mono C2.out.size))
        clear hb
        go_wp2_with fail
        refine (HIn.out _).mono ?_
        rintro r w15 ⟨rfl, hb⟩
        have C4 := hideS (C3.out.trans (hb.mono C3.out.size))
        clear hb
        go_wp2_with fail
        refine (HM1.out _).mono ?_
        rintro r w16 ⟨rfl, hb⟩
        have C5 := hideS (C4.out.trans (hb.mono C4.out.size))
        clear hb
        go_wp2_with fail
        refine (HM2.out _).mono ?_
        rintro r w17 ⟨rfl, hb⟩
        have C6 := hideS (C5.out.trans (hb.mono C5.out.size))
        clear hb
        go_wp2_with fail
        refine (HC.out _).mono ?_
        rintro r w18 ⟨rfl, hb⟩
        have C7 := hideS (C6.out.trans (hb.mono C6.out.size))
        clear hb
        go_wp2_with fail
        refine (HR.out _).mono ?_
        rintro r w19 ⟨rfl, hb⟩
        have C8 := hideS (C7.out.trans (hb.mono C7.out.size))
        clear hb
        go_wp2_with fail
        go_ret
        exact ⟨rfl, C8.out⟩
end Go.Proofs.YtkcnkhdbojdhgaaGreat
namespace Go.Proofs.YtkcnkhdbojdhgaaGreat

theorem rank_num {r : Nat} (h : NumB r) (h2 : r < 18446744073709551616) : -9218868437227405312 < rankI r ∧ rankI r < 9218868437227405312 := by
  rw [← sgn_rank h2 (num_nan h)]
  unfold NumB at h
  unfold sgn
  generalize (r / 9223372036854775808 % 2 == 1) = p at *
  cases p <;> simp only [Bool.false_eq_true, if_true, if_false] <;> omega
theorem sB_pos {b : Nat} (h : 0 < vI b) : sB b = false ∧ vI b = (aV b : Int) ∧ b % 9223372036854775808 ≠ 0 := by
  have hz : b % 9223372036854775808 ≠ 0 := by
    intro e
    rw [vI_sg] at h
    have : aV b = 0 := by unfold aV; rw [e]; exact V_zero
    rw [this] at h
    unfold sgZ at h
    split at h <;> omega
  rw [vI_sg] at h ⊢
  unfold sgZ at h ⊢
  cases e : sB b
  · exact ⟨rfl, by simp only [Bool.false_eq_true, if_false], hz⟩
  · rw [e] at h; simp only [if_true] at h; omega
theorem step_fit {op : BinOp} {x y f : Nat} {k : Int} (h : ∃ r, floatBits op .f64 x y = some r ∧ RkW r k) (hf : floatBits op .f64 x y = some f) : RkW f k := by
  obtain ⟨r, e, hr⟩ := h
  obtain rfl := Option.some.inj (e.symm.trans hf)
  exact hr
end Go.Proofs.YtkcnkhdbojdhgaaGreat
