/- The contracts of the document's facts and Exp. The contract of the document's Exp. -/
import Derived.Test.YtbkmbdbjeiffpaaHav
import Derived.Test.YtbkmbdbjeiffpaaHat
import Derived.Test.YtbkmbdbjeiffpaaHaz
namespace Go.Proofs.Ytbkmbdbjeiffpaa
open Go.RowKit

theorem fac_next (k : Nat) : facN (k + 1) = facN k * max k 1 := rfl
theorem fac_step {k : Nat} : (k ≤ 1 → facN (k + 1) = facN k) ∧ (1 < k → facN (k + 1) = facN k * k) := by
  rw [fac_next]
  refine ⟨fun h => ?_, fun h => ?_⟩
  · rw [show max k 1 = 1 by omega, Nat.mul_one]
  · rw [show max k 1 = k by omega]
theorem expL_lt : ∀ k, k < 14 → expL.getD k 0 < 18446744073709551616 := by decide
theorem expL_len : expL.length = 14 := by decide
theorem expL_fit : FitL expL := by unfold FitL; decide

set_option maxRecDepth 20000 in
set_option maxHeartbeats 1600000 in
theorem facts_any (w : World) :
    Calls Try.prog 56 #[] w fun e w' => ∃ v, e = .returned v ∧ OwnF w' w.heap.size 26 uV v expL ∧ Below w.heap.size w w' := by
  obtain ⟨i0, hi, hz0, hz1, hz2⟩ := info_parts infoU
  go_enter Try.func56, Try.ntmps56
  go_wp2
  go_loopw [1, 2, 3] (fun v s i wr => ∃ k f : Nat, k ≤ 14 ∧ i = .int .i64 k ∧ s = .int .i64 f ∧ Hid (f = facN k) ∧ Hid (wr.ownsRow w.heap.size 26 1 v k (rowOf uV expL k)) ∧ Hid (Below w.heap.size w wr)) (fun _ _ i _ => 14 - (intOf i).toNat)
  case atStart => exact ⟨0, 1, Nat.zero_le _, rfl, rfl, rfl, World.ownsRow_nil _ _ _ _, Below.refl _ _⟩
  case round =>
    obtain ⟨k, f, hk, rfl, rfl, HF, hown, HB⟩ := hrel
    by_cases hlt : k < 14
    · have hx : k < expL.length := by rw [expL_len]; exact hlt
      have HT := hideS (take_next (f := uV) hx)
      have hfb := fac_bd k (by omega)
      rw [← HF.out] at hfb
      obtain ⟨hf1, hf2⟩ := hfb
      have hfb2 := fac_bd (k + 1) (by omega)
      obtain ⟨f2, hf⟩ : ∃ f2, facN (k + 1) = f2 := ⟨_, rfl⟩
      rw [hf] at hfb2
      obtain ⟨hf3, hf4⟩ := hfb2
      have HF2 := hideS hf.symm
      obtain ⟨fz, hfz⟩ : ∃ fz : Int, (fi (f2 : Int) : Int) = fz := ⟨_, rfl⟩
      obtain ⟨x, hxx⟩ : ∃ x, expL.getD k 0 = x := ⟨_, rfl⟩
      obtain ⟨xi, hxi⟩ : ∃ xi : Int, (x : Int) = xi := ⟨_, rfl⟩
      have HInt : Hid (∀ w, Calls Try.prog 23 #[.int .i64 (f2 : Int)] w fun e w' => e = .returned (.int .u64 fz) ∧ Below w.heap.size w w') := fun w => by
        have := refInt_any (f2 : Int) w (by omega) (by omega)
        rw [hfz] at this; exact this
      have HDiv : Hid (∀ w, Calls Try.prog 28 #[.int .u64 4607182418800017408, .int .u64 fz] w fun e w' => e = .returned (.int .u64 xi) ∧ Below w.heap.size w w') := fun w => by
        have := refDiv_any 4607182418800017408 (fi (f2 : Int)) 4607182418800017408 fz w rfl hfz.symm (by unfold U64; omega) (by rw [← hfz]; exact u64_of_nat (aV_fi (a := (f2 : Int)) rfl (by omega) (by omega)).2.2.2)
        have e := exp_row k hlt
        rw [hf, hxx] at e
        rw [e, cn_some, hxi] at this; exact this
      rw [hxx] at HT
      have HXI := hideS hxi
      clear hx hf hfz hxx hxi
      have hsz := HB.out.size
      have hfs := fac_step (k := k)
      rw [← HF2.out, ← HF.out] at hfs
      have key : ∀ (w1 : World) (hb1 : Below wr.heap.size wr w1), True := fun _ _ => trivial
      clear key
      rcases (show k ≤ 1 ∨ 1 < k by omega) with hk1 | hk1
      · have hff := hfs.1 hk1
        subst hff
        clear hfs
        go_wp2_with fail
        refine (HInt.out _).mono ?_
        rintro e w1 ⟨rfl, hb1⟩
        have HB1 := hideS hb1
        clear hb1
        go_wp2_with fail
        refine (HDiv.out _).mono ?_
        rintro e w2 ⟨rfl, hb2⟩
        have HB2 := hideS (HB1.out.trans (hb2.mono HB1.out.size))
        have HO2 := hideS (own_below hown.out HB2.out)
        have HBw := hideS (HB.out.trans (HB2.out.mono hsz))
        have hsz2 := HBw.out.size
        clear hb2 HB1 hown
        go_wp2_with (at_builtin; refine wpList_append_own _ rfl _ _ 54 rfl w.heap.size 26 i0 (.int .u64 0) 1 8 Try.underlying54 hi hz0 hz1 hz2 rfl (by decide) _ _ _ rfl (HO2.out.alloc _) ⟨w2.heap.size, 0, none⟩ 1 1 [.int .u64 xi] rfl rfl ?c1 ?c2 ?c3 ?c4 ?c5 ?_)
        case c1 =>
          intro j u hj
          match j, hj with
          | 0, hj => simp at hj; subst hj; simp [Addr.add]
        case c2 => intro u hu; simp at hu; subst hu; rfl
        case c3 => unfold maxLen; omega
        case c4 => omega
        case c5 => simp; omega
        · intro v' w3 hown' hgrow _
          have hlow := HO2.out.lt
          have hb3 : Below w.heap.size w w3 := (HBw.out.alloc hsz2 _).grown hgrow (by simp; omega) (fun j hj => (hlow j hj).1)
          rw [← HXI.out, show Value.int IntKind.u64 (x : Int) = uV x from rfl, ← HT.out] at hown'
          have HO := hideS hown'
          have HB3 := hideS hb3
          clear hown' hgrow hlow hb3
          go_wp2
          go_roundw
          case rel => exact ⟨k + 1, _, by omega, by simp, rfl, HF2, HO, HB3⟩
          case measure => simp [intOf]; omega
      · have hff := hfs.2 hk1
        have hmul : (f : Int) * (k : Int) = (f2 : Int) := by rw [hff, Int.natCast_mul]
        clear hfs hff
        go_wp2_with fail
        refine (HInt.out _).mono ?_
        rintro e w1 ⟨rfl, hb1⟩
        have HB1 := hideS hb1
        clear hb1
        go_wp2_with fail
        refine (HDiv.out _).mono ?_
        rintro e w2 ⟨rfl, hb2⟩
        have HB2 := hideS (HB1.out.trans (hb2.mono HB1.out.size))
        have HO2 := hideS (own_below hown.out HB2.out)
        have HBw := hideS (HB.out.trans (HB2.out.mono hsz))
        have hsz2 := HBw.out.size
        clear hb2 HB1 hown
        go_wp2_with (at_builtin; refine wpList_append_own _ rfl _ _ 54 rfl w.heap.size 26 i0 (.int .u64 0) 1 8 Try.underlying54 hi hz0 hz1 hz2 rfl (by decide) _ _ _ rfl (HO2.out.alloc _) ⟨w2.heap.size, 0, none⟩ 1 1 [.int .u64 xi] rfl rfl ?c1 ?c2 ?c3 ?c4 ?c5 ?_)
        case c1 =>
          intro j u hj
          match j, hj with
          | 0, hj => simp at hj; subst hj; simp [Addr.add]
        case c2 => intro u hu; simp at hu; subst hu; rfl
        case c3 => unfold maxLen; omega
        case c4 => omega
        case c5 => simp; omega
        · intro v' w3 hown' hgrow _
          have hlow := HO2.out.lt
          have hb3 : Below w.heap.size w w3 := (HBw.out.alloc hsz2 _).grown hgrow (by simp; omega) (fun j hj => (hlow j hj).1)
          rw [← HXI.out, show Value.int IntKind.u64 (x : Int) = uV x from rfl, ← HT.out] at hown'
          have HO := hideS hown'
          have HB3 := hideS hb3
          clear hown' hgrow hlow hb3
          go_wp2
          go_roundw
          case rel => exact ⟨k + 1, _, by omega, by simp, rfl, HF2, HO, HB3⟩
          case measure => simp [intOf]; omega
    · obtain rfl : k = 14 := by omega
      go_wp2
      go_ret
      have h1 := hown.out
      rw [show (14 : Nat) = expL.length from expL_len.symm, rowOf_all] at h1
      exact ⟨_, rfl, ⟨h1⟩, HB.out⟩
end Go.Proofs.Ytbkmbdbjeiffpaa
namespace Go.Proofs.Ytbkmbdbjeiffpaa
open Go.RowKit

theorem magI_mg (r : Nat) : magI (r : Int) = (mg r : Int) := by
  unfold magI mg
  by_cases c : r < 4503599627370496
  · rw [if_pos c, if_pos (by omega)]
  · rw [if_neg c, if_neg (by omega)]; omega
theorem plcI_pl (r : Nat) : plcI (r : Int) = -1074 + (pl r : Int) := by
  unfold plcI pl
  by_cases c : r < 4503599627370496
  · rw [if_pos (by omega)]; omega
  · rw [if_neg (by omega)]; omega
theorem split_of {p : Nat} {neg : Bool} {N : Nat} {e : Int} (h : OfR p neg N e) (h64 : p < 18446744073709551616) (hn : NumB p) (h0 : N ≠ 0) : splM (p : Int) = sg neg N ∧ splE (p : Int) = e ∧ neg = sB p := by
  obtain ⟨m1, m2⟩ := h.mag h0
  have hsz := szI_nat p
  unfold NumB at hn
  have hok : splOk (p : Int) = true := by unfold splOk; rw [hsz]; simp; omega
  have hr0 : p % 9223372036854775808 ≠ 0 := by
    intro e0; rw [e0] at m1; exact h0 (by rw [m1]; decide)
  refine ⟨?_, ?_, h.sgn h0⟩
  · unfold splM
    rw [hok, if_pos rfl, hsz, magI_mg, ← m1, sgB_nat h64, ← h.sgn h0]
    rfl
  · unfold splE
    rw [hok, hsz, plcI_pl, ← m2, show decide (((p % 9223372036854775808 : Nat) : Int) ≠ 0) = true by simpa using fun h => hr0 (by omega)]
    rfl
theorem exp_end {p : Nat} {neg : Bool} {N : Nat} {e k : Int} (h : OfR p neg N e) (h64 : p < 18446744073709551616) (hn : NumB p) (hv : 0 ≤ vI p) : nearM neg N (e + k) false = (joinN (splM p) (splE p + k) : Int) := by
  by_cases h0 : N = 0
  · have hz : p % 9223372036854775808 = 0 := by
      have := h.val
      rw [h0, Nat.zero_mul] at this
      exact zero_V2 this.symm
    have hs : splM (p : Int) = 0 := by
      unfold splM
      rw [szI_nat, hz]
      unfold magI
      split
      · split <;> simp
      · rfl
    rw [hs, h0]
    rfl
  · obtain ⟨s1, s2, s3⟩ := split_of h h64 hn h0
    have hneg : neg = false := by
      cases hneg : neg with
      | false => rfl
      | true =>
        exfalso
        have ha : aV p ≠ 0 := by
          rw [← h.val]
          have := Nat.mul_pos (show 0 < N by omega) (Nat.two_pow_pos (e + 1074).toNat); omega
        rw [vI_sB, ← s3, hneg] at hv
        unfold sg at hv; simp at hv; omega
    rw [s1, s2, hneg, nearM_eq false _ h0, if_neg (by decide)]
    unfold sg joinN
    simp only [Bool.false_eq_true, if_false]
    rw [if_neg (by omega), if_neg (by omega), Int.natAbs_natCast]; omega

set_option maxHeartbeats 800000 in
theorem refExp_nan (u : Int) (w : World) (h : U64 u) (hn : nanB u = true) :
    Calls Try.prog 29 #[.int .u64 u] w fun e w' => e = .returned (.int .u64 9221120237041090561) ∧ Below w.heap.size w w' := by
  have H := hideS (refNaN_any u w h)
  rw [hn] at H
  clear h hn
  go_enter Try.func29, Try.ntmps29
  go_wp2_with fail
  refine (turned H.out).mono ?_
  rintro e w' ⟨rfl, rfl⟩
  go_wp2_with fail
  go_ret
  exact ⟨rfl, Below.refl _ _⟩
theorem refInt_at (n z : Int) (w : World) (h0 : -9223372036854775808 ≤ n) (h1 : n ≤ 9223372036854775807) (hz : (fi n : Int) = z) :
    Calls Try.prog 23 #[.int .i64 n] w fun e w' => e = .returned (.int .u64 z) ∧ Below w.heap.size w w' := by
  rw [← hz]; exact refInt_any n w h0 h1

set_option maxHeartbeats 800000 in
theorem refExp_hi (u : Int) (w : World) (h : U64 u) (hn : nanB u = false) (hl : decide (rankI u < rankI 4649456441864749056) = false) :
    Calls Try.prog 29 #[.int .u64 u] w fun e w' => e = .returned (.int .u64 9218868437227405312) ∧ Below w.heap.size w w' := by
  have H := hideS (refNaN_any u w h)
  have HI := hideS fun w => refInt_at 710 4649456441864749056 w (by omega) (by omega) (by rw [c710]; rfl)
  have HL := hideS fun w => refLt_at u 4649456441864749056 false w h (by unfold U64; omega) hn (by decide) hl
  rw [hn] at H
  clear h hn hl
  go_enter Try.func29, Try.ntmps29
  go_wp2_with fail
  refine (turned H.out).mono ?_
  rintro e w' ⟨rfl, rfl⟩
  go_wp2_with fail
  refine (HI.out _).mono ?_
  rintro e w1 ⟨rfl, hb⟩
  have HB := hideS hb
  clear hb
  go_wp2_with fail
  refine (HL.out _).mono ?_
  rintro e w' ⟨rfl, rfl⟩
  go_wp2_with fail
  go_ret
  exact ⟨rfl, HB.out⟩

set_option maxHeartbeats 800000 in
theorem refExp_lo (u : Int) (w : World) (h : U64 u) (hn : nanB u = false) (hl : decide (rankI u < rankI 4649456441864749056) = true) (hl2 : decide (rankI 13873145138068324352 < rankI u) = false) :
    Calls Try.prog 29 #[.int .u64 u] w fun e w' => e = .returned (.int .u64 0) ∧ Below w.heap.size w w' := by
  have H := hideS (refNaN_any u w h)
  have HI := hideS fun w => refInt_at 710 4649456441864749056 w (by omega) (by omega) (by rw [c710]; rfl)
  have HL := hideS fun w => refLt_at u 4649456441864749056 true w h (by unfold U64; omega) hn (by decide) hl
  have HI2 := hideS fun w => refInt_at (-746) 13873145138068324352 w (by omega) (by omega) (by rw [c746]; rfl)
  have HL2 := hideS fun w => refLt_at 13873145138068324352 u false w (by unfold U64; omega) h (by decide) hn hl2
  rw [hn] at H
  clear h hn hl hl2
  go_enter Try.func29, Try.ntmps29
  go_wp2_with fail
  refine (turned H.out).mono ?_
  rintro e w' ⟨rfl, rfl⟩
  go_wp2_with fail
  refine (HI.out _).mono ?_
  rintro e w1 ⟨rfl, hb⟩
  have HB := hideS hb
  clear hb
  go_wp2_with fail
  refine (HL.out _).mono ?_
  rintro e w' ⟨rfl, rfl⟩
  go_wp2_with fail
  refine (HI2.out _).mono ?_
  rintro e w2 ⟨rfl, hb⟩
  have HB2 := hideS (HB.out.trans (hb.mono HB.out.size))
  clear hb
  go_wp2_with fail
  refine (HL2.out _).mono ?_
  rintro e w' ⟨rfl, rfl⟩
  go_wp2_with fail
  go_ret
  exact ⟨rfl, HB2.out⟩

theorem u64_op {op : BinOp} (ho : op = .add ∨ op = .sub ∨ op = .mul ∨ op = .quo) {x y r : Nat} {z : Int} (h : floatBits op .f64 x y = some r) (hz : z = (r : Int)) : U64 z := by rw [hz]; exact u64_of_nat (float_lt ho h)
theorem mul_is {x y r : Nat} {u v z : Int} (hu : u = (x : Int)) (hv : v = (y : Int)) (h : U64 u) (h' : U64 v) (hr : floatBits .mul .f64 x y = some r) (hz : z = (r : Int)) (w : World) :
    Calls Try.prog 26 #[.int .u64 u, .int .u64 v] w fun e w' => e = .returned (.int .u64 z) ∧ Below w.heap.size w w' := by
  have := refMul_any x y u v w hu hv h h'
  rw [hr, cn_some, ← hz] at this; exact this
theorem add_is {x y r : Nat} {u v z : Int} (hu : u = (x : Int)) (hv : v = (y : Int)) (h : U64 u) (h' : U64 v) (hr : floatBits .add .f64 x y = some r) (hz : z = (r : Int)) (w : World) :
    Calls Try.prog 25 #[.int .u64 u, .int .u64 v] w fun e w' => e = .returned (.int .u64 z) ∧ Below w.heap.size w w' := by
  have := refAdd_any x y u v w hu hv h h'
  rw [hr, cn_some, ← hz] at this; exact this
theorem sub_is {x y r : Nat} {u v z : Int} (hu : u = (x : Int)) (hv : v = (y : Int)) (h : U64 u) (h' : U64 v) (hr : floatBits .sub .f64 x y = some r) (hz : z = (r : Int)) (w : World) :
    Calls Try.prog 36 #[.int .u64 u, .int .u64 v] w fun e w' => e = .returned (.int .u64 z) ∧ Below w.heap.size w w' := by
  have := refSub_any x y u v w hu hv h h'
  rw [hr, cn_some, ← hz] at this; exact this
theorem div_is {x y r : Nat} {u v z : Int} (hu : u = (x : Int)) (hv : v = (y : Int)) (h : U64 u) (h' : U64 v) (hr : floatBits .quo .f64 x y = some r) (hz : z = (r : Int)) (w : World) :
    Calls Try.prog 28 #[.int .u64 u, .int .u64 v] w fun e w' => e = .returned (.int .u64 z) ∧ Below w.heap.size w w' := by
  have := refDiv_any x y u v w hu hv h h'
  rw [hr, cn_some, ← hz] at this; exact this

set_option maxRecDepth 20000 in
set_option maxHeartbeats 1600000 in
theorem refExp_mid (x y t hi lo d r p : Nat) (u k res : Int) (K : Nat) (w : World) (hu : u = (x : Int)) (h : U64 u) (hn : nanB u = false) (hl : decide (rankI u < rankI 4649456441864749056) = true) (hl2 : decide (rankI 13873145138068324352 < rankI u) = true)
    (q1 : floatBits .mul .f64 x 4609176140021203710 = some y) (q2 : floatBits .add .f64 y 4602678819172646912 = some t) (tn : NumB t) (hK : K = 1074) (f1 : k * ((2 ^ K : Nat) : Int) ≤ vI t) (f2 : vI t < (k + 1) * ((2 ^ K : Nat) : Int)) (k1 : -2000 ≤ k) (k2 : k ≤ 2000)
    (q3 : floatBits .mul .f64 (fi k) 4604418534311723008 = some hi) (q4 : floatBits .mul .f64 (fi k) 4461442080421002358 = some lo) (q5 : floatBits .sub .f64 x hi = some d) (q6 : floatBits .sub .f64 d lo = some r) (q7 : hornO expL r = some p) (pn : NumB p) (p64 : p < 18446744073709551616) (pv : 0 ≤ vI p) (hres : (joinN (splM p) (splE p + k) : Int) = res) :
    Calls Try.prog 29 #[.int .u64 u] w fun e w' => e = .returned (.int .u64 res) ∧ Below w.heap.size w w' := by
  have H := hideS (refNaN_any u w h)
  have HI := hideS fun w => refInt_at 710 4649456441864749056 w (by omega) (by omega) (by rw [c710]; rfl)
  have HL := hideS fun w => refLt_at u 4649456441864749056 true w h (by unfold U64; omega) hn (by decide) hl
  have HI2 := hideS fun w => refInt_at (-746) 13873145138068324352 w (by omega) (by omega) (by rw [c746]; rfl)
  have HL2 := hideS fun w => refLt_at 13873145138068324352 u true w (by unfold U64; omega) h (by decide) hn hl2
  rw [hn] at H
  obtain ⟨yi, hy⟩ : ∃ yi : Int, yi = (y : Int) := ⟨_, rfl⟩
  obtain ⟨ti, ht⟩ : ∃ ti : Int, ti = (t : Int) := ⟨_, rfl⟩
  obtain ⟨fz, hf⟩ : ∃ fz : Int, fz = (fi k : Int) := ⟨_, rfl⟩
  obtain ⟨hii, hhi⟩ : ∃ hii : Int, hii = (hi : Int) := ⟨_, rfl⟩
  obtain ⟨loi, hlo⟩ : ∃ loi : Int, loi = (lo : Int) := ⟨_, rfl⟩
  obtain ⟨di, hd⟩ : ∃ di : Int, di = (d : Int) := ⟨_, rfl⟩
  obtain ⟨ri, hr⟩ : ∃ ri : Int, ri = (r : Int) := ⟨_, rfl⟩
  obtain ⟨pi, hp⟩ : ∃ pi : Int, pi = (p : Int) := ⟨_, rfl⟩
  have uf : U64 fz := by rw [hf]; exact u64_of_nat (aV_fi (a := k) rfl (by omega) (by omega)).2.2.2
  have M1 := hideS fun w => mul_is (z := yi) hu (v := 4609176140021203710) rfl h (by unfold U64; omega) q1 hy w
  have A1 := hideS fun w => add_is (z := ti) hy (v := 4602678819172646912) rfl (u64_op (by simp) q1 hy) (by unfold U64; omega) q2 ht w
  have FL := hideS fun w => refFloor_at t ti k K w ht (u64_op (by simp) q2 ht) tn hK f1 f2 k1 k2
  have IK := hideS fun w => refInt_at k fz w (by omega) (by omega) hf.symm
  have M2 := hideS fun w => mul_is (z := hii) hf (v := 4604418534311723008) rfl uf (by unfold U64; omega) q3 hhi w
  have S1 := hideS fun w => sub_is (z := di) hu hhi h (u64_op (by simp) q3 hhi) q5 hd w
  have M3 := hideS fun w => mul_is (z := loi) hf (v := 4461442080421002358) rfl uf (by unfold U64; omega) q4 hlo w
  have S2 := hideS fun w => sub_is (z := ri) hd hlo (u64_op (by simp) q5 hd) (u64_op (by simp) q4 hlo) q6 hr w
  have HH : Hid (∀ B v w, OwnF w B 26 uV v expL → Calls Try.prog 55 #[v, .int .u64 ri] w fun e w' => e = .returned (.int .u64 pi) ∧ Below w.heap.size w w') := fun B v w hO => by
    have := refHorner_any B 14 r v ri expL w hO expL_fit hr (u64_op (by simp) q6 hr) expL_len (by decide)
    rw [q7, cn_some, ← hp] at this; exact this
  have HO := hideS fun w => of_num p pi w hp (by rw [hp]; exact u64_of_nat p64) pn
  have HEnd : Hid (∀ neg N e, OfR p neg N e → nearM neg N (e + k) false = res ∧ N < 9007199254740992 ∧ -1074 ≤ e ∧ e ≤ 971) := fun neg N e ho => ⟨by rw [← hres]; exact exp_end ho p64 pn pv, ho.lt, ho.lo, ho.hi⟩
  clear h hn hl hl2 hu q1 q2 tn hK f1 f2 q3 q4 q5 q6 q7 pn p64 pv hres hy ht hf hhi hlo hd hr hp uf
  go_enter Try.func29, Try.ntmps29
  go_wp2_with fail
  refine (turned H.out).mono ?_
  rintro e w' ⟨rfl, rfl⟩
  go_wp2_with fail
  refine (HI.out _).mono ?_
  rintro e w1 ⟨rfl, hb⟩
  have B1 := hideS hb
  clear hb
  go_wp2_with fail
  refine (HL.out _).mono ?_
  rintro e w' ⟨rfl, rfl⟩
  go_wp2_with fail
  refine (HI2.out _).mono ?_
  rintro e w2 ⟨rfl, hb⟩
  have B2 := hideS (B1.out.trans (hb.mono B1.out.size))
  clear hb B1
  go_wp2_with fail
  refine (HL2.out _).mono ?_
  rintro e w' ⟨rfl, rfl⟩
  go_wp2_with fail
  refine (M1.out _).mono ?_
  rintro e w3 ⟨rfl, hb⟩
  have B3 := hideS (B2.out.trans (hb.mono B2.out.size))
  clear hb B2
  go_wp2_with fail
  refine (A1.out _).mono ?_
  rintro e w4 ⟨rfl, hb⟩
  have B4 := hideS (B3.out.trans (hb.mono B3.out.size))
  clear hb B3
  go_wp2_with fail
  refine (FL.out _).mono ?_
  rintro e w5 ⟨rfl, hb⟩
  have B5 := hideS (B4.out.trans (hb.mono B4.out.size))
  clear hb B4
  go_wp2_with fail
  refine (IK.out _).mono ?_
  rintro e w6 ⟨rfl, hb⟩
  have B6 := hideS (B5.out.trans (hb.mono B5.out.size))
  clear hb B5
  go_wp2_with fail
  refine (M2.out _).mono ?_
  rintro e w7 ⟨rfl, hb⟩
  have B7 := hideS (B6.out.trans (hb.mono B6.out.size))
  clear hb B6
  go_wp2_with fail
  refine (S1.out _).mono ?_
  rintro e w8 ⟨rfl, hb⟩
  have B8 := hideS (B7.out.trans (hb.mono B7.out.size))
  clear hb B7
  go_wp2_with fail
  refine (M3.out _).mono ?_
  rintro e w9 ⟨rfl, hb⟩
  have B9 := hideS (B8.out.trans (hb.mono B8.out.size))
  clear hb B8
  go_wp2_with fail
  refine (S2.out _).mono ?_
  rintro e w10 ⟨rfl, hb⟩
  have B10 := hideS (B9.out.trans (hb.mono B9.out.size))
  clear hb B9
  go_wp2_with fail
  refine (facts_any _).mono ?_
  rintro e w11 ⟨v, rfl, hO, hb⟩
  have B11 := hideS (B10.out.trans (hb.mono B10.out.size))
  have HO11 := hideS (HH.out _ _ _ hO)
  clear hb B10 hO HH
  go_wp2_with fail
  refine HO11.out.mono ?_
  rintro e w12 ⟨rfl, hb⟩
  have B12 := hideS (B11.out.trans (hb.mono B11.out.size))
  clear hb B11 HO11
  go_wp2_with fail
  refine (HO.out _).mono ?_
  rintro e w13 ⟨neg, vx, N, ee, rfl, hdx, hX, hb⟩
  obtain ⟨pp, l, c, rfl⟩ := hdx.shape
  obtain ⟨e1, e2, e3, e4⟩ := HEnd.out neg N ee hX
  have B13 := hideS (B12.out.trans (hb.mono B12.out.size))
  have HNr : Hid (Calls Try.prog 45 #[.agg #[.bool neg, .slice pp l c, .int .i64 (ee + k)]] (boxN w13 neg (.slice pp l c) (ee + k)) fun x w' => x = .returned (.int .u64 res) ∧ Below (boxN w13 neg (.slice pp l c) (ee + k)).heap.size (boxN w13 neg (.slice pp l c) (ee + k)) w') := by
    rw [← e1]
    exact near_agg neg _ (ee + k) N _ (hdx.below (boxN_below _ _ _ _)) (by have := nd_two e2; omega) (by omega) (by omega)
  have B14 := hideS (B13.out.trans ((boxN_below w13 neg (.slice pp l c) (ee + k)).mono B13.out.size))
  clear hb B12 hdx hX e1 e2 HEnd B13
  go_wp2_with fail
  refine HNr.out.mono ?_
  rintro e w15 ⟨rfl, hb⟩
  have B15 := hideS (B14.out.trans (hb.mono B14.out.size))
  clear hb B14
  go_wp2_with fail
  go_ret
  exact ⟨rfl, B15.out⟩
end Go.Proofs.Ytbkmbdbjeiffpaa
