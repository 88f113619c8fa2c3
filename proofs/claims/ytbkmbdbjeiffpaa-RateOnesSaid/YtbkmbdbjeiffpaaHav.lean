/- The contracts of the document's Flip, Sub, Int, Lt and Floor. The contracts of expTerms and lnTerms: new rows of fixed floats. -/
import Derived.Test.YtbkmbdbjeiffpaaHau
import Derived.Test.YtbkmbdbjeiffpaaHar
import Derived.Deep.OwnRows
namespace Go.Proofs.Ytbkmbdbjeiffpaa
open Go.RowKit

theorem xor_top {c : Nat} (h : c < 9223372036854775808) : c ^^^ 9223372036854775808 = 9223372036854775808 + c := by
  rw [show (9223372036854775808 : Nat) = 2 ^ 63 from rfl] at *
  apply Nat.eq_of_testBit_eq
  intro i
  rw [Nat.testBit_xor, Nat.testBit_two_pow]
  by_cases h1 : i = 63
  · subst h1
    rw [Nat.testBit_two_pow_add_eq]
    simp
  · by_cases h2 : i < 63
    · have e : decide (63 = i) = false := by rw [decide_eq_false_iff_not]; omega
      rw [Nat.testBit_two_pow_add_gt h2, e, Bool.xor_false]
    · have h3 : c.testBit i = false := Nat.testBit_lt_two_pow (Nat.lt_of_lt_of_le h (Nat.pow_le_pow_right (by decide) (by omega)))
      have h4 : (2 ^ 63 + c).testBit i = false := Nat.testBit_lt_two_pow (Nat.lt_of_lt_of_le (show 2 ^ 63 + c < 2 ^ 64 by omega) (Nat.pow_le_pow_right (by decide) (by omega)))
      have e : decide (63 = i) = false := by rw [decide_eq_false_iff_not]; omega
      rw [h3, h4, e]; rfl
/-- The other sign. -/
def flipN (x : Nat) : Nat := if x < 9223372036854775808 then 9223372036854775808 + x else x - 9223372036854775808
theorem flip_bits {b : Nat} (h : b < 18446744073709551616) : b ^^^ 9223372036854775808 = flipN b := by
  unfold flipN
  by_cases h1 : b < 9223372036854775808
  · rw [if_pos h1, xor_top h1]
  · rw [if_neg h1]
    obtain ⟨c, rfl⟩ : ∃ c, b = 9223372036854775808 + c := ⟨b - 9223372036854775808, by omega⟩
    rw [← xor_top (c := c) (by omega), Nat.xor_assoc, Nat.xor_self, Nat.xor_zero]
    have := xor_top (c := c) (by omega)
    omega
theorem flip_parts {x : Nat} (h : x < 18446744073709551616) : flipN x < 18446744073709551616 ∧ flipN x % 9223372036854775808 = x % 9223372036854775808 ∧ (flipN x / 9223372036854775808 % 2 == 1) = !(x / 9223372036854775808 % 2 == 1) := by
  unfold flipN
  by_cases h1 : x < 9223372036854775808
  · rw [if_pos h1]
    refine ⟨by omega, by omega, ?_⟩
    rw [show (9223372036854775808 + x) / 9223372036854775808 = 1 by omega, show x / 9223372036854775808 = 0 by omega]; rfl
  · rw [if_neg h1]
    refine ⟨by omega, by omega, ?_⟩
    rw [show (x - 9223372036854775808) / 9223372036854775808 = 0 by omega, show x / 9223372036854775808 = 1 by omega]; rfl
theorem sub_flip {x y : Nat} (h : y < 18446744073709551616) (hn : nanB (y : Int) = false) : floatBits .add .f64 x (flipN y) = floatBits .sub .f64 x y := by
  obtain ⟨_, h2, h3⟩ := flip_parts h
  have hl := nan_false hn
  have e : Ieee.double.read (flipN y) = (Ieee.double.read y).opposite := by
    by_cases hy : y % 9223372036854775808 < 9218868437227405312
    · rw [read_num (b := flipN y) (by rw [h2]; exact hy), read_num hy, h2, h3]; rfl
    · rw [read_inf (b := flipN y) (by rw [h2]; omega), read_inf (b := y) (by omega), h3]; rfl
  show ((Ieee.double.read x).sum (Ieee.double.read (flipN y))).map Ieee.double.write = ((Ieee.double.read x).sum (Ieee.double.read y).opposite).map Ieee.double.write
  rw [e]

set_option maxHeartbeats 400000 in
theorem refFlip_at (y : Nat) (v z : Int) (w : World) (hv : Hid (v = (y : Int))) (h : U64 v) (hz : Hid (z = (flipN y : Int))) :
    Calls Try.prog 30 #[.int .u64 v] w fun e w' => e = .returned (.int .u64 z) ∧ w = w' := by
  have hb : bits .xor .u64 v 9223372036854775808 = z := by
    have hy : y < 18446744073709551616 := by have := h.2; rw [hv.out] at this; omega
    have := bits_xor_u64_nat y 9223372036854775808 hy (by decide)
    rw [show ((9223372036854775808 : Nat) : Int) = 9223372036854775808 from rfl, flip_bits hy] at this
    rw [hv.out, hz.out]; exact this
  go_enter Try.func30, Try.ntmps30
  go_wp2
  go_ret
  exact ⟨rfl, rfl⟩

set_option maxHeartbeats 400000 in
/-- The document's Sub is the model's. -/
theorem refSub_any (x y : Nat) (u v : Int) (w : World) (hu : Hid (u = (x : Int))) (hv : Hid (v = (y : Int))) (h : U64 u) (h' : U64 v) :
    Calls Try.prog 36 #[.int .u64 u, .int .u64 v] w fun e w' => e = .returned (.int .u64 (cn (floatBits .sub .f64 x y) : Int)) ∧ Below w.heap.size w w' := by
  have hy64 : y < 18446744073709551616 := by have := h'.2; rw [hv.out] at this; omega
  obtain ⟨res, hres⟩ : ∃ res : Int, (cn (floatBits .sub .f64 x y) : Int) = res := ⟨_, rfl⟩
  rw [hres]
  have HN := hideS (refNaN_any v · h')
  cases hn : nanB v with
  | true =>
    rw [hn] at HN
    have HE : Hid ((9221120237041090561 : Int) = res) := by show _ = _; rw [← hres, nan_right (by rw [← hv.out]; exact hn)]; rfl
    clear h h' hn hres
    go_enter Try.func36, Try.ntmps36
    go_wp2_with fail
    refine (turned (HN.out _)).mono ?_
    rintro e w' ⟨rfl, rfl⟩
    go_wp2_with fail
    go_ret
    exact ⟨ret_int HE.out, Below.refl _ _⟩
  | false =>
    rw [hn] at HN
    obtain ⟨z, hz⟩ : ∃ z : Int, z = (flipN y : Int) := ⟨_, rfl⟩
    have HF := hideS fun w => refFlip_at y v z w hv h' hz
    have HA : Hid (∀ w, Calls Try.prog 25 #[.int .u64 u, .int .u64 z] w fun e w' => e = .returned (.int .u64 res) ∧ Below w.heap.size w w') := fun w => by
      have := refAdd_any x (flipN y) u z w hu hz h (by rw [hz]; exact u64_of_nat (flip_parts hy64).1)
      rw [sub_flip hy64 (by rw [← hv.out]; exact hn), hres] at this; exact this
    clear h h' hn hres hz
    go_enter Try.func36, Try.ntmps36
    go_wp2_with fail
    refine (turned (HN.out _)).mono ?_
    rintro e w' ⟨rfl, rfl⟩
    go_wp2_with fail
    refine (HF.out _).mono ?_
    rintro e w' ⟨rfl, rfl⟩
    go_wp2_with fail
    refine (HA.out _).mono ?_
    rintro e w1 ⟨rfl, hb⟩
    have HB := hideS hb
    clear hb
    go_wp2_with fail
    go_ret
    exact ⟨rfl, HB.out⟩

theorem nearM_fi (n : Int) : nearM (decide (n < 0)) n.natAbs 0 false = (fi n : Int) := by
  unfold fi joinN
  by_cases hz : n = 0
  · subst hz; rw [if_pos rfl]; rfl
  · rw [if_neg hz, nearM_eq _ _ (by omega)]
    by_cases hn : n < 0
    · rw [if_pos hn, decide_eq_true hn]; simp only [if_true]; omega
    · rw [if_neg hn, decide_eq_false hn]; simp

set_option maxHeartbeats 400000 in
theorem refInt_any (n : Int) (w : World) (h0 : -9223372036854775808 ≤ n) (h1 : n ≤ 9223372036854775807) :
    Calls Try.prog 23 #[.int .i64 n] w fun e w' => e = .returned (.int .u64 (fi n : Int)) ∧ Below w.heap.size w w' := by
  obtain ⟨res, hres⟩ : ∃ res : Int, (fi n : Int) = res := ⟨_, rfl⟩
  rw [hres]
  rw [← nearM_fi] at hres
  obtain ⟨ng, hng⟩ : ∃ ng, decide (n < 0) = ng := ⟨_, rfl⟩
  have HW : Hid (∀ w, Calls Try.prog 46 #[.int .i64 n] w fun x w' => ∃ v, x = .returned (.agg #[.bool ng, v, .int .i64 0]) ∧ DN w' v n.natAbs ∧ Below w.heap.size w w') := fun w => by rw [← hng]; exact whole_any n w h0 h1
  rw [hng] at hres
  have HRes := hideS hres
  have hnd : nd n.natAbs ≤ 1000000 := Nat.le_trans (nd_mono (k := 2) (by omega)) (by omega)
  clear hng hres
  go_enter Try.func23, Try.ntmps23
  go_wp2_with fail
  refine (HW.out _).mono ?_
  rintro x w1 ⟨v1, rfl, hd1, hb1⟩
  obtain ⟨p, l, c, rfl⟩ := hd1.shape
  have HB := hideS hb1
  have HNr := hideS (near_agg ng _ 0 n.natAbs w1 hd1 hnd (by omega) (by omega))
  rw [HRes.out] at HNr
  clear hd1 hb1
  go_wp2_with fail
  refine HNr.out.mono ?_
  rintro x w2 ⟨rfl, hb2⟩
  have HB2 := hideS (HB.out.trans (hb2.mono HB.out.size))
  clear hb2
  go_wp2_with fail
  go_ret
  exact ⟨rfl, HB2.out⟩

set_option maxHeartbeats 400000 in
theorem refLt_at (u v : Int) (b : Bool) (w : World) (h : U64 u) (h' : U64 v) (hn : nanB u = false) (hn' : nanB v = false) (hb : decide (rankI u < rankI v) = b) :
    Calls Try.prog 21 #[.int .u64 u, .int .u64 v] w fun e w' => e = .returned (.bool b) ∧ w = w' := by
  have H1 := hideS fun w => turned (refRank_any u w h)
  have H2 := hideS fun w => turned (refRank_any v w h')
  rw [hn] at H1
  rw [hn'] at H2
  generalize rankI u = a at *
  generalize rankI v = c at *
  clear hn hn' h h'
  go_enter Try.func21, Try.ntmps21
  go_wp2_with fail
  refine (H1.out _).mono ?_
  rintro e w' ⟨rfl, rfl⟩
  go_wp2_with fail
  refine (H2.out _).mono ?_
  rintro e w' ⟨rfl, rfl⟩
  go_wp2_with fail
  go_ret
  exact ⟨rfl, rfl⟩

/-- The whole number below. -/
theorem floor_unique {S k F E : Int} (hE : 0 < E) (h1 : k * E ≤ S) (h2 : S < (k + 1) * E) (h3 : F * E ≤ S) (h4 : S < (F + 1) * E) : k = F := by
  have a : k < F + 1 := by
    by_cases c : k < F + 1
    · exact c
    · have := Int.mul_le_mul_of_nonneg_right (show F + 1 ≤ k by omega) (show 0 ≤ E by omega); omega
  have b : F < k + 1 := by
    by_cases c : F < k + 1
    · exact c
    · have := Int.mul_le_mul_of_nonneg_right (show k + 1 ≤ F by omega) (show 0 ≤ E by omega); omega
  omega
def floorI (neg : Bool) (q : Nat) (lost : Bool) : Int := if neg then (if lost then -(q : Int) - 1 else -(q : Int)) else (q : Int)
theorem floor_bounds {neg : Bool} {N P : Nat} (hP : 0 < P) : floorI neg (N / P) (decide (N % P ≠ 0)) * (P : Int) ≤ sg neg N ∧ sg neg N < (floorI neg (N / P) (decide (N % P ≠ 0)) + 1) * (P : Int) := by
  have h1 := Nat.div_add_mod N P
  have h2 : N % P < P := Nat.mod_lt _ hP
  have h3 : ((P * (N / P) : Nat) : Int) = (N / P : Nat) * (P : Int) := by rw [Int.natCast_mul, Int.mul_comm]
  generalize N / P = q at *
  generalize N % P = r at *
  generalize P * q = t at *
  unfold floorI sg
  cases neg
  · simp only [Bool.false_eq_true, if_false]
    rw [Int.add_mul, Int.one_mul]; omega
  · simp only [if_true]
    by_cases hr : r = 0
    · rw [show decide (r ≠ 0) = false by simpa using hr]
      simp only [Bool.false_eq_true, if_false]
      rw [Int.add_mul, Int.one_mul, Int.neg_mul]; omega
    · rw [show decide (r ≠ 0) = true by simpa using hr]
      simp only [if_true]
      rw [Int.add_mul, Int.one_mul, Int.sub_mul, Int.one_mul, Int.neg_mul]; omega

set_option maxHeartbeats 1600000 in
theorem refFloor_at (t : Nat) (v k : Int) (K : Nat) (w : World) (hv : Hid (v = (t : Int))) (h : U64 v) (ht : NumB t) (hK : K = 1074) (h1 : k * ((2 ^ K : Nat) : Int) ≤ vI t) (h2 : vI t < (k + 1) * ((2 ^ K : Nat) : Int)) (k1 : -2000 ≤ k) (k2 : k ≤ 2000) :
    Calls Try.prog 54 #[.int .u64 v] w fun e w' => e = .returned (.int .i64 k) ∧ Below w.heap.size w w' := by
  have HO := hideS fun w => of_num t v w hv h ht
  have HF : Hid (∀ neg N e, OfR t neg N e → (N = 0 → k = 0) ∧ (N ≠ 0 → ∃ P : Nat, e = -(P : Int) ∧ 1 ≤ P ∧ P ≤ 1074 ∧ k = floorI neg (N / 2 ^ P) (decide (N % 2 ^ P ≠ 0)))) := fun neg N e ho => by
    have hp : (0 : Int) < ((2 ^ K : Nat) : Int) := by have := Nat.two_pow_pos K; omega
    have hval : vI t = sg neg N * ((2 ^ (e + 1074).toNat : Nat) : Int) := by
      rw [vI_sB, ← ho.val, sg_mul_nat]
      by_cases h0 : N = 0
      · rw [h0, sg_zero_any, sg_zero_any]
      · rw [ho.sgn h0]
    constructor
    · intro h0
      rw [h0, sg_zero_any, Int.zero_mul] at hval
      rw [hval] at h1 h2
      exact floor_unique hp h1 h2 (by rw [Int.zero_mul]; exact Int.le_refl _) (by rw [Int.zero_add, Int.one_mul]; exact hp)
    · intro h0
      have hlo := ho.lo
      have hneg : e < 0 := by
        obtain ⟨m1, m2⟩ := ho.mag h0
        by_cases c : e < 0
        · exact c
        · exfalso
          have hpl : 1074 ≤ pl (t % 9223372036854775808) := by omega
          have hmg : 4503599627370496 ≤ N := by rw [m1]; exact mg_ge (by unfold pl at hpl; omega)
          have hb : (vI t).natAbs = N * 2 ^ (e + 1074).toNat := by rw [hval, Int.natAbs_mul, sgn_abs, Int.natAbs_natCast]
          have hp2 : 2 ^ K ≤ 2 ^ (e + 1074).toNat := Nat.pow_le_pow_right (by decide) (by omega)
          have h5 : 4503599627370496 * 2 ^ K ≤ N * 2 ^ (e + 1074).toNat := Nat.mul_le_mul hmg hp2
          have h6 := Int.mul_le_mul_of_nonneg_right k1 (show 0 ≤ ((2 ^ K : Nat) : Int) by omega)
          have h7 := Int.mul_le_mul_of_nonneg_right (show k + 1 ≤ 2001 by omega) (show 0 ≤ ((2 ^ K : Nat) : Int) by omega)
          generalize N * 2 ^ (e + 1074).toNat = a at *
          generalize 2 ^ K = b at *
          generalize (k + 1) * (b : Int) = c1 at *
          generalize k * (b : Int) = c2 at *
          omega
      refine ⟨(-e).toNat, by omega, by omega, by omega, ?_⟩
      have hpe : (2 ^ K : Nat) = 2 ^ (-e).toNat * 2 ^ (e + 1074).toNat := by rw [← Nat.pow_add]; congr 1; omega
      have hq : (0 : Int) < ((2 ^ (e + 1074).toNat : Nat) : Int) := by have := Nat.two_pow_pos (e + 1074).toNat; omega
      have hP : 0 < 2 ^ (-e).toNat := Nat.two_pow_pos _
      rw [hpe, Int.natCast_mul, ← Int.mul_assoc, hval] at h1 h2
      obtain ⟨f1, f2⟩ := floor_bounds (neg := neg) (N := N) hP
      exact floor_unique (by omega) (Int.le_of_mul_le_mul_right h1 hq) (Int.lt_of_mul_lt_mul_right h2 (by omega)) f1 f2
  clear h ht h1 h2
  go_enter Try.func54, Try.ntmps54
  go_wp2_with fail
  refine (HO.out _).mono ?_
  rintro r w1 ⟨neg, vx, N, e, rfl, hdx, hX, hb1⟩
  obtain ⟨p, l, c, rfl⟩ := hdx.shape
  obtain ⟨g1, g2⟩ := HF.out neg N e hX
  have HBox := hideS (boxN_below w1 neg (.slice p l c) e)
  have HDb := hideS (hdx.below HBox.out)
  have HB1 := hideS (hb1.trans (HBox.out.mono hb1.size))
  have HNl := hideS hX.lt
  clear hX hdx hb1 HO HF
  go_wp2_with fail
  by_cases h0 : N = 0
  · have hk := g1 h0
    clear g1 g2
    refine (zero_at _ _ _ N true _ HDb.out (decide_eq_true h0)).mono ?_
    rintro r w2 ⟨rfl, hb2⟩
    have HB2 := hideS (HB1.out.trans (hb2.mono HB1.out.size))
    have HK := hideS hk
    clear hb2 hk h0
    go_wp2_with fail
    go_ret
    exact ⟨ret_int HK.out.symm, HB2.out⟩
  · obtain ⟨P, hP, hP1, hP2, hk⟩ := g2 h0
    clear g1 g2
    have hQl : N / 2 ^ P < 9007199254740992 := Nat.lt_of_le_of_lt (Nat.div_le_self _ _) HNl.out
    refine (zero_at _ _ _ N false _ HDb.out (decide_eq_false h0)).mono ?_
    rintro r w2 ⟨rfl, hb2⟩
    obtain ⟨c0, c1, c2⟩ := box_cells hb2
    have hz2 : w1.heap.size < w2.heap.size := by have := hb2.size; simp at this; omega
    have HB2 := hideS (HB1.out.trans (hb2.mono HB1.out.size))
    have he : e < 0 := by omega
    have he2 : -1074 ≤ e := by omega
    have HPe : Hid (-e = (P : Int)) := by show _ = _; omega
    have HSh := hideS (shiftDown_at (.slice p l c) N P (-e) w2 (HDb.out.below hb2) (by have := nd_two HNl.out; omega) HPe)
    have h3 := two_digits (K := N / 2 ^ P) (by omega)
    have b0 := dgt_lt (N / 2 ^ P) 0
    have b1 : dgt (N / 2 ^ P) 1 ≤ 2097152 := by omega
    obtain ⟨q0, hq0⟩ : ∃ q0 : Int, (dgt (N / 2 ^ P) 0 : Int) = q0 := ⟨_, rfl⟩
    obtain ⟨q1, hq1⟩ : ∃ q1 : Int, (dgt (N / 2 ^ P) 1 : Int) = q1 := ⟨_, rfl⟩
    obtain ⟨Q, hQ⟩ : ∃ Q : Int, ((N / 2 ^ P : Nat) : Int) = Q := ⟨_, rfl⟩
    have hsum : q0 + q1 * 4294967296 = Q := by omega
    have d0 : 0 ≤ q0 ∧ q0 < 4294967296 := by omega
    have d1 : 0 ≤ q1 ∧ q1 ≤ 2097152 := by omega
    have hQ0 : 0 ≤ Q ∧ Q < 9007199254740992 := by omega
    have HK : Hid (k = if neg then (if lostB N P then -Q - 1 else -Q) else Q) := by
      show _ = _
      rw [← hQ]; exact hk
    have HD0 := hideS hq0
    have HD1 := hideS hq1
    clear hb2 hk h0 hP hP1 hP2 h3 b0 b1 hq0 hq1 hQ hQl HPe
    obtain ⟨d0a, d0b⟩ := d0
    obtain ⟨d1a, d1b⟩ := d1
    obtain ⟨hQa, hQb⟩ := hQ0
    go_wp2_with fail
    refine HSh.out.mono ?_
    rintro r w3 ⟨v3, rfl, hd3, hb3⟩
    have HB3 := hideS (HB2.out.trans (hb3.mono HB2.out.size))
    have e0 : w3.cell? ⟨w1.heap.size, 0, none⟩ = some (.bool neg) := (hb3.cell (p := ⟨w1.heap.size, 0, none⟩) hz2).trans c0
    have HD3 := hideS hd3
    clear hb3 hd3 c0 c1 c2 HSh
    generalize lostB N P = lost at HK ⊢
    go_wp2_with fail
    refine (turned (digit_at v3 (N / 2 ^ P) 0 0 q0 _ HD3.out rfl HD0)).mono ?_
    rintro r w' ⟨rfl, rfl⟩
    go_wp2_with fail
    refine (turned (digit_at v3 (N / 2 ^ P) 1 1 q1 _ HD3.out rfl HD1)).mono ?_
    rintro r w' ⟨rfl, rfl⟩
    clear HD3 HD0 HD1
    cases neg <;> cases lost
    all_goals
      go_wp2_with fail
      go_ret
      exact ⟨ret_int HK.out.symm, HB3.out⟩
end Go.Proofs.Ytbkmbdbjeiffpaa
namespace Go.Proofs.Ytbkmbdbjeiffpaa
open Go.RowKit

theorem floatOf_fi (m : Int) : floatOfInt .f64 m = fi m := by
  show Ieee.double.nearest (decide (m < 0)) m.natAbs 0 = _
  unfold fi joinN
  by_cases h0 : m = 0
  · subst h0; rfl
  · rw [if_neg h0, nearest_eq _ (by omega)]
    by_cases hn : m < 0
    · simp only [hn, decide_true, if_true]; rw [word_true]
    · simp only [hn, decide_false, if_false]; rw [word_false]
theorem store_f64 (P : Program) (w : World) (a : Addr) (x : Nat) (z : Value) (h : w.cell? a = some z) (hf : w.frozen? a = false) : (store a (.float .f64 x)).run P w = .ok () (w.setCell a (.float .f64 x)) := by
  rw [run_store P w a _ _ rfl, h]; simp [hf]
theorem info_f64 : (Try.prog.info? 22).map (fun i => (i.zero, i.size, i.bytes)) = some (some (.float .f64 0), 1, 8) := by kernel_rfl

def expL : List Nat := [4607182418800017408, 4607182418800017408, 4602678819172646912, 4595172819793696085, 4586165620538955093, 4575957461383581969, 4564047942368979991, 4551452160554016794, 4537941361671905306, 4523617214285662004, 4508805057796939612, 4493156764026750180, 4477122120089393304, 4460272573143870729]
def lnL : List Nat := [4607182418800017408, 4599676419421066581, 4596373779694328218, 4594314991293244562, 4592670820000712476, 4591215111030249286, 4590207312512236308, 4589468260265693457, 4588638185040256542, 4587745830934523688, 4587023449039406616]
/-- The product ahead of round k. -/
def facN : Nat → Nat
  | 0 => 1
  | k + 1 => facN k * max k 1
theorem exp_row : ∀ k, k < 14 → floatBits .quo .f64 4607182418800017408 (fi (facN (k + 1) : Int)) = some (expL.getD k 0) := by decide +kernel
theorem ln_row : ∀ k, k < 11 → floatBits .quo .f64 4607182418800017408 (fi ((2 * k + 1 : Nat) : Int)) = some (lnL.getD k 0) := by decide +kernel
theorem fac_bd : ∀ k, k < 15 → 1 ≤ facN k ∧ facN k ≤ 6227020800 := by decide +kernel

/-- A new row, filled up to j. -/
def HalfF (w : World) (b n : Nat) (l : List Nat) (j : Nat) : Prop := w.rowIs b 22 n (fun i => .float .f64 (if i < j then l.getD i 0 else 0))
theorem halfF_made (w : World) (n : Nat) (l : List Nat) : HalfF (w.alloc (.cells (madeCells #[.float .f64 0] n) 22)) w.heap.size n l 0 :=
  (World.rowIs_made w (.float .f64 0) n 22).congr (fun i _ => by rw [if_neg (by omega)])
theorem halfF_step {w : World} {b n j x : Nat} {l : List Nat} (h : HalfF w b n l j) (hx : x = l.getD j 0) : HalfF (w.setCell ⟨b, j, none⟩ (.float .f64 x)) b n l (j + 1) := by
  refine (h.set j (.float .f64 x)).congr fun i _ => ?_
  by_cases c : i = j
  · rw [if_pos c, if_pos (by omega), hx, c]
  · rw [if_neg c]
    by_cases d : i < j
    · rw [if_pos d, if_pos (by omega)]
    · rw [if_neg d, if_neg (by omega)]
theorem halfF_src {w : World} {b n : Nat} {l : List Nat} (h : HalfF w b n l n) (hn : l.length = n) : Src w (some ⟨b, 0, none⟩) b 0 l :=
  ⟨fun _ => rfl, fun _ => h.lt, fun j hj => by
    rw [Nat.zero_add]
    have := h.cell (i := j) (by omega)
    rw [if_pos (by omega)] at this; exact this⟩

set_option maxHeartbeats 800000 in
theorem expTerms_any (w : World) :
    Calls Try.prog 80 #[] w fun e w' => e = .returned (.slice (some ⟨w.heap.size, 0, none⟩) 14 14) ∧ Src w' (some ⟨w.heap.size, 0, none⟩) w.heap.size 0 expL ∧ Below w.heap.size w w' := by
  have hmk := fun w => run_make_row' (P := Try.prog) 84 22 (.float .f64 0) 8 Try.underlying84 info_f64 rfl .i64 .i64 14 (by omega) (by omega) w
  rw [show ((14 : Nat) : Int) = 14 from rfl] at hmk
  have HO := hideS (halfF_made w 14 expL)
  go_enter Try.func80, Try.ntmps80
  go_wp2_with fail
  go_loopw [2, 5] (fun s i wr => ∃ k f : Nat, k ≤ 14 ∧ i = .int .i64 k ∧ s = .int .i64 f ∧ Hid (f = facN k) ∧ Hid (HalfF wr w.heap.size 14 expL k) ∧ Hid (Below w.heap.size w wr)) (fun _ i _ => 14 - (intOf i).toNat)
  case atStart => exact ⟨0, 1, Nat.zero_le _, rfl, rfl, rfl, HO, (Below.refl _ _).alloc (Nat.le_refl _) _⟩
  case round =>
    clear HO hmk
    obtain ⟨k, f, hk, rfl, rfl, HF, HH, HB⟩ := hrel
    by_cases hlt : k < 14
    · have hb := fac_bd k (by omega)
      have hb2 := fac_bd (k + 1) (by omega)
      rw [← HF.out] at hb
      have hdv := exp_row k hlt
      obtain ⟨f', hf'⟩ : ∃ f', facN (k + 1) = f' := ⟨_, rfl⟩
      have HF' : Hid (f' = facN (k + 1)) := hf'.symm
      rw [hf'] at hdv hb2
      have hmx : max (k : Int) 1 = ((max k 1 : Nat) : Int) := by omega
      have hml : (f : Int) * ((max k 1 : Nat) : Int) = (f' : Int) := by rw [← hf']; show _ = ((facN k * max k 1 : Nat) : Int); rw [HF.out, Int.natCast_mul]
      clear hf' HF
      generalize ((max k 1 : Nat) : Int) = mx at hmx hml
      obtain ⟨x, hx⟩ : ∃ x, expL.getD k 0 = x := ⟨_, rfl⟩
      have HX : Hid (x = expL.getD k 0) := hx.symm
      rw [hx] at hdv
      clear hx
      have hfo := floatOf_fi (f' : Int)
      have r1 := fun w => run_float_arith (P := Try.prog) w .quo 22 .f64 4607182418800017408 (fi (f' : Int)) x hdv
      clear hdv
      generalize fi (f' : Int) = y at hfo r1
      have hcz := HH.out.cell (i := k) hlt
      rw [if_neg (by omega)] at hcz
      have hfz := HH.out.frozen k
      have hst := store_f64 Try.prog wr ⟨w.heap.size, k, none⟩ x _ hcz hfz
      go_wp2_with fail
      go_roundw
      case rel => exact ⟨k + 1, f', by omega, by simp, rfl, HF', halfF_step HH.out HX.out, HB.out.setCell (Nat.le_refl _) _⟩
      case measure => simp [intOf]; omega
    · obtain rfl : k = 14 := by omega
      have HS := hideS (halfF_src HH.out (by rfl))
      go_wp2_with fail
      go_ret
      exact ⟨rfl, HS.out, HB.out⟩

set_option maxHeartbeats 800000 in
theorem lnTerms_any (w : World) :
    Calls Try.prog 85 #[] w fun e w' => e = .returned (.slice (some ⟨w.heap.size, 0, none⟩) 11 11) ∧ Src w' (some ⟨w.heap.size, 0, none⟩) w.heap.size 0 lnL ∧ Below w.heap.size w w' := by
  have hmk := fun w => run_make_row' (P := Try.prog) 84 22 (.float .f64 0) 8 Try.underlying84 info_f64 rfl .i64 .i64 11 (by omega) (by omega) w
  rw [show ((11 : Nat) : Int) = 11 from rfl] at hmk
  have HO := hideS (halfF_made w 11 lnL)
  go_enter Try.func85, Try.ntmps85
  go_wp2_with fail
  go_loopw [4] (fun i wr => ∃ k : Nat, k ≤ 11 ∧ i = .int .i64 k ∧ Hid (HalfF wr w.heap.size 11 lnL k) ∧ Hid (Below w.heap.size w wr)) (fun i _ => 11 - (intOf i).toNat)
  case atStart => exact ⟨0, Nat.zero_le _, rfl, HO, (Below.refl _ _).alloc (Nat.le_refl _) _⟩
  case round =>
    clear HO hmk
    obtain ⟨k, hk, rfl, HH, HB⟩ := hrel
    by_cases hlt : k < 11
    · have hdv := ln_row k hlt
      have hml : (2 : Int) * (k : Int) + 1 = ((2 * k + 1 : Nat) : Int) := by omega
      obtain ⟨m, hm⟩ : ∃ m : Int, ((2 * k + 1 : Nat) : Int) = m := ⟨_, rfl⟩
      rw [hm] at hdv hml
      clear hm
      obtain ⟨x, hx⟩ : ∃ x, lnL.getD k 0 = x := ⟨_, rfl⟩
      have HX : Hid (x = lnL.getD k 0) := hx.symm
      rw [hx] at hdv
      clear hx
      have hfo := floatOf_fi m
      have r1 := fun w => run_float_arith (P := Try.prog) w .quo 22 .f64 4607182418800017408 (fi m) x hdv
      clear hdv
      generalize fi m = y at hfo r1
      have hcz := HH.out.cell (i := k) hlt
      rw [if_neg (by omega)] at hcz
      have hfz := HH.out.frozen k
      have hst := store_f64 Try.prog wr ⟨w.heap.size, k, none⟩ x _ hcz hfz
      go_wp2_with fail
      go_roundw
      case rel => exact ⟨k + 1, by omega, by simp, halfF_step HH.out HX.out, HB.out.setCell (Nat.le_refl _) _⟩
      case measure => simp [intOf]; omega
    · obtain rfl : k = 11 := by omega
      have HS := hideS (halfF_src HH.out (by rfl))
      go_wp2_with fail
      go_ret
      exact ⟨rfl, HS.out, HB.out⟩
end Go.Proofs.Ytbkmbdbjeiffpaa
