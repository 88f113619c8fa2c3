/- The contract of the document's Add at any bits. -/
import Derived.Test.YtdmldggjgaaliaaGreatRefMul
namespace Go.Proofs.YtdmldggjgaaliaaGreat
open Go.RowKit

theorem vI_sB (x : Nat) : vI x = sg (sB x) (aV x) := rfl
theorem sg_mul_nat (neg : Bool) (N k : Nat) : sg neg (N * k) = sg neg N * (k : Int) := by
  unfold sg; cases neg <;> simp [Int.neg_mul]
theorem sg_zero_any (neg : Bool) : sg neg 0 = 0 := by cases neg <;> rfl
theorem part_val {x X n k : Nat} {nx : Bool} {ex : Int} (h : OfR x nx X ex) (hk : X ≠ 0 → n + k = (ex + 1074).toNat) : sg nx (X * 2 ^ n) * ((2 ^ k : Nat) : Int) = vI x := by
  rw [← sg_mul_nat, Nat.mul_assoc, ← Nat.pow_add, vI_sB, ← h.val]
  by_cases h0 : X = 0
  · rw [h0, Nat.zero_mul, Nat.zero_mul, sg_zero_any, sg_zero_any]
  · rw [hk h0, h.sgn h0]
structure AddR (x y X Y : Nat) (nx ny : Bool) (ex ey E : Int) (n m k : Nat) : Prop where
  hn : X ≠ 0 → ex - E = (n : Int)
  hm : Y ≠ 0 → ey - E = (m : Int)
  hn1 : n ≤ 3000
  hm1 : m ≤ 3000
  lo : -1074 ≤ E
  hi : E ≤ 971
  hk : E + 1074 = (k : Int)
  had : nd (X * 2 ^ n) ≤ 10000000
  hbd : nd (Y * 2 ^ m) ≤ 10000000
  val : (sg nx (X * 2 ^ n) + sg ny (Y * 2 ^ m)) * ((2 ^ k : Nat) : Int) = vI x + vI y
  small : ∃ K, K ≤ 3100 ∧ (sg nx (X * 2 ^ n) + sg ny (Y * 2 ^ m)).natAbs < 2 ^ K
theorem scaled_lt {X n K : Nat} (hK : K = 3060) (h : X < 9007199254740992) (hn : n ≤ 3000) : X * 2 ^ n < 2 ^ K := by
  have h1 : (2 : Nat) ^ n ≤ 2 ^ (K - 60) := Nat.pow_le_pow_right (by decide) (by omega)
  have h2 : X * 2 ^ n < 2 ^ 53 * 2 ^ (K - 60) := Nat.mul_lt_mul_of_lt_of_le h h1 (Nat.two_pow_pos _)
  rw [← Nat.pow_add] at h2
  exact Nat.lt_of_lt_of_le h2 (Nat.pow_le_pow_right (by decide) (by omega))
theorem nd_scaled {X K : Nat} (hK : K ≤ 3100) (h : X < 2 ^ K) : nd X ≤ 1000 := by
  obtain ⟨k, hk⟩ : ∃ k : Nat, k = 97 := ⟨_, rfl⟩
  have := nd_mono (N := X) (k := k) (Nat.lt_of_lt_of_le h (Nat.pow_le_pow_right (by decide) (by omega)))
  omega
theorem lt_more {X a b : Nat} (h : X < 2 ^ a) (hab : a ≤ b) : X < 2 ^ b := Nat.lt_of_lt_of_le h (Nat.pow_le_pow_right (by decide) hab)
theorem sum_small {a b P Q : Nat} {s t : Bool} (h1 : a < P) (h2 : b < P) (hPQ : P + P ≤ Q) : (sg s a + sg t b).natAbs < Q := by
  unfold sg; cases s <;> cases t <;> simp only [Bool.false_eq_true, if_true, if_false] <;> omega
theorem addR_of {x y X Y : Nat} {nx ny : Bool} {ex ey E : Int} (hX : OfR x nx X ex) (hY : OfR y ny Y ey) (hE : bothE X ex Y ey = E) : ∃ n m k, AddR x y X Y nx ny ex ey E n m k := by
  have l1 := hX.lo
  have l2 := hX.hi
  have l3 := hY.lo
  have l4 := hY.hi
  have hEr : -1074 ≤ E ∧ E ≤ 971 ∧ (X ≠ 0 → E ≤ ex) ∧ (Y ≠ 0 → E ≤ ey) := by
    rw [← hE]; unfold bothE
    by_cases a : X = 0
    · rw [if_pos a]; refine ⟨l3, l4, fun h => absurd a h, fun _ => Int.le_refl _⟩
    · rw [if_neg a]
      by_cases b : Y = 0
      · rw [if_pos b]; exact ⟨l1, l2, fun _ => Int.le_refl _, fun h => absurd b h⟩
      · rw [if_neg b]; refine ⟨by omega, by omega, fun _ => by omega, fun _ => by omega⟩
  obtain ⟨e1, e2, e3, e4⟩ := hEr
  obtain ⟨K, hK⟩ : ∃ K : Nat, K = 3060 := ⟨_, rfl⟩
  have s1 := scaled_lt (n := (ex - E).toNat) hK hX.lt (by omega)
  have s2 := scaled_lt (n := (ey - E).toNat) hK hY.lt (by omega)
  refine ⟨(ex - E).toNat, (ey - E).toNat, (E + 1074).toNat, ⟨fun h => by have := e3 h; omega, fun h => by have := e4 h; omega, by omega, by omega, e1, e2, by omega, ?_, ?_, ?_, ?_⟩⟩
  · exact Nat.le_trans (nd_scaled (by omega) s1) (by decide)
  · exact Nat.le_trans (nd_scaled (by omega) s2) (by decide)
  · rw [Int.add_mul, part_val hX (fun h => by have := e3 h; omega), part_val hY (fun h => by have := e4 h; omega)]
  · refine ⟨K + 1, by omega, sum_small s1 s2 ?_⟩
    rw [Nat.pow_succ]; omega
theorem sg_neg_iff {neg : Bool} {N : Nat} (h : N ≠ 0) : decide (sg neg N < 0) = neg := by
  unfold sg
  cases neg
  · simp
  · simp; omega
theorem mul_pow_neg {S : Int} (k : Nat) : (S * ((2 ^ k : Nat) : Int) < 0 ↔ S < 0) ∧ (S * ((2 ^ k : Nat) : Int) = 0 ↔ S = 0) := by
  have hp : (0 : Int) < ((2 ^ k : Nat) : Int) := by have := Nat.two_pow_pos k; omega
  refine ⟨⟨fun h => ?_, fun h => Int.mul_neg_of_neg_of_pos h hp⟩, ⟨fun h => ?_, fun h => by rw [h, Int.zero_mul]⟩⟩
  · by_cases h6 : S < 0
    · exact h6
    · have := Int.mul_nonneg (by omega : 0 ≤ S) (by omega : (0 : Int) ≤ ((2 ^ k : Nat) : Int)); omega
  · rcases Int.mul_eq_zero.1 h with h | h
    · exact h
    · omega
theorem add_val {x y X Y n m k N : Nat} {nx ny neg : Bool} {ex ey E E' : Int} (h : AddR x y X Y nx ny ex ey E n m k) (hs : sg neg N = sg nx (X * 2 ^ n) + sg ny (Y * 2 ^ m)) (hE : E' = E ∨ (E' = 0 ∧ N = 0)) (h0 : N ≠ 0) :
    nearM neg N E' false = (addR (sB x) (sB y) (vI x + vI y) : Int) := by
  obtain ⟨S, hS⟩ : ∃ S, sg neg N = S := ⟨_, rfl⟩
  have hv := h.val
  rw [← hs, hS] at hv
  have hS0 : S ≠ 0 := by
    intro e; rw [e] at hS
    have := sgn_abs neg N
    rw [hS] at this; exact h0 this.symm
  have hab : S.natAbs = N := by rw [← hS]; exact sgn_abs neg N
  have hEE : E' = E := by
    rcases hE with h | ⟨_, h⟩
    · exact h
    · exact absurd h h0
  rw [nearM_eq neg E' h0, hEE]
  unfold addR
  rw [← hv]
  obtain ⟨m1, m2⟩ := mul_pow_neg (S := S) k
  rw [if_neg (fun e => hS0 (m2.1 e))]
  unfold joinN
  rw [if_neg (fun e => hS0 (m2.1 e)), natAbs_mul_pow, hab]
  have h7 := nearR_scale h0 k E
  rw [show E - (k : Int) = -1074 by have := h.hk; omega] at h7
  rw [h7]
  have hd := sg_neg_iff (neg := neg) h0
  rw [hS] at hd
  cases neg
  · rw [if_neg (by decide), if_neg (fun e => by have := m1.1 e; simp at hd; omega)]; omega
  · rw [if_pos rfl, if_pos (m1.2 (by simpa using hd))]; omega
theorem zero_V {r : Nat} (h : V r = 0) : r = 0 := by
  have := V_eq_iff (r := r) (s := 0)
  rw [V_zero] at this
  exact this.1 h
/-- A sum of nothing: what is told. -/
theorem add_none {x y : Nat} {u v : Int} (hu : u = (x : Int)) (hv : v = (y : Int)) (h : U64 u) (h' : U64 v) (hT : vI x + vI y = 0) :
    (((szI u == 0) = true ∧ (u == v) = true) ∧ u = (addR (sB x) (sB y) (vI x + vI y) : Int)) ∨ (((szI u == 0) = false ∨ ((szI u == 0) = true ∧ (u == v) = false)) ∧ (0 : Int) = (addR (sB x) (sB y) (vI x + vI y) : Int)) := by
  have e1 := bits_class hu
  have hx64 : x < 18446744073709551616 := by have := h.2; omega
  have hy64 : y < 18446744073709551616 := by have := h'.2; omega
  unfold addR
  rw [if_pos hT]
  rw [vI_sB, vI_sB] at hT
  by_cases hz : szI u = 0
  · have hx0 : x % 9223372036854775808 = 0 := by omega
    have hax : aV x = 0 := by unfold aV; rw [hx0]; exact V_zero
    have hay : aV y = 0 := by
      rw [hax, sg_zero_any, Int.zero_add] at hT
      have := sgn_abs (sB y) (aV y); rw [hT] at this; exact this.symm
    have hy0 : y % 9223372036854775808 = 0 := zero_V hay
    by_cases hq : u = v
    · left
      refine ⟨⟨by rw [hz]; rfl, by rw [hq]; exact beq_self_eq_true v⟩, ?_⟩
      have hxy : x = y := by omega
      subst hxy
      unfold sB
      rcases (show x = 0 ∨ x = 9223372036854775808 by omega) with e | e
      · subst e; rw [hu]; rfl
      · subst e; rw [hu]; rfl
    · right
      refine ⟨Or.inr ⟨by rw [hz]; rfl, by simpa using hq⟩, ?_⟩
      unfold sB
      rcases (show x = 0 ∨ x = 9223372036854775808 by omega) with e | e
      · subst e; rfl
      · subst e
        rcases (show y = 0 ∨ y = 9223372036854775808 by omega) with e | e
        · subst e; rfl
        · exact absurd (by rw [hu, hv, e]) hq
  · right
    refine ⟨Or.inl (by simpa using hz), ?_⟩
    have hax : aV x ≠ 0 := fun e => hz (by have := zero_V e; omega)
    cases hsx : sB x
    · rfl
    · cases hsy : sB y
      · rfl
      · rw [hsx, hsy] at hT; unfold sg at hT; simp at hT; omega

theorem add_inf {x y : Nat} (hx : x % 9223372036854775808 = 9218868437227405312) (hy : NumB y) (hx64 : x < 18446744073709551616) : floatBits .add .f64 x y = some x ∧ floatBits .add .f64 y x = some x := by
  have hw : wrd (sB x) 9218868437227405312 = x := by
    unfold wrd sB
    rcases (show x / 9223372036854775808 = 0 ∨ x / 9223372036854775808 = 1 by omega) with e | e
    · rw [e]; simp; omega
    · rw [e]; simp; omega
  constructor
  · show ((Ieee.double.read x).sum (Ieee.double.read y)).map Ieee.double.write = _
    rw [read_inf hx, read_num hy]
    show some (Ieee.double.write (.infinity _)) = _
    rw [write_inf]; exact congrArg some hw
  · show ((Ieee.double.read y).sum (Ieee.double.read x)).map Ieee.double.write = _
    rw [read_inf hx, read_num hy]
    show some (Ieee.double.write (.infinity _)) = _
    rw [write_inf]; exact congrArg some hw
theorem add_infs {x y : Nat} (hx : x % 9223372036854775808 = 9218868437227405312) (hy : y % 9223372036854775808 = 9218868437227405312) (hx64 : x < 18446744073709551616) (hy64 : y < 18446744073709551616) : floatBits .add .f64 x y = if x = y then some x else none := by
  show ((Ieee.double.read x).sum (Ieee.double.read y)).map Ieee.double.write = _
  rw [read_inf hx, read_inf hy]
  rcases (show x = 9218868437227405312 ∨ x = 18442240474082181120 by omega) with e | e <;> rcases (show y = 9218868437227405312 ∨ y = 18442240474082181120 by omega) with e' | e' <;> subst e <;> subst e' <;> decide +kernel

set_option maxHeartbeats 1600000 in
theorem refAdd_nan (u v : Int) (w : World) (h : U64 u) (h' : U64 v) (hc : nanB u = true ∨ (nanB u = false ∧ nanB v = true) ∨ (nanB u = false ∧ nanB v = false ∧ infB u = true ∧ infB v = true ∧ (u == v) = false)) :
    Calls Tryz.prog 28 #[.int .u64 u, .int .u64 v] w fun e w' => e = .returned (.int .u64 9221120237041090561) ∧ w' = w := by
  rcases hc with h1 | ⟨h1, h2⟩ | ⟨h1, h2, h3, h4, h5⟩
  all_goals
    go_enter Tryz.func28, Tryz.ntmps28
    go_wp2_with (first | (go_at_call_of 30 (Value.int IntKind.u64 u); refine (refNaN_any u _ h).mono ?_; rintro e w' ⟨rfl, rfl⟩) | (go_at_call_of 30 (Value.int IntKind.u64 v); refine (refNaN_any v _ h').mono ?_; rintro e w' ⟨rfl, rfl⟩) | (go_at_call_of 51 (Value.int IntKind.u64 u); refine (refInf_any u _ h).mono ?_; rintro e w' ⟨rfl, rfl⟩) | (go_at_call_of 51 (Value.int IntKind.u64 v); refine (refInf_any v _ h').mono ?_; rintro e w' ⟨rfl, rfl⟩))
    go_ret
    exact ⟨rfl, rfl⟩

set_option maxHeartbeats 1600000 in
theorem refAdd_inf (u v r : Int) (w : World) (h : U64 u) (h' : U64 v) (hn : nanB u = false) (hn' : nanB v = false) (hc : (infB u = true ∧ infB v = true ∧ (u == v) = true ∧ r = u) ∨ (infB u = true ∧ infB v = false ∧ r = u) ∨ (infB u = false ∧ infB v = true ∧ r = v)) :
    Calls Tryz.prog 28 #[.int .u64 u, .int .u64 v] w fun e w' => e = .returned (.int .u64 r) ∧ w' = w := by
  rcases hc with ⟨h1, h2, h3, hr⟩ | ⟨h1, h2, hr⟩ | ⟨h1, h2, hr⟩
  all_goals
    have HR := hide hr
    clear hr
    go_enter Tryz.func28, Tryz.ntmps28
    go_wp2_with (first | (go_at_call_of 30 (Value.int IntKind.u64 u); refine (refNaN_any u _ h).mono ?_; rintro e w' ⟨rfl, rfl⟩) | (go_at_call_of 30 (Value.int IntKind.u64 v); refine (refNaN_any v _ h').mono ?_; rintro e w' ⟨rfl, rfl⟩) | (go_at_call_of 51 (Value.int IntKind.u64 u); refine (refInf_any u _ h).mono ?_; rintro e w' ⟨rfl, rfl⟩) | (go_at_call_of 51 (Value.int IntKind.u64 v); refine (refInf_any v _ h').mono ?_; rintro e w' ⟨rfl, rfl⟩))
    go_ret
    exact ⟨ret_int HR.out.symm, rfl⟩

set_option maxHeartbeats 1600000 in
theorem refAdd_num (x y : Nat) (u v R : Int) (w : World) (hu : Hid (u = (x : Int))) (hv : Hid (v = (y : Int))) (h : U64 u) (h' : U64 v) (hx : NumB x) (hy : NumB y) (hR : Hid ((addR (sB x) (sB y) (vI x + vI y) : Int) = R)) (hn : nanB u = false) (hn' : nanB v = false) (hi : infB u = false) (hi' : infB v = false) :
    Calls Tryz.prog 28 #[.int .u64 u, .int .u64 v] w fun e w' => e = .returned (.int .u64 R) ∧ Below w.heap.size w w' := by
  have HN1 := hide (refNaN_any u · h)
  have HN2 := hide (refNaN_any v · h')
  have HI1 := hide (refInf_any u · h)
  have HI2 := hide (refInf_any v · h')
  rw [hn] at HN1
  rw [hn'] at HN2
  rw [hi] at HI1
  rw [hi'] at HI2
  have HO1 := hide fun w => of_num x u w hu h hx
  have HO2 := hide fun w => of_num y v w hv h' hy
  have HSz := hide (refSize_any u · h)
  have HNo := hide fun (hT : vI x + vI y = 0) => add_none hu.out hv.out h h' hT
  clear hx hy hn hn' hi hi' h h'
  go_enter Tryz.func28, Tryz.ntmps28
  go_wp2_with fail
  refine (turnedR (HN1.out _)).mono ?_
  rintro e w' ⟨rfl, rfl⟩
  go_wp2_with fail
  refine (turnedR (HN2.out _)).mono ?_
  rintro e w' ⟨rfl, rfl⟩
  go_wp2_with fail
  refine (turnedR (HI1.out _)).mono ?_
  rintro e w' ⟨rfl, rfl⟩
  go_wp2_with fail
  refine (turnedR (HI1.out _)).mono ?_
  rintro e w' ⟨rfl, rfl⟩
  go_wp2_with fail
  refine (turnedR (HI2.out _)).mono ?_
  rintro e w' ⟨rfl, rfl⟩
  go_wp2_with fail
  refine (HO1.out _).mono ?_
  rintro r w1 ⟨nx, vx, X, ex, rfl, hdx, hX, hb1⟩
  have HB1 := hide hb1
  have HDx := hide hdx
  have HX := hide hX
  clear hb1 hdx hX
  go_wp2_with fail
  refine (HO2.out _).mono ?_
  rintro r w2 ⟨ny, vy, Y, ey, rfl, hdy, hY, hb2⟩
  have HB2 := hide (HB1.out.trans (hb2.mono HB1.out.size))
  have HDx2 := hide (HDx.out.below hb2)
  have HDy := hide hdy
  have HY := hide hY
  clear hb2 hdy hY HB1 HDx
  obtain ⟨E, hE⟩ : ∃ E, bothE X ex Y ey = E := ⟨_, rfl⟩
  obtain ⟨n, m, k, hA⟩ := addR_of HX.out HY.out hE
  have HP := hide (plus_any nx ny vx vy ex ey E X Y n m w2 HDx2.out HDy.out hE hA.hn hA.hm (by have := hA.hn1; omega) (by have := hA.hm1; omega) (by have := nd_two HX.out.lt; omega) (by have := nd_two HY.out.lt; omega) hA.had hA.hbd)
  have HA := hide hA
  clear hA hE
  go_wp2_with fail
  refine HP.out.mono ?_
  rintro r w3 ⟨neg, vs, N, E', rfl, hds, hfs, hs, hEE, hb3⟩
  have HB3 := hide (HB2.out.trans (hb3.mono HB2.out.size))
  obtain ⟨p, l, c, rfl⟩ := hds.shape
  have HD3 := hide hds
  have HEr : Hid (nd N ≤ 1000000 ∧ -10000000 ≤ E' ∧ E' ≤ 10000000) := by
    obtain ⟨K, hK, h1⟩ := HA.out.small
    rw [← hs, sgn_abs] at h1
    have h2 := nd_scaled hK h1
    have h3 := HA.out.lo
    have h4 := HA.out.hi
    refine ⟨by omega, ?_, ?_⟩ <;> rcases hEE with e | ⟨e, _⟩ <;> omega
  have HV : Hid (N ≠ 0 → nearM neg N E' false = R) := fun h0 => by rw [← hR.out]; exact add_val HA.out hs hEE h0
  have HT : Hid (N = 0 → vI x + vI y = 0) := fun h0 => by rw [← HA.out.val, ← hs, h0, sg_zero_any, Int.zero_mul]
  clear hds hfs hs hEE hb3 HB2 HA HP HDx2 HDy HX HY HO1 HO2
  have HBox := hide (boxN_below w3 neg (.slice p l c) E')
  have HDb := hide (HD3.out.below HBox.out)
  have HB3b := hide (HB3.out.trans (HBox.out.mono HB3.out.size))
  go_wp2_with fail
  by_cases h0 : N = 0
  · have HT0 := hide (HNo.out (HT.out h0))
    rw [hR.out] at HT0
    refine (zero_at _ _ _ N true _ HDb.out (decide_eq_true h0)).mono ?_
    rintro r w4 ⟨rfl, hb4⟩
    have HB4 := hide (HB3b.out.trans (hb4.mono HB3b.out.size))
    clear hb4 h0
    rcases HT0.out with ⟨⟨a1, a2⟩, a3⟩ | ⟨a1 | ⟨a1, a2⟩, a3⟩
    all_goals
      have HA3 := hide a3
      clear a3 HT0
      go_wp2_with (go_at_call 32; refine (turnedR (HSz.out _)).mono ?_; rintro r w5 ⟨rfl, rfl⟩)
      go_ret
      exact ⟨ret_int HA3.out, HB4.out⟩
  · refine (zero_at _ _ _ N false _ HDb.out (decide_eq_false h0)).mono ?_
    rintro r w4 ⟨rfl, hb4⟩
    obtain ⟨c0, c1, c2⟩ := box_cells hb4
    have HB4 := hide (HB3b.out.trans (hb4.mono HB3b.out.size))
    have HNr := hide (near_agg neg _ E' N w4 (HDb.out.below hb4) HEr.out.1 HEr.out.2.1 HEr.out.2.2)
    rw [HV.out h0] at HNr
    clear hb4 h0 HDb HBox HB3b HB3 HD3 HEr HV HT HNo
    go_wp2_with fail
    refine HNr.out.mono ?_
    rintro r w5 ⟨rfl, hb5⟩
    have HB5 := hide (HB4.out.trans (hb5.mono HB4.out.size))
    clear hb5
    go_wp2_with fail
    go_ret
    exact ⟨rfl, HB5.out⟩

/-- The document's Add is the model's. -/
theorem refAdd_any (x y : Nat) (u v : Int) (w : World) (hu : Hid (u = (x : Int))) (hv : Hid (v = (y : Int))) (h : U64 u) (h' : U64 v) :
    Calls Tryz.prog 28 #[.int .u64 u, .int .u64 v] w fun e w' => e = .returned (.int .u64 (cn (floatBits .add .f64 x y) : Int)) ∧ Below w.heap.size w w' := by
  have hx64 : x < 18446744073709551616 := by have := h.2; rw [hu.out] at this; omega
  have hy64 : y < 18446744073709551616 := by have := h'.2; rw [hv.out] at this; omega
  have same : ∀ {r : Int}, (Calls Tryz.prog 28 #[.int .u64 u, .int .u64 v] w fun e w' => e = .returned (.int .u64 r) ∧ w' = w) → (cn (floatBits .add .f64 x y) : Int) = r → Calls Tryz.prog 28 #[.int .u64 u, .int .u64 v] w fun e w' => e = .returned (.int .u64 (cn (floatBits .add .f64 x y) : Int)) ∧ Below w.heap.size w w' := fun hc e => by
    rw [e]
    exact hc.mono fun _ _ ⟨a, b⟩ => ⟨a, by rw [b]; exact Below.refl _ _⟩
  cases hn : nanB u with
  | true =>
    refine same (refAdd_nan u v w h h' (Or.inl hn)) ?_
    rw [nan_left (by rw [← hu.out]; exact hn)]; rfl
  | false =>
    cases hn' : nanB v with
    | true =>
      refine same (refAdd_nan u v w h h' (Or.inr (Or.inl ⟨hn, hn'⟩))) ?_
      rw [nan_right (by rw [← hv.out]; exact hn')]; rfl
    | false =>
      cases hi : infB u with
      | true =>
        have ix := inf_of hu.out hi
        cases hi' : infB v with
        | true =>
          have iy := inf_of hv.out hi'
          by_cases hq : x = y
          · refine same (refAdd_inf u v u w h h' hn hn' (Or.inl ⟨hi, hi', by rw [hu.out, hv.out, hq]; exact beq_self_eq_true _, rfl⟩)) ?_
            rw [add_infs ix iy hx64 hy64, if_pos hq, cn_some, hu.out]
          · refine same (refAdd_nan u v w h h' (Or.inr (Or.inr ⟨hn, hn', hi, hi', ?_⟩))) ?_
            · rw [hu.out, hv.out]; simp; omega
            · rw [add_infs ix iy hx64 hy64, if_neg hq]; rfl
        | false =>
          have ny := num_of hv.out hn' hi'
          refine same (refAdd_inf u v u w h h' hn hn' (Or.inr (Or.inl ⟨hi, hi', rfl⟩))) ?_
          rw [(add_inf ix ny hx64).1, cn_some, hu.out]
      | false =>
        have nx := num_of hu.out hn hi
        cases hi' : infB v with
        | true =>
          have iy := inf_of hv.out hi'
          refine same (refAdd_inf u v v w h h' hn hn' (Or.inr (Or.inr ⟨hi, hi', rfl⟩))) ?_
          rw [(add_inf iy nx hy64).2, cn_some, hv.out]
        | false =>
          have ny := num_of hv.out hn' hi'
          have e : cn (floatBits .add .f64 x y) = addR (sB x) (sB y) (vI x + vI y) := by rw [add_num nx ny, cn_some]; rfl
          rw [e]
          exact refAdd_num x y u v _ w hu hv h h' nx ny rfl hn hn' hi hi'
end Go.Proofs.YtdmldggjgaaliaaGreat
