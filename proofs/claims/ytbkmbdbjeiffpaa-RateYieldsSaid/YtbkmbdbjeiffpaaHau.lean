/- The contract of the document's Add at any bits. What floats tell fits 64 bits; the contracts of tenorlaw1.Bits, tenorlaw1.Are and of the document's Horner. -/
import Derived.Test.YtbkmbdbjeiffpaaHar
namespace Go.Proofs.Ytbkmbdbjeiffpaa
open Go.RowKit

theorem vI_sB (x : Nat) : vI x = sg (sB x) (aV x) := rfl
theorem sg_mul_nat (neg : Bool) (N k : Nat) : sg neg (N * k) = sg neg N * (k : Int) := by
  unfold sg; cases neg <;> simp [Int.neg_mul]
theorem sg_zero_any (neg : Bool) : sg neg 0 = 0 := by cases neg <;> rfl
theorem part_val {x X n k : Nat} {nx : Bool} {ex : Int} (h : OfR x nx X ex) (hk : X ≠ 0 → n + k = (ex + 1074).toNat) : sg nx (X * 2 ^ n) * ((2 ^ k : Nat) : Int) = vI x := by
  rw [← sg_mul_nat, Nat.mul_assoc, ← Nat.pow_add, vI_sB, ← h.val]
  by_cases h0 : X = 0
  · rw [h0, Nat.zero_mul, Nat.zero_mul, sg_zero_any, sg_zero_any]
  · rw [hk h0, h.sgn h0]
structure AddR (x y X Y : Nat) (nx ny : Bool) (ex ey E : Int) (n m k : Nat) : Prop where
  hn : X ≠ 0 → ex - E = (n : Int)
  hm : Y ≠ 0 → ey - E = (m : Int)
  hn1 : n ≤ 3000
  hm1 : m ≤ 3000
  lo : -1074 ≤ E
  hi : E ≤ 971
  hk : E + 1074 = (k : Int)
  had : nd (X * 2 ^ n) ≤ 10000000
  hbd : nd (Y * 2 ^ m) ≤ 10000000
  val : (sg nx (X * 2 ^ n) + sg ny (Y * 2 ^ m)) * ((2 ^ k : Nat) : Int) = vI x + vI y
  small : ∃ K, K ≤ 3100 ∧ (sg nx (X * 2 ^ n) + sg ny (Y * 2 ^ m)).natAbs < 2 ^ K
theorem scaled_lt {X n K : Nat} (hK : K = 3060) (h : X < 9007199254740992) (hn : n ≤ 3000) : X * 2 ^ n < 2 ^ K := by
  have h1 : (2 : Nat) ^ n ≤ 2 ^ (K - 60) := Nat.pow_le_pow_right (by decide) (by omega)
  have h2 : X * 2 ^ n < 2 ^ 53 * 2 ^ (K - 60) := Nat.mul_lt_mul_of_lt_of_le h h1 (Nat.two_pow_pos _)
  rw [← Nat.pow_add] at h2
  exact Nat.lt_of_lt_of_le h2 (Nat.pow_le_pow_right (by decide) (by omega))
theorem nd_scaled {X K : Nat} (hK : K ≤ 3100) (h : X < 2 ^ K) : nd X ≤ 1000 := by
  obtain ⟨k, hk⟩ : ∃ k : Nat, k = 97 := ⟨_, rfl⟩
  have := nd_mono (N := X) (k := k) (Nat.lt_of_lt_of_le h (Nat.pow_le_pow_right (by decide) (by omega)))
  omega
theorem lt_more {X a b : Nat} (h : X < 2 ^ a) (hab : a ≤ b) : X < 2 ^ b := Nat.lt_of_lt_of_le h (Nat.pow_le_pow_right (by decide) hab)
theorem sum_small {a b P Q : Nat} {s t : Bool} (h1 : a < P) (h2 : b < P) (hPQ : P + P ≤ Q) : (sg s a + sg t b).natAbs < Q := by
  unfold sg; cases s <;> cases t <;> simp only [Bool.false_eq_true, if_true, if_false] <;> omega
theorem addR_of {x y X Y : Nat} {nx ny : Bool} {ex ey E : Int} (hX : OfR x nx X ex) (hY : OfR y ny Y ey) (hE : bothE X ex Y ey = E) : ∃ n m k, AddR x y X Y nx ny ex ey E n m k := by
  have l1 := hX.lo
  have l2 := hX.hi
  have l3 := hY.lo
  have l4 := hY.hi
  have hEr : -1074 ≤ E ∧ E ≤ 971 ∧ (X ≠ 0 → E ≤ ex) ∧ (Y ≠ 0 → E ≤ ey) := by
    rw [← hE]; unfold bothE
    by_cases a : X = 0
    · rw [if_pos a]; refine ⟨l3, l4, fun h => absurd a h, fun _ => Int.le_refl _⟩
    · rw [if_neg a]
      by_cases b : Y = 0
      · rw [if_pos b]; exact ⟨l1, l2, fun _ => Int.le_refl _, fun h => absurd b h⟩
      · rw [if_neg b]; refine ⟨by omega, by omega, fun _ => by omega, fun _ => by omega⟩
  obtain ⟨e1, e2, e3, e4⟩ := hEr
  obtain ⟨K, hK⟩ : ∃ K : Nat, K = 3060 := ⟨_, rfl⟩
  have s1 := scaled_lt (n := (ex - E).toNat) hK hX.lt (by omega)
  have s2 := scaled_lt (n := (ey - E).toNat) hK hY.lt (by omega)
  refine ⟨(ex - E).toNat, (ey - E).toNat, (E + 1074).toNat, ⟨fun h => by have := e3 h; omega, fun h => by have := e4 h; omega, by omega, by omega, e1, e2, by omega, ?_, ?_, ?_, ?_⟩⟩
  · exact Nat.le_trans (nd_scaled (by omega) s1) (by decide)
  · exact Nat.le_trans (nd_scaled (by omega) s2) (by decide)
  · rw [Int.add_mul, part_val hX (fun h => by have := e3 h; omega), part_val hY (fun h => by have := e4 h; omega)]
  · refine ⟨K + 1, by omega, sum_small s1 s2 ?_⟩
    rw [Nat.pow_succ]; omega
theorem sg_neg_iff {neg : Bool} {N : Nat} (h : N ≠ 0) : decide (sg neg N < 0) = neg := by
  unfold sg
  cases neg
  · simp
  · simp; omega
theorem mul_pow_neg {S : Int} (k : Nat) : (S * ((2 ^ k : Nat) : Int) < 0 ↔ S < 0) ∧ (S * ((2 ^ k : Nat) : Int) = 0 ↔ S = 0) := by
  have hp : (0 : Int) < ((2 ^ k : Nat) : Int) := by have := Nat.two_pow_pos k; omega
  refine ⟨⟨fun h => ?_, fun h => Int.mul_neg_of_neg_of_pos h hp⟩, ⟨fun h => ?_, fun h => by rw [h, Int.zero_mul]⟩⟩
  · by_cases h6 : S < 0
    · exact h6
    · have := Int.mul_nonneg (by omega : 0 ≤ S) (by omega : (0 : Int) ≤ ((2 ^ k : Nat) : Int)); omega
  · rcases Int.mul_eq_zero.1 h with h | h
    · exact h
    · omega
theorem add_val {x y X Y n m k N : Nat} {nx ny neg : Bool} {ex ey E E' : Int} (h : AddR x y X Y nx ny ex ey E n m k) (hs : sg neg N = sg nx (X * 2 ^ n) + sg ny (Y * 2 ^ m)) (hE : E' = E ∨ (E' = 0 ∧ N = 0)) (h0 : N ≠ 0) :
    nearM neg N E' false = (addR (sB x) (sB y) (vI x + vI y) : Int) := by
  obtain ⟨S, hS⟩ : ∃ S, sg neg N = S := ⟨_, rfl⟩
  have hv := h.val
  rw [← hs, hS] at hv
  have hS0 : S ≠ 0 := by
    intro e; rw [e] at hS
    have := sgn_abs neg N
    rw [hS] at this; exact h0 this.symm
  have hab : S.natAbs = N := by rw [← hS]; exact sgn_abs neg N
  have hEE : E' = E := by
    rcases hE with h | ⟨_, h⟩
    · exact h
    · exact absurd h h0
  rw [nearM_eq neg E' h0, hEE]
  unfold addR
  rw [← hv]
  obtain ⟨m1, m2⟩ := mul_pow_neg (S := S) k
  rw [if_neg (fun e => hS0 (m2.1 e))]
  unfold joinN
  rw [if_neg (fun e => hS0 (m2.1 e)), natAbs_mul_pow, hab]
  have h7 := nearR_scale h0 k E
  rw [show E - (k : Int) = -1074 by have := h.hk; omega] at h7
  rw [h7]
  have hd := sg_neg_iff (neg := neg) h0
  rw [hS] at hd
  cases neg
  · rw [if_neg (by decide), if_neg (fun e => by have := m1.1 e; simp at hd; omega)]; omega
  · rw [if_pos rfl, if_pos (m1.2 (by simpa using hd))]; omega
theorem zero_V {r : Nat} (h : V r = 0) : r = 0 := by
  have := V_eq_iff (r := r) (s := 0)
  rw [V_zero] at this
  exact this.1 h
/-- A sum of nothing: what is told. -/
theorem add_none {x y : Nat} {u v : Int} (hu : u = (x : Int)) (hv : v = (y : Int)) (h : U64 u) (h' : U64 v) (hT : vI x + vI y = 0) :
    (((szI u == 0) = true ∧ (u == v) = true) ∧ u = (addR (sB x) (sB y) (vI x + vI y) : Int)) ∨ (((szI u == 0) = false ∨ ((szI u == 0) = true ∧ (u == v) = false)) ∧ (0 : Int) = (addR (sB x) (sB y) (vI x + vI y) : Int)) := by
  have e1 := bits_class hu
  have hx64 : x < 18446744073709551616 := by have := h.2; omega
  have hy64 : y < 18446744073709551616 := by have := h'.2; omega
  unfold addR
  rw [if_pos hT]
  rw [vI_sB, vI_sB] at hT
  by_cases hz : szI u = 0
  · have hx0 : x % 9223372036854775808 = 0 := by omega
    have hax : aV x = 0 := by unfold aV; rw [hx0]; exact V_zero
    have hay : aV y = 0 := by
      rw [hax, sg_zero_any, Int.zero_add] at hT
      have := sgn_abs (sB y) (aV y); rw [hT] at this; exact this.symm
    have hy0 : y % 9223372036854775808 = 0 := zero_V hay
    by_cases hq : u = v
    · left
      refine ⟨⟨by rw [hz]; rfl, by rw [hq]; exact beq_self_eq_true v⟩, ?_⟩
      have hxy : x = y := by omega
      subst hxy
      unfold sB
      rcases (show x = 0 ∨ x = 9223372036854775808 by omega) with e | e
      · subst e; rw [hu]; rfl
      · subst e; rw [hu]; rfl
    · right
      refine ⟨Or.inr ⟨by rw [hz]; rfl, by simpa using hq⟩, ?_⟩
      unfold sB
      rcases (show x = 0 ∨ x = 9223372036854775808 by omega) with e | e
      · subst e; rfl
      · subst e
        rcases (show y = 0 ∨ y = 9223372036854775808 by omega) with e | e
        · subst e; rfl
        · exact absurd (by rw [hu, hv, e]) hq
  · right
    refine ⟨Or.inl (by simpa using hz), ?_⟩
    have hax : aV x ≠ 0 := fun e => hz (by have := zero_V e; omega)
    cases hsx : sB x
    · rfl
    · cases hsy : sB y
      · rfl
      · rw [hsx, hsy] at hT; unfold sg at hT; simp at hT; omega

theorem add_inf {x y : Nat} (hx : x % 9223372036854775808 = 9218868437227405312) (hy : NumB y) (hx64 : x < 18446744073709551616) : floatBits .add .f64 x y = some x ∧ floatBits .add .f64 y x = some x := by
  have hw : wrd (sB x) 9218868437227405312 = x := by
    unfold wrd sB
    rcases (show x / 9223372036854775808 = 0 ∨ x / 9223372036854775808 = 1 by omega) with e | e
    · rw [e]; simp; omega
    · rw [e]; simp; omega
  constructor
  · show ((Ieee.double.read x).sum (Ieee.double.read y)).map Ieee.double.write = _
    rw [read_inf hx, read_num hy]
    show some (Ieee.double.write (.infinity _)) = _
    rw [write_inf]; exact congrArg some hw
  · show ((Ieee.double.read y).sum (Ieee.double.read x)).map Ieee.double.write = _
    rw [read_inf hx, read_num hy]
    show some (Ieee.double.write (.infinity _)) = _
    rw [write_inf]; exact congrArg some hw
theorem add_infs {x y : Nat} (hx : x % 9223372036854775808 = 9218868437227405312) (hy : y % 9223372036854775808 = 9218868437227405312) (hx64 : x < 18446744073709551616) (hy64 : y < 18446744073709551616) : floatBits .add .f64 x y = if x = y then some x else none := by
  show ((Ieee.double.read x).sum (Ieee.double.read y)).map Ieee.double.write = _
  rw [read_inf hx, read_inf hy]
  rcases (show x = 9218868437227405312 ∨ x = 18442240474082181120 by omega) with e | e <;> rcases (show y = 9218868437227405312 ∨ y = 18442240474082181120 by omega) with e' | e' <;> subst e <;> subst e' <;> decide +kernel

set_option maxHeartbeats 1600000 in
theorem refAdd_nan (u v : Int) (w : World) (h : U64 u) (h' : U64 v) (hc : nanB u = true ∨ (nanB u = false ∧ nanB v = true) ∨ (nanB u = false ∧ nanB v = false ∧ infB u = true ∧ infB v = true ∧ (u == v) = false)) :
    Calls Try.prog 25 #[.int .u64 u, .int .u64 v] w fun e w' => e = .returned (.int .u64 9221120237041090561) ∧ w' = w := by
  rcases hc with h1 | ⟨h1, h2⟩ | ⟨h1, h2, h3, h4, h5⟩
  all_goals
    go_enter Try.func25, Try.ntmps25
    go_wp2_with (first | (go_at_call_of 47 (Value.int IntKind.u64 u); refine (refNaN_any u _ h).mono ?_; rintro e w' ⟨rfl, rfl⟩) | (go_at_call_of 47 (Value.int IntKind.u64 v); refine (refNaN_any v _ h').mono ?_; rintro e w' ⟨rfl, rfl⟩) | (go_at_call_of 48 (Value.int IntKind.u64 u); refine (refInf_any u _ h).mono ?_; rintro e w' ⟨rfl, rfl⟩) | (go_at_call_of 48 (Value.int IntKind.u64 v); refine (refInf_any v _ h').mono ?_; rintro e w' ⟨rfl, rfl⟩))
    go_ret
    exact ⟨rfl, rfl⟩

set_option maxHeartbeats 1600000 in
theorem refAdd_inf (u v r : Int) (w : World) (h : U64 u) (h' : U64 v) (hn : nanB u = false) (hn' : nanB v = false) (hc : (infB u = true ∧ infB v = true ∧ (u == v) = true ∧ r = u) ∨ (infB u = true ∧ infB v = false ∧ r = u) ∨ (infB u = false ∧ infB v = true ∧ r = v)) :
    Calls Try.prog 25 #[.int .u64 u, .int .u64 v] w fun e w' => e = .returned (.int .u64 r) ∧ w' = w := by
  rcases hc with ⟨h1, h2, h3, hr⟩ | ⟨h1, h2, hr⟩ | ⟨h1, h2, hr⟩
  all_goals
    have HR := hide hr
    clear hr
    go_enter Try.func25, Try.ntmps25
    go_wp2_with (first | (go_at_call_of 47 (Value.int IntKind.u64 u); refine (refNaN_any u _ h).mono ?_; rintro e w' ⟨rfl, rfl⟩) | (go_at_call_of 47 (Value.int IntKind.u64 v); refine (refNaN_any v _ h').mono ?_; rintro e w' ⟨rfl, rfl⟩) | (go_at_call_of 48 (Value.int IntKind.u64 u); refine (refInf_any u _ h).mono ?_; rintro e w' ⟨rfl, rfl⟩) | (go_at_call_of 48 (Value.int IntKind.u64 v); refine (refInf_any v _ h').mono ?_; rintro e w' ⟨rfl, rfl⟩))
    go_ret
    exact ⟨ret_int HR.out.symm, rfl⟩

set_option maxHeartbeats 1600000 in
theorem refAdd_num (x y : Nat) (u v R : Int) (w : World) (hu : Hid (u = (x : Int))) (hv : Hid (v = (y : Int))) (h : U64 u) (h' : U64 v) (hx : NumB x) (hy : NumB y) (hR : Hid ((addR (sB x) (sB y) (vI x + vI y) : Int) = R)) (hn : nanB u = false) (hn' : nanB v = false) (hi : infB u = false) (hi' : infB v = false) :
    Calls Try.prog 25 #[.int .u64 u, .int .u64 v] w fun e w' => e = .returned (.int .u64 R) ∧ Below w.heap.size w w' := by
  have HN1 := hide (refNaN_any u · h)
  have HN2 := hide (refNaN_any v · h')
  have HI1 := hide (refInf_any u · h)
  have HI2 := hide (refInf_any v · h')
  rw [hn] at HN1
  rw [hn'] at HN2
  rw [hi] at HI1
  rw [hi'] at HI2
  have HO1 := hide fun w => of_num x u w hu h hx
  have HO2 := hide fun w => of_num y v w hv h' hy
  have HSz := hide (refSize_any u · h)
  have HNo := hide fun (hT : vI x + vI y = 0) => add_none hu.out hv.out h h' hT
  clear hx hy hn hn' hi hi' h h'
  go_enter Try.func25, Try.ntmps25
  go_wp2_with fail
  refine (turnedR (HN1.out _)).mono ?_
  rintro e w' ⟨rfl, rfl⟩
  go_wp2_with fail
  refine (turnedR (HN2.out _)).mono ?_
  rintro e w' ⟨rfl, rfl⟩
  go_wp2_with fail
  refine (turnedR (HI1.out _)).mono ?_
  rintro e w' ⟨rfl, rfl⟩
  go_wp2_with fail
  refine (turnedR (HI1.out _)).mono ?_
  rintro e w' ⟨rfl, rfl⟩
  go_wp2_with fail
  refine (turnedR (HI2.out _)).mono ?_
  rintro e w' ⟨rfl, rfl⟩
  go_wp2_with fail
  refine (HO1.out _).mono ?_
  rintro r w1 ⟨nx, vx, X, ex, rfl, hdx, hX, hb1⟩
  have HB1 := hide hb1
  have HDx := hide hdx
  have HX := hide hX
  clear hb1 hdx hX
  go_wp2_with fail
  refine (HO2.out _).mono ?_
  rintro r w2 ⟨ny, vy, Y, ey, rfl, hdy, hY, hb2⟩
  have HB2 := hide (HB1.out.trans (hb2.mono HB1.out.size))
  have HDx2 := hide (HDx.out.below hb2)
  have HDy := hide hdy
  have HY := hide hY
  clear hb2 hdy hY HB1 HDx
  obtain ⟨E, hE⟩ : ∃ E, bothE X ex Y ey = E := ⟨_, rfl⟩
  obtain ⟨n, m, k, hA⟩ := addR_of HX.out HY.out hE
  have HP := hide (plus_any nx ny vx vy ex ey E X Y n m w2 HDx2.out HDy.out hE hA.hn hA.hm (by have := hA.hn1; omega) (by have := hA.hm1; omega) (by have := nd_two HX.out.lt; omega) (by have := nd_two HY.out.lt; omega) hA.had hA.hbd)
  have HA := hide hA
  clear hA hE
  go_wp2_with fail
  refine HP.out.mono ?_
  rintro r w3 ⟨neg, vs, N, E', rfl, hds, hfs, hs, hEE, hb3⟩
  have HB3 := hide (HB2.out.trans (hb3.mono HB2.out.size))
  obtain ⟨p, l, c, rfl⟩ := hds.shape
  have HD3 := hide hds
  have HEr : Hid (nd N ≤ 1000000 ∧ -10000000 ≤ E' ∧ E' ≤ 10000000) := by
    obtain ⟨K, hK, h1⟩ := HA.out.small
    rw [← hs, sgn_abs] at h1
    have h2 := nd_scaled hK h1
    have h3 := HA.out.lo
    have h4 := HA.out.hi
    refine ⟨by omega, ?_, ?_⟩ <;> rcases hEE with e | ⟨e, _⟩ <;> omega
  have HV : Hid (N ≠ 0 → nearM neg N E' false = R) := fun h0 => by rw [← hR.out]; exact add_val HA.out hs hEE h0
  have HT : Hid (N = 0 → vI x + vI y = 0) := fun h0 => by rw [← HA.out.val, ← hs, h0, sg_zero_any, Int.zero_mul]
  clear hds hfs hs hEE hb3 HB2 HA HP HDx2 HDy HX HY HO1 HO2
  have HBox := hide (boxN_below w3 neg (.slice p l c) E')
  have HDb := hide (HD3.out.below HBox.out)
  have HB3b := hide (HB3.out.trans (HBox.out.mono HB3.out.size))
  go_wp2_with fail
  by_cases h0 : N = 0
  · have HT0 := hide (HNo.out (HT.out h0))
    rw [hR.out] at HT0
    refine (zero_at _ _ _ N true _ HDb.out (decide_eq_true h0)).mono ?_
    rintro r w4 ⟨rfl, hb4⟩
    have HB4 := hide (HB3b.out.trans (hb4.mono HB3b.out.size))
    clear hb4 h0
    rcases HT0.out with ⟨⟨a1, a2⟩, a3⟩ | ⟨a1 | ⟨a1, a2⟩, a3⟩
    all_goals
      have HA3 := hide a3
      clear a3 HT0
      go_wp2_with (go_at_call 32; refine (turnedR (HSz.out _)).mono ?_; rintro r w5 ⟨rfl, rfl⟩)
      go_ret
      exact ⟨ret_int HA3.out, HB4.out⟩
  · refine (zero_at _ _ _ N false _ HDb.out (decide_eq_false h0)).mono ?_
    rintro r w4 ⟨rfl, hb4⟩
    obtain ⟨c0, c1, c2⟩ := box_cells hb4
    have HB4 := hide (HB3b.out.trans (hb4.mono HB3b.out.size))
    have HNr := hide (near_agg neg _ E' N w4 (HDb.out.below hb4) HEr.out.1 HEr.out.2.1 HEr.out.2.2)
    rw [HV.out h0] at HNr
    clear hb4 h0 HDb HBox HB3b HB3 HD3 HEr HV HT HNo
    go_wp2_with fail
    refine HNr.out.mono ?_
    rintro r w5 ⟨rfl, hb5⟩
    have HB5 := hide (HB4.out.trans (hb5.mono HB4.out.size))
    clear hb5
    go_wp2_with fail
    go_ret
    exact ⟨rfl, HB5.out⟩

/-- The document's Add is the model's. -/
theorem refAdd_any (x y : Nat) (u v : Int) (w : World) (hu : Hid (u = (x : Int))) (hv : Hid (v = (y : Int))) (h : U64 u) (h' : U64 v) :
    Calls Try.prog 25 #[.int .u64 u, .int .u64 v] w fun e w' => e = .returned (.int .u64 (cn (floatBits .add .f64 x y) : Int)) ∧ Below w.heap.size w w' := by
  have hx64 : x < 18446744073709551616 := by have := h.2; rw [hu.out] at this; omega
  have hy64 : y < 18446744073709551616 := by have := h'.2; rw [hv.out] at this; omega
  have same : ∀ {r : Int}, (Calls Try.prog 25 #[.int .u64 u, .int .u64 v] w fun e w' => e = .returned (.int .u64 r) ∧ w' = w) → (cn (floatBits .add .f64 x y) : Int) = r → Calls Try.prog 25 #[.int .u64 u, .int .u64 v] w fun e w' => e = .returned (.int .u64 (cn (floatBits .add .f64 x y) : Int)) ∧ Below w.heap.size w w' := fun hc e => by
    rw [e]
    exact hc.mono fun _ _ ⟨a, b⟩ => ⟨a, by rw [b]; exact Below.refl _ _⟩
  cases hn : nanB u with
  | true =>
    refine same (refAdd_nan u v w h h' (Or.inl hn)) ?_
    rw [nan_left (by rw [← hu.out]; exact hn)]; rfl
  | false =>
    cases hn' : nanB v with
    | true =>
      refine same (refAdd_nan u v w h h' (Or.inr (Or.inl ⟨hn, hn'⟩))) ?_
      rw [nan_right (by rw [← hv.out]; exact hn')]; rfl
    | false =>
      cases hi : infB u with
      | true =>
        have ix := inf_of hu.out hi
        cases hi' : infB v with
        | true =>
          have iy := inf_of hv.out hi'
          by_cases hq : x = y
          · refine same (refAdd_inf u v u w h h' hn hn' (Or.inl ⟨hi, hi', by rw [hu.out, hv.out, hq]; exact beq_self_eq_true _, rfl⟩)) ?_
            rw [add_infs ix iy hx64 hy64, if_pos hq, cn_some, hu.out]
          · refine same (refAdd_nan u v w h h' (Or.inr (Or.inr ⟨hn, hn', hi, hi', ?_⟩))) ?_
            · rw [hu.out, hv.out]; simp; omega
            · rw [add_infs ix iy hx64 hy64, if_neg hq]; rfl
        | false =>
          have ny := num_of hv.out hn' hi'
          refine same (refAdd_inf u v u w h h' hn hn' (Or.inr (Or.inl ⟨hi, hi', rfl⟩))) ?_
          rw [(add_inf ix ny hx64).1, cn_some, hu.out]
      | false =>
        have nx := num_of hu.out hn hi
        cases hi' : infB v with
        | true =>
          have iy := inf_of hv.out hi'
          refine same (refAdd_inf u v v w h h' hn hn' (Or.inr (Or.inr ⟨hi, hi', rfl⟩))) ?_
          rw [(add_inf iy nx hy64).2, cn_some, hv.out]
        | false =>
          have ny := num_of hv.out hn' hi'
          have e : cn (floatBits .add .f64 x y) = addR (sB x) (sB y) (vI x + vI y) := by rw [add_num nx ny, cn_some]; rfl
          rw [e]
          exact refAdd_num x y u v _ w hu hv h h' nx ny rfl hn hn' hi hi'
end Go.Proofs.Ytbkmbdbjeiffpaa
namespace Go.Proofs.Ytbkmbdbjeiffpaa
open Go.RowKit

theorem wrd_lt {s : Bool} {r : Nat} (h : r ≤ 9218868437227405312) : wrd s r < 18446744073709551616 := by unfold wrd; split <;> omega
theorem write_lt (d : Ieee.Datum) (h : ∀ s f, d ≠ .nan s f) : Ieee.double.write d < 18446744073709551616 := by
  cases d with
  | nan s f => exact absurd rfl (h s f)
  | infinity s => rw [write_inf]; exact wrd_lt (Nat.le_refl _)
  | number s m i =>
    show Ieee.double.nearest s m i < _
    by_cases h0 : m = 0
    · rw [h0, nearest_zero, word_eq]; exact wrd_lt (Nat.zero_le _)
    · rw [nearest_eq s h0, word_eq]; exact wrd_lt (Nat.min_le_right _ _)
theorem sum_ok {a b d : Ieee.Datum} (h : a.sum b = some d) : ∀ s f, d ≠ .nan s f := by
  intro s f e
  subst e
  cases a <;> cases b <;> simp [Ieee.Datum.sum] at h
theorem product_ok {a b d : Ieee.Datum} (h : a.product b = some d) : ∀ s f, d ≠ .nan s f := by
  intro s f e
  subst e
  cases a <;> cases b <;> simp [Ieee.Datum.product] at h
theorem quotient_ok {a b d : Ieee.Datum} {k : Nat} (h : a.quotient k b = some d) : ∀ s f, d ≠ .nan s f := by
  intro s f e
  subst e
  cases a <;> cases b <;> simp [Ieee.Datum.quotient] at h
  split at h
  · split at h <;> cases h
  · cases h
theorem map_lt {o : Option Ieee.Datum} {r : Nat} (ho : ∀ d, o = some d → ∀ s f, d ≠ .nan s f) (h : o.map Ieee.double.write = some r) : r < 18446744073709551616 := by
  cases o with
  | none => cases h
  | some d =>
    have : Ieee.double.write d = r := Option.some.inj h
    rw [← this]; exact write_lt d (ho d rfl)
theorem float_lt {op : BinOp} (ho : op = .add ∨ op = .sub ∨ op = .mul ∨ op = .quo) {x y r : Nat} (h : floatBits op .f64 x y = some r) : r < 18446744073709551616 := by
  rcases ho with rfl | rfl | rfl | rfl
  · exact map_lt (o := (Ieee.double.read x).sum (Ieee.double.read y)) (fun d hd => sum_ok hd) h
  · exact map_lt (o := (Ieee.double.read x).sum (Ieee.double.read y).opposite) (fun d hd => sum_ok hd) h
  · exact map_lt (o := (Ieee.double.read x).product (Ieee.double.read y)) (fun d hd => product_ok hd) h
  · exact map_lt (o := (Ieee.double.read x).quotient 54 (Ieee.double.read y)) (fun d hd => quotient_ok hd) h
theorem cn_lt {op : BinOp} (ho : op = .add ∨ op = .sub ∨ op = .mul ∨ op = .quo) (x y : Nat) : cn (floatBits op .f64 x y) < 18446744073709551616 := by
  cases h : floatBits op .f64 x y with
  | none => decide
  | some r => exact float_lt ho h
theorem cn_nan : nanB ((9221120237041090561 : Nat) : Int) = true := by decide
theorem ag_cn (o : Option Nat) : Ag o (cn o) := by
  cases o with
  | none => exact ⟨cn_nan, by decide⟩
  | some r => rfl
/-- What both tell is the same float. -/
theorem ag_same {o : Option Nat} {r : Nat} (h : Ag o r) : sameB (r : Int) (cn o : Int) = true := by
  cases o with
  | none => exact sameB_nan (ag_none h).1 cn_nan
  | some q => rw [ag_some h, cn_some]; exact sameB_refl _

def FitL (l : List Nat) : Prop := ∀ x ∈ l, x < 18446744073709551616
theorem FitL.get {l : List Nat} (h : FitL l) (i : Nat) : l.getD i 0 < 18446744073709551616 := by
  by_cases hi : i < l.length
  · have e : l.getD i 0 = l[i] := by simp [List.getD, List.getElem?_eq_getElem hi]
    rw [e]; exact h _ (List.getElem_mem hi)
  · have e : l.getD i 0 = 0 := by simp [List.getD, List.getElem?_eq_none (show l.length ≤ i by omega)]
    rw [e]; decide

theorem isS (a : Nat) (u : Int) (w : World) (hu : Hid (u = (a : Int))) (h : Hid (U64 a)) :
    Calls Try.prog 10 #[.float .f64 a, .int .u64 u] w fun e w' => e = .returned (.bool true) ∧ w' = w := by
  have := is_any a u w h.out (by rw [hu.out]; exact h.out)
  rw [hu.out, sameB_refl] at this
  rw [hu.out]; exact this

theorem cn_bind_mul (o : Option Nat) (x : Nat) : floatBits .mul .f64 (cn o) x = o.bind fun p => floatBits .mul .f64 p x := by
  cases o with
  | none => rw [cn_none, nan_left cn_nan]; rfl
  | some r => rfl
theorem cn_bind_add (o : Option Nat) (x : Nat) : floatBits .add .f64 (cn o) x = o.bind fun p => floatBits .add .f64 p x := by
  cases o with
  | none => rw [cn_none, nan_left cn_nan]; rfl
  | some r => rfl
theorem stepO_cn (x c : Nat) (o : Option Nat) : floatBits .add .f64 (cn (floatBits .mul .f64 (cn o) x)) c = stepO x o c := by
  rw [cn_bind_mul, cn_bind_add]; rfl

set_option maxHeartbeats 1600000 in
theorem refHorner_any (B n x : Nat) (v : Value) (u : Int) (cs : List Nat) (w : World) (hO : OwnF w B 26 uV v cs) (hf : FitL cs) (hu : Hid (u = (x : Int))) (h : Hid (U64 u)) (hN : cs.length = n) (hn : n ≤ 1000000) :
    Calls Try.prog 55 #[v, .int .u64 u] w fun e w' => e = .returned (.int .u64 (cn (hornO cs x) : Int)) ∧ Below w.heap.size w w' := by
  obtain ⟨p, g, c, rfl, ha, hr⟩ := hO.shape
  rw [hN]
  have HF := hideS hf
  have HN := hideS hN
  have HR := hideS hr
  by_cases h0 : n = 0
  · subst h0
    have HRes : Hid (hornO cs x = some 0) := by show _ = _; unfold hornO; rw [if_pos hN]
    rw [HRes.out]
    clear hO hf hN ha hr HR HF HN
    go_enter Try.func55, Try.ntmps55
    go_wp2
    go_ret
    exact ⟨rfl, Below.refl _ _⟩
  obtain ⟨m, rfl⟩ : ∃ m, n = m + 1 := ⟨n - 1, by omega⟩
  obtain ⟨rfl, _, hg⟩ := ha (by omega)
  have hc0 : w.cell? ⟨g, m, none⟩ = some (.int .u64 ((cs.getD m 0 : Nat) : Int)) := hr m (by omega)
  have HRes : Hid (hornO cs x = hornAt cs x m) := by show _ = _; unfold hornO; rw [if_neg (by omega), hN]; rfl
  have HA0 : Hid (((cs.getD m 0 : Nat) : Int) = (cn (hornAt cs x 0) : Int)) := by show _ = _; unfold hornAt; rw [hN]; rfl
  have HA1 : Hid (∀ i, hornAt cs x (i + 1) = stepO x (hornAt cs x i) (cs.getD (m - 1 - i) 0)) := fun i => by
    show stepO x (hornAt cs x i) (cs.getD (cs.length - 2 - i) 0) = _
    rw [hN]; rfl
  have HU0 := hideS (u64_of_nat (hf.get m))
  generalize ((cs.getD m 0 : Nat) : Int) = p0 at hc0 HA0 HU0
  rw [HRes.out]
  obtain ⟨res, hres⟩ : ∃ res : Int, (cn (hornAt cs x m) : Int) = res := ⟨_, rfl⟩
  rw [hres]
  have HRs := hideS hres
  have hm0 : ((m : Int) + 1 == 0) = false := by simp; omega
  clear hO hf hN ha hr h0 HRes hres
  go_enter Try.func55, Try.ntmps55
  go_wp2_with fail
  go_loopw [5, 6] (fun s i wr => ∃ (t a : Int), -1 ≤ t ∧ t < (m : Int) ∧ i = .int .i64 t ∧ s = .int .u64 a ∧ Hid (∃ k : Nat, (k : Int) = (m : Int) - 1 - t ∧ a = (cn (hornAt cs x k) : Int)) ∧ Hid (U64 a) ∧ Hid (Below w.heap.size w wr)) (fun _ i _ => (intOf i + 1).toNat)
  case atStart => exact ⟨(m : Int) - 1, p0, by omega, by omega, by congr 1; omega, rfl, ⟨0, by omega, HA0.out⟩, HU0, Below.refl _ _⟩
  case round =>
    obtain ⟨t, a, ht1, ht2, rfl, rfl, HK, HU, HB⟩ := hrel
    by_cases hlt : 0 ≤ t
    · obtain ⟨j, rfl⟩ := Int.eq_ofNat_of_zero_le hlt
      obtain ⟨k, hk, ha⟩ := HK.out
      have HA := hideS ha
      have hj : m - 1 - k = j := by omega
      have hjn : j < cs.length := by rw [HN.out]; omega
      have hcx : wr.cell? ⟨g, j, none⟩ = some (.int .u64 ((cs.getD j 0 : Nat) : Int)) := (HB.out.cell (p := ⟨g, j, none⟩) hg).trans (HR.out j hjn)
      have HA2 := hideS (HA1.out k)
      rw [hj] at HA2
      have HUy := hideS (u64_of_nat (HF.out.get j))
      obtain ⟨y, hy⟩ : ∃ y : Nat, cs.getD j 0 = y := ⟨_, rfl⟩
      rw [hy] at hcx HA2 HUy
      obtain ⟨yi, hyi⟩ : ∃ yi : Int, yi = (y : Int) := ⟨_, rfl⟩
      rw [← hyi] at hcx HUy
      have HYI := hideS hyi
      have hgz : g < wr.heap.size := Nat.lt_of_lt_of_le hg HB.out.size
      obtain ⟨q, hq⟩ : ∃ q : Int, q = (cn (floatBits .mul .f64 (cn (hornAt cs x k)) x) : Int) := ⟨_, rfl⟩
      obtain ⟨z, hz⟩ : ∃ z : Int, z = (cn (hornAt cs x (k + 1)) : Int) := ⟨_, rfl⟩
      have HM : Hid (∀ w, Calls Try.prog 26 #[.int .u64 a, .int .u64 u] w fun e w' => e = .returned (.int .u64 q) ∧ Below w.heap.size w w') := fun w => by rw [hq]; exact refMul_any _ x a u w HA hu HU.out h.out
      have HD : Hid (∀ w, Calls Try.prog 25 #[.int .u64 q, .int .u64 yi] w fun e w' => e = .returned (.int .u64 z) ∧ Below w.heap.size w w') := fun w => by
        have := refAdd_any (cn (floatBits .mul .f64 (cn (hornAt cs x k)) x)) y q yi w hq HYI (by rw [hq]; exact u64_of_nat (cn_lt (by simp) _ _)) HUy.out
        rw [stepO_cn, ← HA2.out, ← hz] at this
        exact this
      have HZ : Hid (z = (cn (hornAt cs x (k + 1)) : Int)) := hz
      have HUz : Hid (U64 z) := by rw [HZ.out, HA2.out, ← stepO_cn]; exact u64_of_nat (cn_lt (by simp) _ _)
      have HK2 : Hid (∃ k : Nat, (k : Int) = (m : Int) - 1 - ((j : Int) - 1) ∧ z = (cn (hornAt cs x k) : Int)) := ⟨k + 1, by omega, HZ.out⟩
      have hjm : (j : Int) < (m : Int) + 1 := by omega
      clear hq hz hyi hy hj HA2 HA hk ha hjn HK ht1
      go_wp2_with fail
      go_region_held3 (fun w' => w'.cell? ⟨g, j, none⟩ = some (.int .u64 yi)) (first | exact hcx | exact (hb3.cell (p := ⟨g, j, none⟩) hgz).trans hcx | exact (hb4.cell (p := ⟨g, j, none⟩) (Nat.lt_of_lt_of_le hgz hb3.size)).trans ((hb3.cell (p := ⟨g, j, none⟩) hgz).trans hcx) | go_keep) (first | ((go_at_call 26; refine (HM.out _).mono ?_; rintro e w3 ⟨rfl, hb3⟩)) | ((go_at_call 25; refine (HD.out _).mono ?_; rintro e w4 ⟨rfl, hb4⟩)))
      have HB3 := hideS (HB.out.drew.trans (hb3.mono (show w.heap.size ≤ wr.heap.size from HB.out.size)))
      have HB4 := hideS (HB3.out.trans (hb4.mono HB3.out.size))
      clear hb3 hb4 HB3 HM HD
      go_wp2_with fail
      go_roundw
      case rel => exact ⟨(j : Int) - 1, z, by omega, by omega, rfl, rfl, HK2, HUz, HB4⟩
      case measure => simp [intOf]
    · obtain rfl : t = -1 := by omega
      have HE : Hid (a = res) := by
        obtain ⟨k, hk, ha⟩ := HK.out
        have : k = m := by omega
        rw [← HRs.out, ← this]; exact ha
      clear HK
      go_wp2
      go_ret
      exact ⟨ret_int HE.out, HB.out⟩
end Go.Proofs.Ytbkmbdbjeiffpaa
