/- Sums divided and rounded once: the program's bits and the document's are one. No word of the program. The contract of the document's Over of sums, by any number. -/
import Derived.Test.YtcmbfflemoccmaaGreatHaz
import Derived.Test.YtcmbfflemoccmaaGreatHba
import Derived.Test.YtcmbfflemoccmaaGreatHbi
import Derived.Test.YtcmbfflemoccmaaGreatHbk
namespace Go.Proofs.YtcmbfflemoccmaaGreat
open Go.RowKit

theorem log2_two (q : Nat) (m : Nat) (h0 : q ≠ 0) (hm : m ≤ 1) : (2 * q + m).log2 = q.log2 + 1 := by
  have a := Nat.log2_self_le h0
  have b : q < 2 ^ (q.log2 + 1) := Nat.lt_log2_self
  have c : (2 * q + m).log2 < q.log2 + 1 + 1 := (Nat.log2_lt (by omega)).2 (by rw [Nat.pow_succ]; omega)
  have d : q.log2 + 1 ≤ (2 * q + m).log2 := (Nat.le_log2 (by omega)).2 (by rw [Nat.pow_succ]; omega)
  omega
theorem mant_quo {q : Nat} (more : Bool) : nearR (mant q more) (expo q) = nearR (2 * q + more.toNat) (-2149) := by
  have hm : more.toNat ≤ 1 := by cases more <;> decide
  by_cases hl : q.log2 < 61
  · have hq : q < 2 ^ 61 := by
      by_cases h0 : q = 0
      · rw [h0]; decide
      · exact (Nat.log2_lt h0).1 hl
    have h1 := mant_lt q more
    have h2 : expo q < -1139 := by unfold expo; split <;> omega
    rw [nearR_small (by omega) h2, nearR_small (by omega) (by decide)]
  · have h0 : q ≠ 0 := fun c => by rw [c] at hl; exact hl (by decide)
    obtain ⟨t, ht⟩ : ∃ t, q.log2 = t + 61 := ⟨q.log2 - 61, by omega⟩
    have e1 : mant q more = stick (2 * q + more.toNat) (t + 1) false := by
      unfold mant stick
      rw [if_neg h0, ht, show t + 61 + 3 = 64 + t by omega, Nat.pow_add 2 64 t, Nat.mul_comm q, Nat.mul_mod_mul_left, Nat.mul_div_mul_left _ _ (Nat.two_pow_pos 64), show (2 : Nat) ^ (t + 1) = 2 * 2 ^ t by rw [Nat.pow_succ, Nat.mul_comm]]
      have hd : (2 * q + more.toNat) / (2 * 2 ^ t) = q / 2 ^ t := by
        rw [← Nat.div_div_eq_div_mul]
        congr 1
        omega
      have hr : (2 * q + more.toNat) % (2 * 2 ^ t) = 2 * (q % 2 ^ t) + more.toNat := by
        have e := Nat.div_add_mod q (2 ^ t)
        have hlt : q % 2 ^ t < 2 ^ t := Nat.mod_lt _ (Nat.two_pow_pos t)
        generalize q / 2 ^ t = Q at *
        generalize q % 2 ^ t = R at *
        generalize 2 ^ t = T at *
        have e2 : 2 * q + more.toNat = 2 * R + more.toNat + 2 * T * Q := by rw [← e, Nat.mul_add, Nat.mul_assoc]; omega
        rw [e2, Nat.add_mul_mod_self_left, Nat.mod_eq_of_lt (by omega)]
      rw [hd, hr]
      have hp := Nat.two_pow_pos 64
      have hz : (2 ^ 64 * (q % 2 ^ t) = 0 ∧ more = false) ↔ (2 * (q % 2 ^ t) + more.toNat = 0 ∧ (false : Bool) = false) := by
        constructor
        · rintro ⟨a, b⟩
          rcases Nat.mul_eq_zero.1 a with c | c
          · omega
          · rw [c, b]; exact ⟨rfl, rfl⟩
        · rintro ⟨a, _⟩
          have c : q % 2 ^ t = 0 := by omega
          refine ⟨by rw [c, Nat.mul_zero], ?_⟩
          cases more
          · rfl
          · rw [c] at a; exact absurd a (by decide)
      simp only [hz]
    have e2 : expo q = ((t + 1 : Nat) : Int) + -2149 := by unfold expo; rw [if_neg h0, ht]; omega
    rw [e1, e2, nearR_stick2 (by omega) (by rw [log2_two q _ h0 hm, ht]; omega)]
theorem mant_pos {q : Nat} {more : Bool} (h : q ≠ 0 ∨ more = true) : mant q more ≠ 0 := by
  unfold mant
  by_cases h0 : q = 0
  · rw [if_pos h0]
    rcases h with h | h
    · exact absurd h0 h
    · rw [h]; decide
  · rw [if_neg h0]
    have hp := Nat.two_pow_pos 64
    have hq : q * 2 ^ 64 ≠ 0 := fun c => by
      rcases Nat.mul_eq_zero.1 c with c | c <;> omega
    have hl : q.log2 + 3 ≤ (q * 2 ^ 64).log2 := by rw [log2_scaled h0]; omega
    exact (log2_stick more hl hq).2
theorem overF_val (N : Int) (d : Nat) : A.overF N d = if N = 0 then 0 else wrd (decide (N < 0)) (nearR (quoS N.natAbs d 0) (-2149)) := by
  unfold A.overF
  have hq : quoS N.natAbs d 0 = 2 * (N.natAbs / d) + (decide (N.natAbs % d ≠ 0)).toNat := by
    unfold quoS
    rw [Nat.pow_zero, Nat.mul_one]
    by_cases hr : N.natAbs % d = 0 <;> simp [hr]
  rw [hq, ← mant_quo]
  by_cases h0 : N = 0
  · rw [if_pos h0, h0]
    have : (0 : Int).natAbs = 0 := rfl
    rw [this, Nat.zero_div, Nat.zero_mod]
    rfl
  · rw [if_neg h0]
    have hm : mant (N.natAbs / d) (decide (N.natAbs % d ≠ 0)) ≠ 0 := by
      apply mant_pos
      by_cases hr : N.natAbs % d = 0
      · refine Or.inl (fun c => ?_)
        have := Nat.div_add_mod N.natAbs d
        rw [c, hr, Nat.mul_zero] at this
        omega
      · exact Or.inr (by simp [hr])
    generalize mant (N.natAbs / d) (decide (N.natAbs % d ≠ 0)) = m at *
    generalize expo (N.natAbs / d) = ex at *
    unfold joinN sgM wrd
    by_cases hn : N < 0
    · simp only [hn, decide_true, if_true]
      rw [if_neg (by omega), if_pos (by omega), Int.natAbs_neg, Int.natAbs_natCast]
    · simp only [hn, decide_false, Bool.false_eq_true, if_false]
      rw [if_neg (by omega), if_neg (by omega), Int.natAbs_natCast]
end Go.Proofs.YtcmbfflemoccmaaGreat
namespace Go.Proofs.YtcmbfflemoccmaaGreat
open Go.RowKit

set_option maxHeartbeats 400000 in
theorem nearOver_zeroD (nx ny : Bool) (vx vy : Value) (ex ey : Int) (w : World) (hX : DN w vx 0) :
    Calls Tryz.prog 65 #[.agg #[.bool nx, vx, .int .i64 ex], .agg #[.bool ny, vy, .int .i64 ey]] w fun x w' => x = .returned (.int .u64 0) ∧ Below w.heap.size w w' := by
  have HB0 : Hid (Below w.heap.size w (boxN (boxN w nx vx ex) ny vy ey)) := (boxN_below w nx vx ex).trans ((boxN_below (boxN w nx vx ex) ny vy ey).mono (by simp))
  have HZr := hide fun w' (hb : Below w.heap.size w w') => zero_at nx vx ex 0 true w' (hX.below hb) rfl
  clear hX
  go_enter Tryz.func65, Tryz.ntmps65
  go_wp2_with fail
  refine (HZr.out _ HB0.out).mono ?_
  rintro x w1 ⟨rfl, hb1⟩
  have HB1 := hide (HB0.out.trans (hb1.mono HB0.out.size))
  clear hb1
  go_wp2_with fail
  go_ret
  exact ⟨rfl, HB1.out⟩

theorem box1_three (w : World) (s : Int) (neg : Bool) (v : Value) (e : Int) : Three (boxA w s neg v e) w.heap.size neg v e := ⟨by simp, by simp, by simp⟩
theorem three_below {w1 w2 : World} {B b : Nat} {neg : Bool} {v : Value} {e : Int} (h : Three w1 B neg v e) (hb : Below b w1 w2) (hs : B < b) : Three w2 B neg v e :=
  ⟨(hb.cell (p := ⟨B, 1, none⟩) hs).trans h.1, (hb.cell (p := ⟨B, 2, none⟩) hs).trans h.2.1, (hb.cell (p := ⟨B, 3, none⟩) hs).trans h.2.2⟩
theorem over_both {neg : Bool} {M k n : Nat} {e N : Int} (hv : DV 0 neg M e N k) (h0 : M ≠ 0) (hn : 0 < n) {j : Nat} (hj : max 0 (70 - (bl M : Int) + (bl n : Int)) = (j : Int)) :
    nearM neg (M * 2 ^ j / n) (e - j - 0) (decide (0 < nd (M * 2 ^ j % n))) = (A.overF N n : Int) := by
  have h1 := bl_pos h0
  have h2 := bl_pos (show n ≠ 0 by omega)
  have hb := quo_bits h0 (show n ≠ 0 by omega) (k := j) (by omega)
  rw [nearM_more _ _ _ hb.1, overF_val]
  have hval := hv.val
  have hlo := hv.lo
  obtain ⟨q, hq⟩ : ∃ q : Nat, (e + 2148).toNat = q := ⟨_, rfl⟩
  rw [hq] at hval
  obtain ⟨m1, m2⟩ := mul_pow_neg (S := sg neg M) q
  have hS0 : sg neg M ≠ 0 := by
    intro c
    have := sgn_abs neg M
    rw [c] at this; exact h0 this.symm
  have hN0 : N ≠ 0 := fun c => hS0 (m2.1 (hval.trans c))
  have hNa : N.natAbs = M * 2 ^ q := by rw [← hval, natAbs_mul_pow, sgn_abs]
  have hs := sg_neg_iff (neg := neg) h0
  have hNs : decide (N < 0) = neg := by
    cases neg
    · exact decide_eq_false (fun c => by rw [← hval] at c; have := m1.1 c; simp at hs; omega)
    · exact decide_eq_true (by rw [← hval]; exact m1.2 (by simpa using hs))
  have e1 : 2 * (M * 2 ^ j / n) + (if decide (0 < nd (M * 2 ^ j % n)) = true then 1 else 0) = quoS M n j := by
    unfold quoS
    congr 1
    by_cases hr : M * 2 ^ j % n = 0
    · rw [hr]; rfl
    · have := nd_pos hr
      rw [if_neg hr, if_pos (decide_eq_true (show 0 < nd (M * 2 ^ j % n) from this))]
  rw [if_neg hN0, hNs, hNa, e1, quoS_up2, Nat.add_zero]
  have e2 : nearR (quoS M n j) (e - (j : Int) - 0 - 1) = nearR (quoS M n q) (-2149) := by
    rw [show e - (j : Int) - 0 - 1 = (e - 1) - (j : Int) by omega, show (-2149 : Int) = (e - 1) - (q : Int) by omega]
    by_cases hjq : j ≤ q
    · exact near_quo hn hjq hb.2
    · exact (near_quo_low h0 hn (by omega) (by omega)).symm
  rw [e2]
  unfold sbit wrd
  cases neg <;> simp

set_option maxHeartbeats 1600000 in
theorem dOverN_num (neg : Bool) (v : Value) (M : Nat) (e : Int) (N : Int) (k n : Nat) (w : World) (hd : DN w v M) (hv : DV 0 neg M e N k) (hk : FewK k) (hn : 2 ≤ n) (hn' : n ≤ 9223372036854775807) :
    Calls Tryz.prog 97 #[AV 0 neg v e, .int .i64 (n : Int)] w fun r w' => r = .returned (.int .u64 (A.overF N n : Int)) ∧ Below w.heap.size w w' := by
  obtain ⟨p, l, c, rfl⟩ := hd.shape
  obtain ⟨res, hres⟩ : ∃ res : Int, (A.overF N n : Int) = res := ⟨_, rfl⟩
  rw [hres]
  have HB : Hid (Below w.heap.size w (boxA w 0 neg (.slice p l c) e)) := (Below.refl _ _).alloc (Nat.le_refl _) _
  have HW := hide fun wx => whole_any (n : Int) wx (by omega) (by omega)
  unfold NumV at HW
  rw [show decide ((n : Int) < 0) = false from decide_eq_false (by omega), Int.natAbs_natCast] at HW
  have HN : Hid (∀ wx vy, Below w.heap.size w wx → DN wx vy n → Calls Tryz.prog 65 #[.agg #[.bool neg, .slice p l c, .int .i64 e], .agg #[.bool false, vy, .int .i64 0]] wx fun x w' => x = .returned (.int .u64 res) ∧ Below wx.heap.size wx w') := fun wx vy hb hy => by
    rw [← hres]
    by_cases h0 : M = 0
    · have hN : N = 0 := by have := hv.val; rw [h0, sg_zero_any, Int.zero_mul] at this; exact this.symm
      have := nearOver_zeroD neg false (.slice p l c) vy e 0 wx (by have := hd.below hb; rw [h0] at this; exact this)
      rw [overF_val, if_pos hN]
      exact this
    · obtain ⟨j, hj⟩ : ∃ j : Nat, max 0 (70 - (bl M : Int) + (bl n : Int)) = (j : Int) := ⟨(max 0 (70 - (bl M : Int) + (bl n : Int))).toNat, by omega⟩
      exact nearOver_at neg false _ (.slice p l c) vy e 0 _ M n j _ wx (hd.below hb) hy h0 (by omega) (by have := (hv.nd hk).2; omega) (by have := nd_mono (N := n) (k := 2) (by omega); omega) (by have := hv.lo; omega) (by have := hv.hi; omega) (by omega) (by omega) hj rfl rfl (over_both hv h0 (by omega) hj)
  have hn1 : ((n : Int) == 1) = false := beq_false_of_ne (by omega)
  clear hd hv hres hk hn hn'
  go_enter Tryz.func97, Tryz.ntmps97
  have H3 := hide (box1_three w 0 neg (.slice p l c) e)
  go_wp2_with fail
  go_region_held3 (fun w' => w'.cell? ⟨w.heap.size, 1, none⟩ = some (.bool neg) ∧ w'.cell? ⟨w.heap.size, 2, none⟩ = some (.slice p l c) ∧ w'.cell? ⟨w.heap.size, 3, none⟩ = some (.int .i64 e)) (first | exact H3.out | exact H4.out | exact H5.out | go_keep) (first | ((go_at_call 66; refine (HW.out _).mono ?_; rintro r w3 ⟨vy, rfl, hdy, hb3⟩; obtain ⟨py, ly, cy, rfl⟩ := hdy.shape; have HB3 := hide (HB.out.drew.trans (hb3.mono HB.out.size)); have H4 := hide (three_below (w1 := (boxA w 0 neg (.slice p l c) e).drew) H3.out hb3 (show w.heap.size < (boxA w 0 neg (.slice p l c) e).heap.size by simp)); have hz3 : Hid (w.heap.size < w3.heap.size) := (Nat.lt_of_lt_of_le (show w.heap.size < (boxA w 0 neg (.slice p l c) e).heap.size by simp) hb3.size); have HDy := hide hdy; clear hb3 hdy)) | ((go_at_call 65; refine (HN.out _ _ HB3.out HDy.out).mono ?_; rintro r w4 ⟨rfl, hb4⟩; have HB4 := hide (HB3.out.trans (hb4.mono HB3.out.size)); have H5 := hide (three_below H4.out hb4 hz3.out); clear hb4)))
  all_goals
    go_wp2_with fail
    go_ret
    exact ⟨rfl, HB4.out⟩
def overSt (a : A.St) (n : Nat) : Nat := if a.s = 0 then A.overF a.N n else A.valSt a
set_option maxHeartbeats 1600000 in
theorem dOverN_odd (s : Nat) (neg : Bool) (v : Value) (M : Nat) (e : Int) (N n : Int) (w : World) (hd : DN w v M) (hs : s = 1 ∨ s = 2 ∨ s = 3) :
    Calls Tryz.prog 97 #[AV (s : Int) neg v e, .int .i64 n] w fun r w' => r = .returned (.int .u64 (A.valSt ⟨s, N⟩ : Int)) ∧ Below w.heap.size w w' := by
  obtain ⟨p, l, c, rfl⟩ := hd.shape
  obtain ⟨res, hres⟩ : ∃ res : Int, (A.valSt ⟨s, N⟩ : Int) = res := ⟨_, rfl⟩
  rw [hres]
  have HB : Hid (Below w.heap.size w (boxA w (s : Int) neg (.slice p l c) e)) := (Below.refl _ _).alloc (Nat.le_refl _) _
  rcases hs with rfl | rfl | rfl
  · have hr : (9218868437227405312 : Int) = res := by rw [← hres, valSt_1]; rfl
    have HR := hide hr
    clear hd hres hr
    go_enter Tryz.func97, Tryz.ntmps97
    go_wp2_with fail
    go_ret
    exact ⟨ret_int HR.out, HB.out⟩
  · have hr : (18442240474082181120 : Int) = res := by rw [← hres, valSt_2]; rfl
    have HR := hide hr
    have HF := hide fun w => refFlip_at 9218868437227405312 9218868437227405312 18442240474082181120 w rfl (by unfold U64; omega) rfl
    clear hd hres hr
    go_enter Tryz.func97, Tryz.ntmps97
    go_wp2_with fail
    refine (HF.out _).mono ?_
    rintro r w' ⟨rfl, rfl⟩
    go_wp2_with fail
    go_ret
    exact ⟨ret_int HR.out, HB.out⟩
  · have hr : (9221120237041090561 : Int) = res := by rw [← hres, valSt_3]; rfl
    have HR := hide hr
    clear hd hres hr
    go_enter Tryz.func97, Tryz.ntmps97
    go_wp2_with fail
    go_ret
    exact ⟨ret_int HR.out, HB.out⟩
theorem dOverN (s : Nat) (neg : Bool) (v : Value) (M : Nat) (e : Int) (N : Int) (k n : Nat) (w : World) (hd : DN w v M) (hv : DV s neg M e N k) (hk : FewK k) (hn : 1 ≤ n) (hn' : n ≤ 9223372036854775807) :
    Calls Tryz.prog 97 #[AV (s : Int) neg v e, .int .i64 (n : Int)] w fun r w' => r = .returned (.int .u64 (overSt ⟨s, N⟩ n : Int)) ∧ Below w.heap.size w w' := by
  have hs3 := hv.s3
  unfold overSt
  dsimp only
  by_cases h0 : s = 0
  · rw [if_pos h0]
    subst h0
    by_cases h1 : n = 1
    · subst h1
      rw [A.overF_one]
      have := dOver 0 neg v M e N k w hd hv hk
      rw [valSt_0] at this
      exact this
    · exact dOverN_num neg v M e N k n w hd hv hk (by omega) hn'
  · rw [if_neg h0]
    exact dOverN_odd s neg v M e N (n : Int) w hd (by omega)
end Go.Proofs.YtcmbfflemoccmaaGreat
