/- Contracts of the document's Whole, Join, Of and Split. Plain numbers by their digits: sums and differences. No word of the program. -/
import Derived.Test.YtbkmbdbjeiffpaaHah
import Derived.Test.YtbkmbdbjeiffpaaHai
import Derived.Test.YtbkmbdbjeiffpaaHab
namespace Go.Proofs.Ytbkmbdbjeiffpaa
open Go.RowKit

theorem nearR_tiny {N : Nat} {e : Int} (h0 : N ≠ 0) (h : (bl N : Int) + e < -1200) : nearR N e = 0 := by
  have hb := bl_pos h0
  have e3 : lastP N e = -1074 := by unfold lastP; omega
  unfold nearR
  rw [e3, show (e - -1074).toNat = 0 by omega, Nat.pow_zero, Nat.mul_one, rne_small]
  · rfl
  · have h1 := lt_bl N
    have h2 : (2 : Nat) ^ (bl N + 1) ≤ 2 ^ (-1074 - e).toNat := Nat.pow_le_pow_right (by decide) (by omega)
    rw [Nat.pow_succ] at h2; omega
theorem nearM_eq (neg : Bool) {N : Nat} (e : Int) (h0 : N ≠ 0) : nearM neg N e false = (if neg then 9223372036854775808 else 0) + (nearR N e : Int) := by
  have hb := bl_pos h0
  unfold nearM
  rw [if_neg h0]
  have key : (if farB N e = true then if 0 < e ∨ 0 < (bl N : Int) + e then madeI neg 9218868437227405312 else madeI neg 0 else madeI neg (rnd53 N e false)) = madeI neg (nearR N e) := by
    cases hf : farB N e
    · simp only [Bool.false_eq_true, if_false]
      rw [← rnd_near e h0]
      unfold madeI
      cases neg <;> simp only [Bool.false_eq_true, if_true, if_false] <;> omega
    · simp only [if_true]
      unfold farB at hf
      rw [Bool.or_eq_true, decide_eq_true_eq, decide_eq_true_eq] at hf
      rcases hf with hf | hf
      · rw [if_pos (Or.inr (by omega)), nearR_big h0 (by omega)]; rfl
      · rw [if_neg (by omega), nearR_tiny h0 hf]; rfl
  rw [key]
  have hle : nearR N e ≤ 9218868437227405312 := Nat.min_le_right _ _
  unfold madeI
  cases neg <;> simp only [Bool.false_eq_true, if_true, if_false] <;> omega

theorem DN.shape {w : World} {v : Value} {N : Nat} (h : DN w v N) : ∃ p l c, v = .slice p l c := by
  rcases h with ⟨_, p, c, rfl⟩ | ⟨_, g, c, rfl, _⟩
  · exact ⟨p, 0, c, rfl⟩
  · exact ⟨_, _, _, rfl⟩

set_option maxHeartbeats 400000 in
theorem whole_pos (n : Int) (w : World) (h0 : 0 ≤ n) (h1 : n ≤ 9223372036854775807) :
    Calls Try.prog 46 #[.int .i64 n] w fun x w' => ∃ v, x = .returned (NumV false v 0) ∧ DN w' v n.toNat ∧ Below w.heap.size w w' := by
  have hu : Hid (n = (n.toNat : Int)) := by show _ = _; omega
  unfold NumV
  go_enter Try.func46, Try.ntmps46
  go_wp2_with fail
  refine (digits_as n n.toNat _ hu (by omega)).mono ?_
  rintro x w1 ⟨v1, rfl, hd1, hfr, hb1⟩
  obtain ⟨p, l, c, rfl⟩ := hd1.shape
  have HB := hide hb1
  obtain ⟨hc, hf⟩ := bcell hb1
  have hz : w.heap.size < w1.heap.size := by have := hb1.size; simp at this; omega
  have HD := fun a b c => ((hd1.set hfr (a := ⟨w.heap.size, 0, none⟩) (by simp) a).set hfr (a := ⟨w.heap.size, 1, none⟩) (by simp) b).set hfr (a := ⟨w.heap.size, 2, none⟩) (by simp) c
  have HD := hide HD
  clear hd1 hb1 hfr
  go_wp2_with fail
  refine bodyPost_ret (v := .agg #[.bool false, .slice p l c, .int .i64 0]) (by simp [results, Try.results46, go_sem, hc]) rfl ⟨_, rfl, HD.out _ _ _, ?_⟩
  exact ((((Below.refl w.heap.size w).alloc (Nat.le_refl _) _).trans (HB.out.mono (by simp))).setCell (Nat.le_refl _) _).setCell (Nat.le_refl _) _ |>.setCell (Nat.le_refl _) _

set_option maxHeartbeats 400000 in
theorem whole_neg (n : Int) (w : World) (h0 : n < 0) (h1 : -9223372036854775808 ≤ n) :
    Calls Try.prog 46 #[.int .i64 n] w fun x w' => ∃ v, x = .returned (NumV true v 0) ∧ DN w' v n.natAbs ∧ Below w.heap.size w w' := by
  have hu : Hid (-(n + 1) + 1 = (n.natAbs : Int)) := by show _ = _; omega
  unfold NumV
  go_enter Try.func46, Try.ntmps46
  go_wp2_with fail
  refine (digits_as _ n.natAbs _ hu (by omega)).mono ?_
  rintro x w1 ⟨v1, rfl, hd1, hfr, hb1⟩
  obtain ⟨p, l, c, rfl⟩ := hd1.shape
  have HB := hide hb1
  obtain ⟨hc, hf⟩ := bcell hb1
  have hz : w.heap.size < w1.heap.size := by have := hb1.size; simp at this; omega
  have HD := fun a b c => ((hd1.set hfr (a := ⟨w.heap.size, 0, none⟩) (by simp) a).set hfr (a := ⟨w.heap.size, 1, none⟩) (by simp) b).set hfr (a := ⟨w.heap.size, 2, none⟩) (by simp) c
  have HD := hide HD
  clear hd1 hb1 hfr
  go_wp2_with fail
  refine bodyPost_ret (v := .agg #[.bool true, .slice p l c, .int .i64 0]) (by simp [results, Try.results46, go_sem, hc]) rfl ⟨_, rfl, HD.out _ _ _, ?_⟩
  exact ((((Below.refl w.heap.size w).alloc (Nat.le_refl _) _).trans (HB.out.mono (by simp))).setCell (Nat.le_refl _) _).setCell (Nat.le_refl _) _ |>.setCell (Nat.le_refl _) _

theorem whole_any (n : Int) (w : World) (h0 : -9223372036854775808 ≤ n) (h1 : n ≤ 9223372036854775807) :
    Calls Try.prog 46 #[.int .i64 n] w fun x w' => ∃ v, x = .returned (NumV (decide (n < 0)) v 0) ∧ DN w' v n.natAbs ∧ Below w.heap.size w w' := by
  by_cases h : n < 0
  · rw [decide_eq_true h]; exact whole_neg n w h h0
  · rw [decide_eq_false h, show n.natAbs = n.toNat by omega]; exact whole_pos n w (by omega) h1

theorem near_agg (neg : Bool) (v : Value) (e : Int) (N : Nat) (w : World) (h : DN w v N) (hb : nd N ≤ 1000000) (he : -10000000 ≤ e) (he' : e ≤ 10000000) :
    Calls Try.prog 45 #[.agg #[.bool neg, v, .int .i64 e]] w fun x w' => x = .returned (.int .u64 (nearM neg N e false)) ∧ Below w.heap.size w w' := near_num neg v e N w h hb he he'

def clampE (e : Int) : Int := min (max e (-1048576)) 1048576

theorem near_clamp {N : Nat} (e : Int) (h0 : N ≠ 0) (h : N < 18446744073709551616) : nearR N (clampE e) = nearR N e := by
  unfold clampE
  by_cases h1 : 1048576 < e
  · rw [show min (max e (-1048576)) 1048576 = 1048576 by omega, nearR_big h0 (by omega), nearR_big h0 (by omega)]
  · by_cases h2 : e < -1048576
    · rw [show min (max e (-1048576)) 1048576 = -1048576 by omega, nearR_small h (by omega), nearR_small h (by omega)]
    · rw [show min (max e (-1048576)) 1048576 = e by omega]

set_option maxHeartbeats 400000 in
theorem refNumber_any (u : Int) (w : World) (h : U64 u) :
    Calls Try.prog 20 #[.int .u64 u] w fun e w' => e = .returned (.bool (splOk u)) ∧ w' = w := by
  have hz := andNot_sz h
  go_enter Try.func20, Try.ntmps20
  go_wp2
  go_ret
  exact ⟨rfl, rfl⟩

theorem and_mant {u : Int} (h : U64 u) : bits .and .u64 u 4503599627370495 = szI u % 4503599627370496 := by
  rw [and_mask52 h.1 h.2]; unfold szI; omega
theorem and_2047 {z : Int} (h0 : 0 ≤ z) (h : z < 18446744073709551616) : bits .and .u64 z 2047 = z % 2048 := by
  obtain ⟨b, rfl⟩ := Int.eq_ofNat_of_zero_le h0
  have := bits_and_u64_nat b 2047 (by omega) (by decide)
  rw [show ((2047 : Nat) : Int) = 2047 from rfl] at this
  rw [this]
  have e := Nat.and_two_pow_sub_one_eq_mod b 11
  rw [show (2 : Nat) ^ 11 - 1 = 2047 from rfl, show (2 : Nat) ^ 11 = 2048 from rfl] at e
  rw [e]; omega

set_option maxHeartbeats 400000 in
theorem of_sub (u : Int) (w : World) (h : U64 u) (h1 : 0 < szI u) (h2 : szI u < 4503599627370496) :
    Calls Try.prog 50 #[.int .u64 u] w fun x w' => ∃ v, x = .returned (NumV (sgB u) v (-1074)) ∧ DN w' v (szI u).toNat ∧ Below w.heap.size w w' := by
  have hm : bits .and .u64 u 4503599627370495 = szI u := by rw [and_mant h]; omega
  have hE : bits .and .u64 (u / 4503599627370496) 2047 = 0 := by
    have := h.1; have := h.2
    rw [and_2047 (by omega) (by omega)]; unfold szI at h2; omega
  have hz0 : (szI u == 0) = false := by simp; omega
  have hu : Hid (szI u = ((szI u).toNat : Int)) := by show _ = _; omega
  have hsg : decide (9223372036854775808 ≤ u) = sgB u := rfl
  have hb2 : (szI u).toNat < 18446744073709551616 := by omega
  generalize szI u = z at h1 h2 hm hz0 hu hb2
  generalize sgB u = sg at hsg
  unfold NumV
  go_enter Try.func50, Try.ntmps50
  go_wp2_with fail
  refine (digits_as z z.toNat _ hu hb2).mono ?_
  rintro x w1 ⟨v1, rfl, hd1, hfr, hb1⟩
  obtain ⟨p, l, c, rfl⟩ := hd1.shape
  have HB := hide hb1
  obtain ⟨hc, hf⟩ := bcell hb1
  have hz : w.heap.size < w1.heap.size := by have := hb1.size; simp at this; omega
  have HD := fun a b c => ((hd1.set hfr (a := ⟨w.heap.size, 0, none⟩) (by simp) a).set hfr (a := ⟨w.heap.size, 1, none⟩) (by simp) b).set hfr (a := ⟨w.heap.size, 2, none⟩) (by simp) c
  have HD := hide HD
  clear hd1 hb1 hfr
  go_wp2_with fail
  refine bodyPost_ret (v := .agg #[.bool sg, .slice p l c, .int .i64 (-1074)]) (by simp [results, Try.results50, go_sem, hc]) rfl ⟨_, rfl, HD.out _ _ _, ?_⟩
  exact ((((Below.refl w.heap.size w).alloc (Nat.le_refl _) _).trans (HB.out.mono (by simp))).setCell (Nat.le_refl _) _).setCell (Nat.le_refl _) _ |>.setCell (Nat.le_refl _) _

set_option maxHeartbeats 400000 in
theorem of_normal (u : Int) (w : World) (h : U64 u) (h1 : 4503599627370496 ≤ szI u) (h2 : szI u < 9218868437227405312) :
    Calls Try.prog 50 #[.int .u64 u] w fun x w' => ∃ v, x = .returned (NumV (sgB u) v (szI u / 4503599627370496 - 1075)) ∧ DN w' v (4503599627370496 + szI u % 4503599627370496).toNat ∧ Below w.heap.size w w' := by
  have hm : bits .and .u64 u 4503599627370495 = szI u % 4503599627370496 := and_mant h
  have hE : bits .and .u64 (u / 4503599627370496) 2047 = szI u / 4503599627370496 := by
    have := h.1; have := h.2
    rw [and_2047 (by omega) (by omega)]; unfold szI at h2 ⊢; omega
  have hq0 : 0 < szI u / 4503599627370496 := by omega
  have hq1 : szI u / 4503599627370496 < 2047 := by omega
  have hr0 : 0 ≤ szI u % 4503599627370496 := by omega
  have hr1 : szI u % 4503599627370496 < 4503599627370496 := by omega
  have hsg : decide (9223372036854775808 ≤ u) = sgB u := rfl
  clear h1 h2
  generalize szI u % 4503599627370496 = z at hm hr0 hr1
  generalize szI u / 4503599627370496 = q at hE hq0 hq1
  generalize sgB u = sg at hsg
  have hu : Hid (z + 4503599627370496 = ((4503599627370496 + z).toNat : Int)) := by show _ = _; omega
  have hz0 : (z + 4503599627370496 == 0) = false := by simp; omega
  unfold NumV
  go_enter Try.func50, Try.ntmps50
  go_wp2_with fail
  refine (digits_as _ (4503599627370496 + z).toNat _ hu (by omega)).mono ?_
  rintro x w1 ⟨v1, rfl, hd1, hfr, hb1⟩
  obtain ⟨p, l, c, rfl⟩ := hd1.shape
  have HB := hide hb1
  obtain ⟨hc, hf⟩ := bcell hb1
  have hz : w.heap.size < w1.heap.size := by have := hb1.size; simp at this; omega
  have HD := fun a b c => ((hd1.set hfr (a := ⟨w.heap.size, 0, none⟩) (by simp) a).set hfr (a := ⟨w.heap.size, 1, none⟩) (by simp) b).set hfr (a := ⟨w.heap.size, 2, none⟩) (by simp) c
  have HD := hide HD
  clear hd1 hb1 hfr
  go_wp2_with fail
  refine bodyPost_ret (v := .agg #[.bool sg, .slice p l c, .int .i64 (q - 1075)]) (by simp [results, Try.results50, go_sem, hc]) rfl ⟨_, rfl, HD.out _ _ _, ?_⟩
  exact ((((Below.refl w.heap.size w).alloc (Nat.le_refl _) _).trans (HB.out.mono (by simp))).setCell (Nat.le_refl _) _).setCell (Nat.le_refl _) _ |>.setCell (Nat.le_refl _) _

/-- A number's real. -/
theorem of_any (u : Int) (w : World) (h : U64 u) (h1 : 0 < szI u) (h2 : szI u < 9218868437227405312) :
    Calls Try.prog 50 #[.int .u64 u] w fun x w' => ∃ v, x = .returned (NumV (sgB u) v (plcI (szI u))) ∧ DN w' v (magI (szI u)).toNat ∧ Below w.heap.size w w' := by
  unfold plcI magI
  by_cases hc : szI u < 4503599627370496
  · rw [if_pos hc, if_pos hc]; exact of_sub u w h h1 hc
  · rw [if_neg hc, if_neg hc]; exact of_normal u w h (by omega) h2

end Go.Proofs.Ytbkmbdbjeiffpaa
namespace Go.Proofs.Ytbkmbdbjeiffpaa

theorem dgt_mod (S k j : Nat) : dgt (S % 2 ^ (32 * k)) j = if j < k then dgt S j else 0 := by
  by_cases h : j < k
  · rw [if_pos h]
    unfold dgt
    have e : (2 : Nat) ^ (32 * k) = 2 ^ (32 * j) * (2 ^ (32 * (k - j - 1)) * 4294967296) := by
      rw [← pow32, ← Nat.pow_add]; congr 1; omega
    rw [e, Nat.mod_mul_right_div_self, Nat.mod_mod_of_dvd _ (Nat.dvd_mul_left _ _)]
  · rw [if_neg h]
    exact dgt_ge (Nat.lt_of_lt_of_le (Nat.mod_lt _ (Nat.two_pow_pos _)) (Nat.pow_le_pow_right (by decide) (by omega)))

/-- What is carried into place k when A and B are added. -/
def cry (A B k : Nat) : Nat := (A % 2 ^ (32 * k) + B % 2 ^ (32 * k)) / 2 ^ (32 * k)
theorem cry_zero (A B : Nat) : cry A B 0 = 0 := by
  unfold cry; rw [Nat.mul_zero, Nat.pow_zero, Nat.mod_one, Nat.mod_one]
theorem cry_le (A B k : Nat) : cry A B k ≤ 1 := by
  unfold cry
  have h1 : A % 2 ^ (32 * k) < 2 ^ (32 * k) := Nat.mod_lt _ (Nat.two_pow_pos _)
  have h2 : B % 2 ^ (32 * k) < 2 ^ (32 * k) := Nat.mod_lt _ (Nat.two_pow_pos _)
  have : (A % 2 ^ (32 * k) + B % 2 ^ (32 * k)) / 2 ^ (32 * k) < 2 := by
    rw [Nat.div_lt_iff_lt_mul (Nat.two_pow_pos _)]; omega
  omega
theorem cry_succ (A B k : Nat) : cry A B (k + 1) = (dgt A k + dgt B k + cry A B k) / 4294967296 := by
  have hp := Nat.two_pow_pos (32 * k)
  unfold cry
  rw [mod_succ, mod_succ, pow32, ← Nat.div_div_eq_div_mul]
  congr 1
  generalize A % 2 ^ (32 * k) = a
  generalize B % 2 ^ (32 * k) = b
  rw [show a + dgt A k * 2 ^ (32 * k) + (b + dgt B k * 2 ^ (32 * k)) = (a + b) + (dgt A k + dgt B k) * 2 ^ (32 * k) by rw [Nat.add_mul]; omega, Nat.add_mul_div_right _ _ hp]
  omega
theorem dgt_add (A B k : Nat) : dgt (A + B) k = (dgt A k + dgt B k + cry A B k) % 4294967296 := by
  have hp := Nat.two_pow_pos (32 * k)
  unfold dgt cry
  generalize hP : 2 ^ (32 * k) = P at *
  have ha := Nat.div_add_mod A P
  have hb := Nat.div_add_mod B P
  have e : A + B = (A % P + B % P) + (A / P + B / P) * P := by rw [Nat.add_mul, Nat.mul_comm (A / P), Nat.mul_comm (B / P)]; omega
  rw [show (A + B) / P = (A % P + B % P) / P + (A / P + B / P) by rw (config := { occs := .pos [1] }) [e]; rw [Nat.add_mul_div_right _ _ hp]]
  omega

/-- One round of a sum. -/
theorem add_round {A B k a b c s : Nat} (ha : a = dgt A k) (hb : b = dgt B k) (hc : c = cry A B k) (hs : s = a + b + c) :
    s % 4294967296 = dgt (A + B) k ∧ s / 4294967296 = cry A B (k + 1) := by
  subst ha hb hc hs
  exact ⟨(dgt_add A B k).symm, (cry_succ A B k).symm⟩
/-- One round of a difference: A = B + D. -/
theorem sub_round {B D k a b c : Nat} (ha : a = dgt (B + D) k) (hb : b = dgt B k) (hc : c = cry B D k) :
    b + c ≤ a + 4294967296 ∧ (a + 4294967296 - b - c) % 4294967296 = dgt D k ∧ (a + 4294967296 - b - c) / 4294967296 ≤ 1 ∧ 1 - (a + 4294967296 - b - c) / 4294967296 = cry B D (k + 1) := by
  have h1 := dgt_add B D k
  have h2 := cry_succ B D k
  have h3 := dgt_lt D k
  have h4 := dgt_lt B k
  have h5 := cry_le B D k
  have h6 := dgt_lt (B + D) k
  subst ha hb hc
  rw [h2]
  generalize dgt (B + D) k = x at *
  generalize dgt B k = y at *
  generalize dgt D k = z at *
  generalize cry B D k = c at *
  omega

/-- Two numbers by their digits from the top. -/
theorem div_step (A k : Nat) : A / 2 ^ (32 * k) = A / 2 ^ (32 * (k + 1)) * 4294967296 + dgt A k := by
  unfold dgt
  rw [pow32, ← Nat.div_div_eq_div_mul]
  omega
theorem lt_of_top {A B k : Nat} (h : A / 2 ^ (32 * (k + 1)) = B / 2 ^ (32 * (k + 1))) (hd : dgt A k < dgt B k) : A < B := by
  have h1 := div_step A k
  have h2 := div_step B k
  rcases Nat.lt_or_ge A B with h3 | h3
  · exact h3
  · have := Nat.div_le_div_right (c := 2 ^ (32 * k)) h3
    omega
theorem eq_of_top {A B k : Nat} (h : A / 2 ^ (32 * (k + 1)) = B / 2 ^ (32 * (k + 1))) (hd : dgt A k = dgt B k) : A / 2 ^ (32 * k) = B / 2 ^ (32 * k) := by
  rw [div_step A k, div_step B k, h, hd]
theorem nd_lt_lt {A B : Nat} (h : nd A < nd B) : A < B := by
  have h0 : B ≠ 0 := by intro h0; rw [h0, nd_zero] at h; omega
  have h1 := nd_lt A
  have h2 := nd_le h0
  exact Nat.lt_of_lt_of_le h1 (Nat.le_trans (Nat.pow_le_pow_right (by decide) (by omega)) h2)
/-- How two numbers stand to each other. -/
def cmpN (A B : Nat) : Int := if A < B then -1 else if A = B then 0 else 1
theorem cmpN_lt {A B : Nat} (h : A < B) : cmpN A B = -1 := if_pos h
theorem cmpN_eq {A B : Nat} (h : A = B) : cmpN A B = 0 := by unfold cmpN; rw [if_neg (by omega), if_pos h]
theorem cmpN_gt {A B : Nat} (h : B < A) : cmpN A B = 1 := by unfold cmpN; rw [if_neg (by omega), if_neg (by omega)]
theorem sum_lt {A B m n L : Nat} (hA : A < 2 ^ (32 * m)) (hB : B < 2 ^ (32 * n)) (hm : m < L) (hn : n < L) : A + B < 2 ^ (32 * L) := by
  have e : (2 : Nat) ^ (32 * (L - 1 + 1)) = 2 ^ (32 * (L - 1)) * 4294967296 := pow32 (L - 1)
  rw [show L - 1 + 1 = L by omega] at e
  have h1 : (2 : Nat) ^ (32 * m) ≤ 2 ^ (32 * (L - 1)) := Nat.pow_le_pow_right (by decide) (by omega)
  have h2 : (2 : Nat) ^ (32 * n) ≤ 2 ^ (32 * (L - 1)) := Nat.pow_le_pow_right (by decide) (by omega)
  omega
end Go.Proofs.Ytbkmbdbjeiffpaa
