/- The contract of the document's MulDigits. The contract of the document's Times. -/
import Derived.Test.YtbkmbdbjeiffpaaHak
import Derived.Deep.LoopGhost
import Derived.Test.YtbkmbdbjeiffpaaHal
namespace Go.Proofs.Ytbkmbdbjeiffpaa
open Go.RowKit

/-- R with another digit at place j. -/
def setD (R j d : Nat) : Nat := R / 2 ^ (32 * (j + 1)) * 2 ^ (32 * (j + 1)) + d * 2 ^ (32 * j) + R % 2 ^ (32 * j)
theorem setD_sum (R j d : Nat) : setD R j d + dgt R j * 2 ^ (32 * j) = R + d * 2 ^ (32 * j) := by
  unfold setD
  have h1 := Nat.div_add_mod R (2 ^ (32 * (j + 1)))
  have h2 := mod_succ R j
  rw [Nat.mul_comm] at h1
  omega
theorem low_lt (R j d : Nat) (hd : d < 4294967296) : d * 2 ^ (32 * j) + R % 2 ^ (32 * j) < 2 ^ (32 * (j + 1)) := by
  have h1 : R % 2 ^ (32 * j) < 2 ^ (32 * j) := Nat.mod_lt _ (Nat.two_pow_pos _)
  have h2 : (d + 1) * 2 ^ (32 * j) ≤ 4294967296 * 2 ^ (32 * j) := Nat.mul_le_mul_right _ hd
  rw [Nat.add_mul, Nat.one_mul] at h2
  rw [pow32, Nat.mul_comm (2 ^ (32 * j))]
  omega
theorem setD_div (R j d : Nat) (hd : d < 4294967296) : setD R j d / 2 ^ (32 * (j + 1)) = R / 2 ^ (32 * (j + 1)) := by
  unfold setD
  rw [Nat.add_assoc, Nat.add_comm, Nat.add_mul_div_right _ _ (Nat.two_pow_pos _), Nat.div_eq_of_lt (low_lt R j d hd), Nat.zero_add]
theorem setD_lt {R j d T : Nat} (hR : R < 2 ^ (32 * T)) (hj : j < T) (hd : d < 4294967296) : setD R j d < 2 ^ (32 * T) := by
  have e : (2 : Nat) ^ (32 * T) = 2 ^ (32 * (T - (j + 1))) * 2 ^ (32 * (j + 1)) := by rw [← Nat.pow_add]; congr 1; omega
  rw [e] at hR ⊢
  rw [← Nat.div_lt_iff_lt_mul (Nat.two_pow_pos _)] at hR ⊢
  rw [setD_div R j d hd]; exact hR
theorem dgt_far {R S j i : Nat} (h : R / 2 ^ (32 * (j + 1)) = S / 2 ^ (32 * (j + 1))) (hi : j < i) : dgt R i = dgt S i := by
  unfold dgt
  have e : (2 : Nat) ^ (32 * i) = 2 ^ (32 * (j + 1)) * 2 ^ (32 * (i - (j + 1))) := by rw [← Nat.pow_add]; congr 1; omega
  rw [e, ← Nat.div_div_eq_div_mul, ← Nat.div_div_eq_div_mul, h]
theorem dgt_setD (R j d i : Nat) (hd : d < 4294967296) : dgt (setD R j d) i = if i = j then d else dgt R i := by
  have hp := Nat.two_pow_pos (32 * j)
  by_cases h : i = j
  · subst h
    rw [if_pos rfl]
    have h1 := div_step (setD R i d) i
    rw [setD_div R i d hd] at h1
    have h2 : setD R i d / 2 ^ (32 * i) = R / 2 ^ (32 * (i + 1)) * 4294967296 + d := by
      unfold setD
      generalize R / 2 ^ (32 * (i + 1)) = q
      have e : q * 2 ^ (32 * (i + 1)) + d * 2 ^ (32 * i) = (q * 4294967296 + d) * 2 ^ (32 * i) := by rw [pow32, Nat.add_mul, Nat.mul_assoc, Nat.mul_comm 4294967296]
      rw [e, Nat.add_comm, Nat.add_mul_div_right _ _ hp, Nat.div_eq_of_lt (Nat.mod_lt _ hp), Nat.zero_add]
    omega
  · rw [if_neg h]
    rcases Nat.lt_or_gt_of_ne h with h1 | h1
    · have e1 := dgt_mod (setD R j d) j i
      have e2 := dgt_mod R j i
      rw [if_pos h1] at e1 e2
      rw [← e1, ← e2]
      congr 1
      unfold setD
      rw [pow32, Nat.mul_comm (2 ^ (32 * j)) 4294967296, ← Nat.mul_assoc, ← Nat.add_mul, Nat.mul_add_mod', Nat.mod_mod]
    · exact dgt_far (setD_div R j d hd) h1
theorem Own.put {w : World} {b n R j d : Nat} {x : Int} (h : Own w b n R) (hx : x = (d : Int)) (hd : d < 4294967296) : Own (w.setCell ⟨b, j, none⟩ (.int .u64 x)) b n (setD R j d) := by
  refine (h.set j (.int .u64 x)).congr fun i _ => ?_
  rw [dgt_setD R j d i hd]
  by_cases c : i = j
  · rw [if_pos c, if_pos c, hx]
  · rw [if_neg c, if_neg c]

/-- One round of the inner loop. -/
theorem mul_round {M B R i k a b c o s : Nat} (hR : R + c * 2 ^ (32 * (i + k)) = M + a * (B % 2 ^ (32 * k)) * 2 ^ (32 * i)) (hb : b = dgt B k) (ho : o = dgt R (i + k)) (hs : s = o + a * b + c) :
    setD R (i + k) (s % 4294967296) + s / 4294967296 * 2 ^ (32 * (i + (k + 1))) = M + a * (B % 2 ^ (32 * (k + 1))) * 2 ^ (32 * i) := by
  have h1 := setD_sum R (i + k) (s % 4294967296)
  rw [← ho] at h1
  rw [show i + (k + 1) = i + k + 1 by omega, pow32, mod_succ, ← hb, Nat.mul_add a, Nat.add_mul (a * _)]
  have e1 : a * (b * 2 ^ (32 * k)) * 2 ^ (32 * i) = a * b * 2 ^ (32 * (i + k)) := by
    rw [← Nat.mul_assoc, Nat.mul_assoc, ← Nat.pow_add]; congr 2; omega
  rw [e1]
  generalize 2 ^ (32 * (i + k)) = W at *
  have e2 : s / 4294967296 * (W * 4294967296) + s % 4294967296 * W = s * W := by
    rw [Nat.mul_comm W, ← Nat.mul_assoc, ← Nat.add_mul, Nat.div_add_mod']
  have e3 : s * W = o * W + a * b * W + c * W := by rw [hs, Nat.add_mul, Nat.add_mul]
  generalize s / 4294967296 * (W * 4294967296) = t1 at *
  generalize s % 4294967296 * W = t2 at *
  generalize s * W = t3 at *
  generalize o * W = t4 at *
  generalize a * b * W = t5 at *
  generalize c * W = t6 at *
  generalize a * (B % 2 ^ (32 * k)) * 2 ^ (32 * i) = t7 at *
  omega
theorem mul_small {o a b c : Nat} (ho : o < 4294967296) (ha : a < 4294967296) (hb : b < 4294967296) (hc : c < 4294967296) : a * b ≤ 18446744065119617025 ∧ o + a * b + c < 18446744073709551616 := by
  have : a * b ≤ 4294967295 * 4294967295 := Nat.mul_le_mul (by omega) (by omega)
  omega
theorem mul_end {A B R i n a c : Nat} (hR : R + c * 2 ^ (32 * (i + n)) = (A % 2 ^ (32 * i)) * B + a * (B % 2 ^ (32 * n)) * 2 ^ (32 * i)) (hB : B < 2 ^ (32 * n)) (ha : a = dgt A i) (hlt : R < 2 ^ (32 * (i + n))) :
    setD R (i + n) c = (A % 2 ^ (32 * (i + 1))) * B := by
  have h1 := setD_sum R (i + n) c
  rw [dgt_ge hlt, Nat.zero_mul] at h1
  rw [Nat.mod_eq_of_lt hB] at hR
  rw [mod_succ, Nat.add_mul, ← ha]
  have : a * B * 2 ^ (32 * i) = a * 2 ^ (32 * i) * B := by rw [Nat.mul_assoc, Nat.mul_comm B, Nat.mul_assoc]
  omega
theorem prod_lt {A B m n : Nat} (hA : A < 2 ^ (32 * m)) (hB : B < 2 ^ (32 * n)) : A * B < 2 ^ (32 * (m + n)) := by
  rw [Nat.mul_add, Nat.pow_add]
  exact Nat.mul_lt_mul'' hA hB

set_option maxRecDepth 10000 in
set_option maxHeartbeats 1600000 in
theorem mulDigits_row (g f c d m n A B : Nat) (w : World) (hrA : Hid (RowIs w g m A)) (hrB : Hid (RowIs w f n B)) (hg : g < w.heap.size) (hf : f < w.heap.size) (hm : m ≤ 1000000) (hn : n ≤ 1000000) (hA : Hid (A < 2 ^ (32 * m))) (hB : Hid (B < 2 ^ (32 * n))) :
    Calls Try.prog 71 #[.slice (some ⟨g, 0, none⟩) m c, .slice (some ⟨f, 0, none⟩) n d] w fun e w' => ∃ v, e = .returned v ∧ DN w' v (A * B) ∧ From w.heap.size v ∧ Below w.heap.size w w' := by
  have hmk := fun w => run_make_row' (P := Try.prog) 54 26 (.int .u64 0) 8 Try.underlying54 info_u64 rfl .i64 .i64 (m + n + 1) (by omega) (by omega) w
  have ec : ((m + n + 1 : Nat) : Int) = (m : Int) + (n : Int) + 1 := by omega
  rw [ec] at hmk
  clear ec
  have HO := hide (own_made w (m + n + 1))
  go_enter Try.func71, Try.ntmps71
  go_wp2_with fail
  go_loopg [6] m (fun gm i wr => ∃ k : Nat, k ≤ m ∧ gm = m - k ∧ i = .int .i64 k ∧ Hid (Own wr w.heap.size (m + n + 1) ((A % 2 ^ (32 * k)) * B)) ∧ Hid (Below w.heap.size w wr))
  case atStart => exact ⟨0, Nat.zero_le _, by omega, rfl, by rw [Nat.mul_zero, Nat.pow_zero, Nat.mod_one, Nat.zero_mul]; exact HO, (Below.refl _ _).alloc (Nat.le_refl _) _⟩
  case round =>
    clear HO hmk
    obtain ⟨i, hi, rfl, rfl, HOwn, HBl⟩ := hrel
    by_cases hlt : i < m
    · have hca := (HBl.out.cell (p := ⟨g, i, none⟩) hg).trans (hrA.out i hlt)
      have HCA := hide (hrA.out i hlt)
      have ba := dgt_lt A i
      have HM : Hid ((A % 2 ^ (32 * i)) * B < 2 ^ (32 * (i + n))) := prod_lt (Nat.mod_lt _ (Nat.two_pow_pos _)) hB.out
      have HE := hide fun R a c (ha : a = dgt A i) => mul_end (A := A) (B := B) (R := R) (i := i) (n := n) (a := a) (c := c)
      generalize ha : dgt A i = a at hca HCA ba
      have HAI := hide ha.symm
      clear ha
      go_wp2_with fail
      go_loopg [7, 8] n (fun gm s kk wr2 => ∃ k x R : Nat, k ≤ n ∧ gm = n - k ∧ kk = .int .i64 k ∧ s = .int .u64 x ∧ x < 4294967296 ∧ Hid (R + x * 2 ^ (32 * (i + k)) = (A % 2 ^ (32 * i)) * B + a * (B % 2 ^ (32 * k)) * 2 ^ (32 * i)) ∧ Hid (R < 2 ^ (32 * (i + n))) ∧ Hid (Own wr2 w.heap.size (m + n + 1) R) ∧ Hid (Below w.heap.size w wr2))
      case atStart => exact ⟨0, 0, _, Nat.zero_le _, by omega, rfl, rfl, by omega, by show _ = _; rw [Nat.mul_zero 32, Nat.pow_zero, Nat.mod_one, Nat.zero_mul, Nat.mul_zero, Nat.zero_mul], HM, HOwn, HBl⟩
      case round =>
        clear HOwn HBl HM hca
        obtain ⟨k, x, R, hk, rfl, rfl, rfl, hx, HS, HR, HOwn, HBl⟩ := hrel
        have hca := (HBl.out.cell (p := ⟨g, i, none⟩) hg).trans HCA.out
        by_cases hlt2 : k < n
        · have hcb := (HBl.out.cell (p := ⟨f, k, none⟩) hf).trans (hrB.out k hlt2)
          have bb := dgt_lt B k
          have ho := HOwn.out.cell (i := i + k) (by omega)
          have bo := dgt_lt R (i + k)
          have fo := HOwn.out.frozen (i + k)
          have HRd := hide fun b o s (hb : b = dgt B k) (hq : o = dgt R (i + k)) (hs : s = o + a * b + x) => mul_round HS.out hb hq hs
          generalize hb : dgt B k = b at hcb bb
          generalize hq : dgt R (i + k) = o at ho bo
          have HRd := hide (HRd.out b o _ hb.symm hq.symm rfl)
          clear hb hq
          obtain ⟨s1, s2⟩ := mul_small bo ba bb hx
          have w1 : IntKind.u64.wrap ((a : Int) * (b : Int)) = ((a * b : Nat) : Int) := by rw [← Int.natCast_mul, IntKind.wrap_u64]; omega
          generalize a * b = ab at w1 s1 s2 HRd
          have w2 : IntKind.u64.wrap ((o : Int) + (ab : Int)) = (o : Int) + (ab : Int) := by rw [IntKind.wrap_u64]; omega
          have w3 : IntKind.u64.wrap ((o : Int) + (ab : Int) + (x : Int)) = ((o + ab + x : Nat) : Int) := by rw [IntKind.wrap_u64]; omega
          generalize o + ab + x = s at w3 s2 HRd
          have w4 : IntKind.i64.wrap ((i : Int) + (k : Int)) = (i : Int) + (k : Int) := by rw [IntKind.wrap_i64]; omega
          have tn : ((i : Int) + (k : Int)).toNat = i + k := by omega
          have nn : (0 : Int) ≤ (i : Int) + (k : Int) := by omega
          have nm : (i : Int) + (k : Int) < ((m + n + 1 : Nat) : Int) := by omega
          go_wp2_with fail
          go_quiet (fail)
          go_wp2_with fail
          go_roundg (n - (k + 1))
          case measure => omega
          case rel =>
            exact ⟨k + 1, s / 4294967296, setD R (i + k) (s % 4294967296), by omega, rfl, by go_num, by go_num, by omega, HRd.out, setD_lt HR.out (by omega) (by omega), Own.put (w := wr.drewN nq) HOwn.out (by omega) (by omega), (below_drewN HBl.out _).setCell (Nat.le_refl _) _⟩
        · obtain rfl : k = n := by omega
          have ho := HOwn.out.cell (i := i + k) (by omega)
          have fo := HOwn.out.frozen (i + k)
          have hz : dgt R (i + k) = 0 := dgt_ge HR.out
          rw [hz] at ho
          have HEnd := hide (mul_end HS.out hB.out HAI.out HR.out)
          clear hz
          go_wp2_with fail
          go_roundg (m - (i + 1))
          case measure => omega
          case rel =>
            refine ⟨i + 1, by omega, rfl, by go_num, ?_, HBl.out.setCell (Nat.le_refl _) _⟩
            rw [← HEnd.out]
            exact Own.put HOwn.out (by omega) hx
    · obtain rfl : i = m := by omega
      have e : A % 2 ^ (32 * i) = A := Nat.mod_eq_of_lt hA.out
      rw [e] at HOwn
      clear e
      have hM : Hid (A * B < 2 ^ (32 * (i + n + 1))) := Nat.lt_of_lt_of_le (prod_lt hA.out hB.out) (Nat.pow_le_pow_right (by decide) (by omega))
      have hlt2 := HOwn.out.lt
      have HD := hide (dn_mk HOwn.out.row hM.out (Nat.le_refl _) hlt2)
      go_wp2_with fail
      refine (trim_row _ _ _ _ _ HOwn.out.row hM.out (Nat.le_refl _) (by omega)).mono ?_
      rintro e w' ⟨rfl, rfl⟩
      go_wp2_with fail
      go_ret
      exact ⟨_, rfl, HD.out, from_at _ _ _ _ (Nat.le_refl _), HBl.out⟩

end Go.Proofs.Ytbkmbdbjeiffpaa
namespace Go.Proofs.Ytbkmbdbjeiffpaa
open Go.RowKit

theorem sg_mul (nx ny : Bool) (X Y : Nat) : sg (nx != ny) (X * Y) = sg nx X * sg ny Y := by
  cases nx <;> cases ny <;> simp [sg, Int.natCast_mul, Int.neg_mul, Int.mul_neg]
theorem six_set {w : World} {B : Nat} {nx ny : Bool} {vx vy : Value} {ex ey : Int} (h : Six w B nx vx ex ny vy ey) (i : Nat) (x : Value) : Six (w.setCell ⟨B + 1 + 1, i, none⟩ x) B nx vx ex ny vy ey := by
  obtain ⟨a, b, c, d, e, f⟩ := h
  have n0 : B + 1 + 1 ≠ B := by omega
  have n1 : B + 1 + 1 ≠ B + 1 := by omega
  exact ⟨(World.cell?_setCell_far w ⟨B + 1 + 1, i, none⟩ ⟨B, 0, none⟩ x n0).trans a, (World.cell?_setCell_far w ⟨B + 1 + 1, i, none⟩ ⟨B, 1, none⟩ x n0).trans b, (World.cell?_setCell_far w ⟨B + 1 + 1, i, none⟩ ⟨B, 2, none⟩ x n0).trans c, (World.cell?_setCell_far w ⟨B + 1 + 1, i, none⟩ ⟨B + 1, 0, none⟩ x n1).trans d, (World.cell?_setCell_far w ⟨B + 1 + 1, i, none⟩ ⟨B + 1, 1, none⟩ x n1).trans e, (World.cell?_setCell_far w ⟨B + 1 + 1, i, none⟩ ⟨B + 1, 2, none⟩ x n1).trans f⟩

set_option maxHeartbeats 1600000 in
theorem times_none (nx ny : Bool) (vx vy : Value) (ex ey : Int) (X Y : Nat) (w : World) (hX : DN w vx X) (hY : DN w vy Y) (h0 : X = 0 ∨ Y = 0) :
    Calls Try.prog 52 #[.agg #[.bool nx, vx, .int .i64 ex], .agg #[.bool ny, vy, .int .i64 ey]] w (PlusEnd w (ex + ey) 0) := by
  have HB0 := hide (pbox_below w nx vx ex ny vy ey)
  have HZ := hide (pbox_size w nx vx ex ny vy ey)
  have H60 := hide (pbox_six w nx vx ex ny vy ey)
  have HX0 := hide (hX.below HB0.out)
  have HY0 := hide (hY.below HB0.out)
  have HC := hide h0
  clear hX hY h0
  by_cases h0 : X = 0
  · subst h0
    clear HC
    go_enter Try.func52, Try.ntmps52
    go_wp2_with fail
    refine (zero_at _ _ _ 0 true _ HX0.out rfl).mono ?_
    rintro x w1 ⟨rfl, hb1⟩
    have HB1 : Hid (Below (w.heap.size + 3) (pbox w nx vx ex ny vy ey) w1) := hb1.mono (by rw [HZ.out]; omega)
    obtain ⟨⟨r0, r1, r2⟩, f0, f1, f2⟩ := pbox_res HB1.out
    clear hb1
    go_wp2_with fail
    exact bodyPost_ret (v := .agg #[.bool false, .slice none 0 0, .int .i64 0]) (by simp [results, Try.results52, go_sem, r0, r1, r2]) rfl (plus_none HB1.out rfl)
  · have hy : Y = 0 := by
      rcases HC.out with h | h
      · exact absurd h h0
      · exact h
    subst hy
    have HX := hide h0
    clear HC h0
    go_enter Try.func52, Try.ntmps52
    go_wp2_with fail
    refine (zero_at _ _ _ X false _ HX0.out (decide_eq_false HX.out)).mono ?_
    rintro x w1 ⟨rfl, hb1⟩
    have HB1 : Hid (Below (w.heap.size + 3) (pbox w nx vx ex ny vy ey) w1) := hb1.mono (by rw [HZ.out]; omega)
    have hz1 : w.heap.size + 3 ≤ w1.heap.size := by have h9 := hb1.size; rw [HZ.out] at h9; exact h9
    have HY1 := hide (HY0.out.below hb1)
    obtain ⟨c0, c1, c2, c3, c4, c5⟩ := H60.out.below hb1 (by rw [HZ.out]; omega)
    clear hb1
    go_wp2_with fail
    refine (zero_at _ _ _ 0 true _ HY1.out rfl).mono ?_
    rintro x w2 ⟨rfl, hb2⟩
    have HB2 := hide (HB1.out.trans (hb2.mono hz1))
    obtain ⟨⟨r0, r1, r2⟩, f0, f1, f2⟩ := pbox_res HB2.out
    clear hb2 c0 c1 c2 c3 c4 c5
    go_wp2_with fail
    exact bodyPost_ret (v := .agg #[.bool false, .slice none 0 0, .int .i64 0]) (by simp [results, Try.results52, go_sem, r0, r1, r2]) rfl (plus_none HB2.out rfl)

set_option maxHeartbeats 1600000 in
theorem times_some (nx ny : Bool) (g f c d : Nat) (ex ey : Int) (m n X Y : Nat) (w : World) (hX0 : X ≠ 0) (hY0 : Y ≠ 0)
    (hX : DN w (.slice (some ⟨g, 0, none⟩) m c) X) (hY : DN w (.slice (some ⟨f, 0, none⟩) n d) Y) (hrX : Hid (RowIs w g m X)) (hrY : Hid (RowIs w f n Y)) (hg : g < w.heap.size) (hf : f < w.heap.size) (hm : m ≤ 1000000) (hn : n ≤ 1000000) (hX1 : Hid (X < 2 ^ (32 * m))) (hY1 : Hid (Y < 2 ^ (32 * n)))
    (he : -10000000 ≤ ex) (he' : ex ≤ 10000000) (hf1 : -10000000 ≤ ey) (hf' : ey ≤ 10000000) :
    Calls Try.prog 52 #[.agg #[.bool nx, .slice (some ⟨g, 0, none⟩) m c, .int .i64 ex], .agg #[.bool ny, .slice (some ⟨f, 0, none⟩) n d, .int .i64 ey]] w (PlusEnd w (ex + ey) (sg nx X * sg ny Y)) := by
  have HMul := hide fun w' (hb' : Below w.heap.size w w') => mulDigits_row g f c d m n X Y w' (hrX.out.below hg hb') (hrY.out.below hf hb') (Nat.lt_of_lt_of_le hg hb'.size) (Nat.lt_of_lt_of_le hf hb'.size) hm hn hX1 hY1
  clear hrX hrY hX1 hY1 hg hf
  generalize hvx : Value.slice (some ⟨g, 0, none⟩) m c = vx at *
  generalize hvy : Value.slice (some ⟨f, 0, none⟩) n d = vy at *
  clear hvx hvy
  have HB0 := hide (pbox_below w nx vx ex ny vy ey)
  have HZ := hide (pbox_size w nx vx ex ny vy ey)
  have H60 := hide (pbox_six w nx vx ex ny vy ey)
  have HX0 := hide (hX.below HB0.out)
  have HY0 := hide (hY.below HB0.out)
  have HXn := hide hX0
  have HYn := hide hY0
  have w1 : IntKind.i64.wrap (ex + ey) = ex + ey := by rw [IntKind.wrap_i64]; omega
  clear hX hY hX0 hY0
  go_enter Try.func52, Try.ntmps52
  go_wp2_with fail
  refine (zero_at _ _ _ X false _ HX0.out (decide_eq_false HXn.out)).mono ?_
  rintro x w1 ⟨rfl, hb1⟩
  have HB1 : Hid (Below (w.heap.size + 3) (pbox w nx vx ex ny vy ey) w1) := hb1.mono (by rw [HZ.out]; omega)
  have hz1 : w.heap.size + 3 ≤ w1.heap.size := by have h9 := hb1.size; rw [HZ.out] at h9; exact h9
  have HY1 := hide (HY0.out.below hb1)
  have H61 := hide (H60.out.below hb1 (by rw [HZ.out]; omega))
  obtain ⟨c0, c1, c2, c3, c4, c5⟩ := H61.out
  clear hb1
  go_wp2_with fail
  refine (zero_at _ _ _ Y false _ HY1.out (decide_eq_false HYn.out)).mono ?_
  rintro x w2 ⟨rfl, hb2⟩
  have HB2 := hide (HB1.out.trans (hb2.mono hz1))
  have hz2 : w.heap.size + 3 ≤ w2.heap.size := by have h9 := hb2.size; omega
  have H62 := hide (H61.out.below hb2 (by omega))
  have HW2 := hide (HB0.out.trans (HB2.out.mono (by omega)))
  clear hb2 c0 c1 c2 c3 c4 c5
  obtain ⟨c0, c1, c2, c3, c4, c5⟩ := H62.out
  go_wp2_with fail
  go_region_held3 (fun w' => w'.cell? ⟨w.heap.size, 0, none⟩ = some (.bool nx) ∧ w'.cell? ⟨w.heap.size, 1, none⟩ = some vx ∧ w'.cell? ⟨w.heap.size, 2, none⟩ = some (.int .i64 ex) ∧ w'.cell? ⟨w.heap.size + 1, 0, none⟩ = some (.bool ny) ∧ w'.cell? ⟨w.heap.size + 1, 1, none⟩ = some vy ∧ w'.cell? ⟨w.heap.size + 1, 2, none⟩ = some (.int .i64 ey)) (first | exact H62.out | exact H64.out | exact six_set (six_set (six_set H64.out 0 _) 1 _) 2 _ | go_keep) ((go_at_call 71; refine (HMul.out _ (HW2.out.drew)).mono ?_; rintro x w4 ⟨v4, rfl, hd4, hf4, hb4⟩; obtain ⟨p4, q4, rfl⟩ := hd4.form; have HB4 := hide (HB2.out.drew.trans (hb4.mono hz2)); have H64 := hide (Six.below (w := w2.drew) H62.out hb4 (show w.heap.size + 1 < w2.heap.size by omega)); obtain ⟨⟨r0, r1, r2⟩, f0, f1, f2⟩ := pbox_res HB4.out; have HD4 := hide hd4; have HF4 := hide (hf4.mono (show w.heap.size + 3 ≤ _ from hz2)); clear hd4 hf4 hb4))
  all_goals
    go_wp2_with fail
    exact bodyPost_ret (v := .agg #[.bool _, .slice p4 _ q4, .int .i64 (ex + ey)]) (by simp [results, Try.results52, go_sem, r0, r1, r2]) rfl (plus_tail HB4.out HD4.out HF4.out (sg_mul nx ny X Y))

theorem times_any (nx ny : Bool) (vx vy : Value) (ex ey : Int) (X Y : Nat) (w : World) (hX : DN w vx X) (hY : DN w vy Y) (hm : nd X ≤ 1000000) (hn : nd Y ≤ 1000000)
    (he : -10000000 ≤ ex) (he' : ex ≤ 10000000) (hf1 : -10000000 ≤ ey) (hf' : ey ≤ 10000000) :
    Calls Try.prog 52 #[.agg #[.bool nx, vx, .int .i64 ex], .agg #[.bool ny, vy, .int .i64 ey]] w (PlusEnd w (ex + ey) (sg nx X * sg ny Y)) := by
  by_cases h0 : X = 0 ∨ Y = 0
  · have e : sg nx X * sg ny Y = 0 := by
      rw [← sg_mul]
      rcases h0 with h | h
      · rw [h, Nat.zero_mul]; cases (nx != ny) <;> rfl
      · rw [h, Nat.mul_zero]; cases (nx != ny) <;> rfl
    rw [e]
    exact times_none nx ny vx vy ex ey X Y w hX hY h0
  · have hX' := hX
    have hY' := hY
    rcases hX with ⟨h1, _⟩ | ⟨h1, g, c, rfl, _, hg, hrX⟩
    · exact absurd (Or.inl h1) h0
    · rcases hY with ⟨h2, _⟩ | ⟨h2, f, d, rfl, _, hf, hrY⟩
      · exact absurd (Or.inr h2) h0
      · exact times_some nx ny g f c d ex ey (nd X) (nd Y) X Y w h1 h2 hX' hY' hrX hrY hg hf hm hn (nd_lt X) (nd_lt Y) he he' hf1 hf'

end Go.Proofs.Ytbkmbdbjeiffpaa
