/- The contract of the document's MulDigits. The contract of the document's Times. The document's Of at any number's bits, and what its answers are worth. The contract of the document's Mul at any bits. The contract of the document's Add at any bits. What floats tell fits 64 bits; the contracts of tenorlaw1.Bits, tenorlaw1.Are and of the document's Horner. The contracts of the document's Flip, Sub, Int, Lt and Floor. -/
import Derived.Test.YteglnchcnacjlaaGreatHaq
import Derived.Deep.LoopGhost
import Derived.Test.YteglnchcnacjlaaGreatHap
import Derived.Test.YteglnchcnacjlaaGreatHal
import Derived.Test.YteglnchcnacjlaaGreatHam
namespace Go.Proofs.YteglnchcnacjlaaGreat
open Go.RowKit

def setD (R j d : Nat) : Nat := R / 2 ^ (32 * (j + 1)) * 2 ^ (32 * (j + 1)) + d * 2 ^ (32 * j) + R % 2 ^ (32 * j)
theorem setD_sum (R j d : Nat) : setD R j d + dgt R j * 2 ^ (32 * j) = R + d * 2 ^ (32 * j) := by
  unfold setD
  have h1 := Nat.div_add_mod R (2 ^ (32 * (j + 1)))
  have h2 := mod_succ R j
  rw [Nat.mul_comm] at h1
  omega
theorem low_lt (R j d : Nat) (hd : d < 4294967296) : d * 2 ^ (32 * j) + R % 2 ^ (32 * j) < 2 ^ (32 * (j + 1)) := by
  have h1 : R % 2 ^ (32 * j) < 2 ^ (32 * j) := Nat.mod_lt _ (Nat.two_pow_pos _)
  have h2 : (d + 1) * 2 ^ (32 * j) ≤ 4294967296 * 2 ^ (32 * j) := Nat.mul_le_mul_right _ hd
  rw [Nat.add_mul, Nat.one_mul] at h2
  rw [pow32, Nat.mul_comm (2 ^ (32 * j))]
  omega
theorem setD_div (R j d : Nat) (hd : d < 4294967296) : setD R j d / 2 ^ (32 * (j + 1)) = R / 2 ^ (32 * (j + 1)) := by
  unfold setD
  rw [Nat.add_assoc, Nat.add_comm, Nat.add_mul_div_right _ _ (Nat.two_pow_pos _), Nat.div_eq_of_lt (low_lt R j d hd), Nat.zero_add]
theorem setD_lt {R j d T : Nat} (hR : R < 2 ^ (32 * T)) (hj : j < T) (hd : d < 4294967296) : setD R j d < 2 ^ (32 * T) := by
  have e : (2 : Nat) ^ (32 * T) = 2 ^ (32 * (T - (j + 1))) * 2 ^ (32 * (j + 1)) := by rw [← Nat.pow_add]; congr 1; omega
  rw [e] at hR ⊢
  rw [← Nat.div_lt_iff_lt_mul (Nat.two_pow_pos _)] at hR ⊢
  rw [setD_div R j d hd]; exact hR
theorem dgt_far {R S j i : Nat} (h : R / 2 ^ (32 * (j + 1)) = S / 2 ^ (32 * (j + 1))) (hi : j < i) : dgt R i = dgt S i := by
  unfold dgt
  have e : (2 : Nat) ^ (32 * i) = 2 ^ (32 * (j + 1)) * 2 ^ (32 * (i - (j + 1))) := by rw [← Nat.pow_add]; congr 1; omega
  rw [e, ← Nat.div_div_eq_div_mul, ← Nat.div_div_eq_div_mul, h]
theorem dgt_setD (R j d i : Nat) (hd : d < 4294967296) : dgt (setD R j d) i = if i = j then d else dgt R i := by
  have hp := Nat.two_pow_pos (32 * j)
  by_cases h : i = j
  · subst h
    rw [if_pos rfl]
    have h1 := div_step (setD R i d) i
    rw [setD_div R i d hd] at h1
    have h2 : setD R i d / 2 ^ (32 * i) = R / 2 ^ (32 * (i + 1)) * 4294967296 + d := by
      unfold setD
      generalize R / 2 ^ (32 * (i + 1)) = q
      have e : q * 2 ^ (32 * (i + 1)) + d * 2 ^ (32 * i) = (q * 4294967296 + d) * 2 ^ (32 * i) := by rw [pow32, Nat.add_mul, Nat.mul_assoc, Nat.mul_comm 4294967296]
      rw [e, Nat.add_comm, Nat.add_mul_div_right _ _ hp, Nat.div_eq_of_lt (Nat.mod_lt _ hp), Nat.zero_add]
    omega
  · rw [if_neg h]
    rcases Nat.lt_or_gt_of_ne h with h1 | h1
    · have e1 := dgt_mod (setD R j d) j i
      have e2 := dgt_mod R j i
      rw [if_pos h1] at e1 e2
      rw [← e1, ← e2]
      congr 1
      unfold setD
      rw [pow32, Nat.mul_comm (2 ^ (32 * j)) 4294967296, ← Nat.mul_assoc, ← Nat.add_mul, Nat.mul_add_mod', Nat.mod_mod]
    · exact dgt_far (setD_div R j d hd) h1
theorem Own.put {w : World} {b n R j d : Nat} {x : Int} (h : Own w b n R) (hx : x = (d : Int)) (hd : d < 4294967296) : Own (w.setCell ⟨b, j, none⟩ (.int .u64 x)) b n (setD R j d) := by
  refine (h.set j (.int .u64 x)).congr fun i _ => ?_
  rw [dgt_setD R j d i hd]
  by_cases c : i = j
  · rw [if_pos c, if_pos c, hx]
  · rw [if_neg c, if_neg c]

theorem mul_round {M B R i k a b c o s : Nat} (hR : R + c * 2 ^ (32 * (i + k)) = M + a * (B % 2 ^ (32 * k)) * 2 ^ (32 * i)) (hb : b = dgt B k) (ho : o = dgt R (i + k)) (hs : s = o + a * b + c) :
    setD R (i + k) (s % 4294967296) + s / 4294967296 * 2 ^ (32 * (i + (k + 1))) = M + a * (B % 2 ^ (32 * (k + 1))) * 2 ^ (32 * i) := by
  have h1 := setD_sum R (i + k) (s % 4294967296)
  rw [← ho] at h1
  rw [show i + (k + 1) = i + k + 1 by omega, pow32, mod_succ, ← hb, Nat.mul_add a, Nat.add_mul (a * _)]
  have e1 : a * (b * 2 ^ (32 * k)) * 2 ^ (32 * i) = a * b * 2 ^ (32 * (i + k)) := by
    rw [← Nat.mul_assoc, Nat.mul_assoc, ← Nat.pow_add]; congr 2; omega
  rw [e1]
  generalize 2 ^ (32 * (i + k)) = W at *
  have e2 : s / 4294967296 * (W * 4294967296) + s % 4294967296 * W = s * W := by
    rw [Nat.mul_comm W, ← Nat.mul_assoc, ← Nat.add_mul, Nat.div_add_mod']
  have e3 : s * W = o * W + a * b * W + c * W := by rw [hs, Nat.add_mul, Nat.add_mul]
  generalize s / 4294967296 * (W * 4294967296) = t1 at *
  generalize s % 4294967296 * W = t2 at *
  generalize s * W = t3 at *
  generalize o * W = t4 at *
  generalize a * b * W = t5 at *
  generalize c * W = t6 at *
  generalize a * (B % 2 ^ (32 * k)) * 2 ^ (32 * i) = t7 at *
  omega
theorem mul_small {o a b c : Nat} (ho : o < 4294967296) (ha : a < 4294967296) (hb : b < 4294967296) (hc : c < 4294967296) : a * b ≤ 18446744065119617025 ∧ o + a * b + c < 18446744073709551616 := by
  have : a * b ≤ 4294967295 * 4294967295 := Nat.mul_le_mul (by omega) (by omega)
  omega
theorem mul_end {A B R i n a c : Nat} (hR : R + c * 2 ^ (32 * (i + n)) = (A % 2 ^ (32 * i)) * B + a * (B % 2 ^ (32 * n)) * 2 ^ (32 * i)) (hB : B < 2 ^ (32 * n)) (ha : a = dgt A i) (hlt : R < 2 ^ (32 * (i + n))) :
    setD R (i + n) c = (A % 2 ^ (32 * (i + 1))) * B := by
  have h1 := setD_sum R (i + n) c
  rw [dgt_ge hlt, Nat.zero_mul] at h1
  rw [Nat.mod_eq_of_lt hB] at hR
  rw [mod_succ, Nat.add_mul, ← ha]
  have : a * B * 2 ^ (32 * i) = a * 2 ^ (32 * i) * B := by rw [Nat.mul_assoc, Nat.mul_comm B, Nat.mul_assoc]
  omega
theorem prod_lt {A B m n : Nat} (hA : A < 2 ^ (32 * m)) (hB : B < 2 ^ (32 * n)) : A * B < 2 ^ (32 * (m + n)) := by
  rw [Nat.mul_add, Nat.pow_add]
  exact Nat.mul_lt_mul'' hA hB

set_option maxRecDepth 10000 in
set_option maxHeartbeats 1600000 in
theorem mulDigits_row (g f c d m n A B : Nat) (w : World) (hrA : Hid (RowIs w g m A)) (hrB : Hid (RowIs w f n B)) (hg : g < w.heap.size) (hf : f < w.heap.size) (hm : m ≤ 1000000) (hn : n ≤ 1000000) (hA : Hid (A < 2 ^ (32 * m))) (hB : Hid (B < 2 ^ (32 * n))) :
    Calls Tryz.prog 99 #[.slice (some ⟨g, 0, none⟩) m c, .slice (some ⟨f, 0, none⟩) n d] w fun e w' => ∃ v, e = .returned v ∧ DN w' v (A * B) ∧ From w.heap.size v ∧ Below w.heap.size w w' := by
  have hmk := fun w => run_make_row' (P := Tryz.prog) 71 40 (.int .u64 0) 8 Tryz.underlying71 info_u64 rfl .i64 .i64 (m + n + 1) (by omega) (by omega) w
  have ec : ((m + n + 1 : Nat) : Int) = (m : Int) + (n : Int) + 1 := by omega
  rw [ec] at hmk
  clear ec
  have HO := hide (own_made w (m + n + 1))
  go_enter Tryz.func99, Tryz.ntmps99
  go_wp2_with fail
  go_loopg [6] m (fun gm i wr => ∃ k : Nat, k ≤ m ∧ gm = m - k ∧ i = .int .i64 k ∧ Hid (Own wr w.heap.size (m + n + 1) ((A % 2 ^ (32 * k)) * B)) ∧ Hid (Below w.heap.size w wr))
  case atStart => exact ⟨0, Nat.zero_le _, by omega, rfl, by rw [Nat.mul_zero, Nat.pow_zero, Nat.mod_one, Nat.zero_mul]; exact HO, (Below.refl _ _).alloc (Nat.le_refl _) _⟩
  case round =>
    clear HO hmk
    obtain ⟨i, hi, rfl, rfl, HOwn, HBl⟩ := hrel
    by_cases hlt : i < m
    · have hca := (HBl.out.cell (p := ⟨g, i, none⟩) hg).trans (hrA.out i hlt)
      have HCA := hide (hrA.out i hlt)
      have ba := dgt_lt A i
      have HM : Hid ((A % 2 ^ (32 * i)) * B < 2 ^ (32 * (i + n))) := prod_lt (Nat.mod_lt _ (Nat.two_pow_pos _)) hB.out
      have HE := hide fun R a c (ha : a = dgt A i) => mul_end (A := A) (B := B) (R := R) (i := i) (n := n) (a := a) (c := c)
      generalize ha : dgt A i = a at hca HCA ba
      have HAI := hide ha.symm
      clear ha
      go_wp2_with fail
      go_loopg [7, 8] n (fun gm s kk wr2 => ∃ k x R : Nat, k ≤ n ∧ gm = n - k ∧ kk = .int .i64 k ∧ s = .int .u64 x ∧ x < 4294967296 ∧ Hid (R + x * 2 ^ (32 * (i + k)) = (A % 2 ^ (32 * i)) * B + a * (B % 2 ^ (32 * k)) * 2 ^ (32 * i)) ∧ Hid (R < 2 ^ (32 * (i + n))) ∧ Hid (Own wr2 w.heap.size (m + n + 1) R) ∧ Hid (Below w.heap.size w wr2))
      case atStart => exact ⟨0, 0, _, Nat.zero_le _, by omega, rfl, rfl, by omega, by show _ = _; rw [Nat.mul_zero 32, Nat.pow_zero, Nat.mod_one, Nat.zero_mul, Nat.mul_zero, Nat.zero_mul], HM, HOwn, HBl⟩
      case round =>
        clear HOwn HBl HM hca
        obtain ⟨k, x, R, hk, rfl, rfl, rfl, hx, HS, HR, HOwn, HBl⟩ := hrel
        have hca := (HBl.out.cell (p := ⟨g, i, none⟩) hg).trans HCA.out
        by_cases hlt2 : k < n
        · have hcb := (HBl.out.cell (p := ⟨f, k, none⟩) hf).trans (hrB.out k hlt2)
          have bb := dgt_lt B k
          have ho := HOwn.out.cell (i := i + k) (by omega)
          have bo := dgt_lt R (i + k)
          have fo := HOwn.out.frozen (i + k)
          have HRd := hide fun b o s (hb : b = dgt B k) (hq : o = dgt R (i + k)) (hs : s = o + a * b + x) => mul_round HS.out hb hq hs
          generalize hb : dgt B k = b at hcb bb
          generalize hq : dgt R (i + k) = o at ho bo
          have HRd := hide (HRd.out b o _ hb.symm hq.symm rfl)
          clear hb hq
          obtain ⟨s1, s2⟩ := mul_small bo ba bb hx
          have w1 : IntKind.u64.wrap ((a : Int) * (b : Int)) = ((a * b : Nat) : Int) := by rw [← Int.natCast_mul, IntKind.wrap_u64]; omega
          generalize a * b = ab at w1 s1 s2 HRd
          have w2 : IntKind.u64.wrap ((o : Int) + (ab : Int)) = (o : Int) + (ab : Int) := by rw [IntKind.wrap_u64]; omega
          have w3 : IntKind.u64.wrap ((o : Int) + (ab : Int) + (x : Int)) = ((o + ab + x : Nat) : Int) := by rw [IntKind.wrap_u64]; omega
          generalize o + ab + x = s at w3 s2 HRd
          have w4 : IntKind.i64.wrap ((i : Int) + (k : Int)) = (i : Int) + (k : Int) := by rw [IntKind.wrap_i64]; omega
          have tn : ((i : Int) + (k : Int)).toNat = i + k := by omega
          have nn : (0 : Int) ≤ (i : Int) + (k : Int) := by omega
          have nm : (i : Int) + (k : Int) < ((m + n + 1 : Nat) : Int) := by omega
          go_wp2_with fail
          go_quiet (fail)
          go_wp2_with fail
          go_roundg (n - (k + 1))
          case measure => omega
          case rel =>
            exact ⟨k + 1, s / 4294967296, setD R (i + k) (s % 4294967296), by omega, rfl, by go_num, by go_num, by omega, HRd.out, setD_lt HR.out (by omega) (by omega), Own.put (w := wr.drewN nq) HOwn.out (by omega) (by omega), (below_drewN HBl.out _).setCell (Nat.le_refl _) _⟩
        · obtain rfl : k = n := by omega
          have ho := HOwn.out.cell (i := i + k) (by omega)
          have fo := HOwn.out.frozen (i + k)
          have hz : dgt R (i + k) = 0 := dgt_ge HR.out
          rw [hz] at ho
          have HEnd := hide (mul_end HS.out hB.out HAI.out HR.out)
          clear hz
          go_wp2_with fail
          go_roundg (m - (i + 1))
          case measure => omega
          case rel =>
            refine ⟨i + 1, by omega, rfl, by go_num, ?_, HBl.out.setCell (Nat.le_refl _) _⟩
            rw [← HEnd.out]
            exact Own.put HOwn.out (by omega) hx
    · obtain rfl : i = m := by omega
      have e : A % 2 ^ (32 * i) = A := Nat.mod_eq_of_lt hA.out
      rw [e] at HOwn
      clear e
      have hM : Hid (A * B < 2 ^ (32 * (i + n + 1))) := Nat.lt_of_lt_of_le (prod_lt hA.out hB.out) (Nat.pow_le_pow_right (by decide) (by omega))
      have hlt2 := HOwn.out.lt
      have HD := hide (dn_mk HOwn.out.row hM.out (Nat.le_refl _) hlt2)
      go_wp2_with fail
      refine (trim_row _ _ _ _ _ HOwn.out.row hM.out (Nat.le_refl _) (by omega)).mono ?_
      rintro e w' ⟨rfl, rfl⟩
      go_wp2_with fail
      go_ret
      exact ⟨_, rfl, HD.out, from_at _ _ _ _ (Nat.le_refl _), HBl.out⟩

end Go.Proofs.YteglnchcnacjlaaGreat
namespace Go.Proofs.YteglnchcnacjlaaGreat
open Go.RowKit

theorem sg_mul (nx ny : Bool) (X Y : Nat) : sg (nx != ny) (X * Y) = sg nx X * sg ny Y := by
  cases nx <;> cases ny <;> simp [sg, Int.natCast_mul, Int.neg_mul, Int.mul_neg]
theorem six_set {w : World} {B : Nat} {nx ny : Bool} {vx vy : Value} {ex ey : Int} (h : Six w B nx vx ex ny vy ey) (i : Nat) (x : Value) : Six (w.setCell ⟨B + 1 + 1, i, none⟩ x) B nx vx ex ny vy ey := by
  obtain ⟨a, b, c, d, e, f⟩ := h
  have n0 : B + 1 + 1 ≠ B := by omega
  have n1 : B + 1 + 1 ≠ B + 1 := by omega
  exact ⟨(World.cell?_setCell_far w ⟨B + 1 + 1, i, none⟩ ⟨B, 0, none⟩ x n0).trans a, (World.cell?_setCell_far w ⟨B + 1 + 1, i, none⟩ ⟨B, 1, none⟩ x n0).trans b, (World.cell?_setCell_far w ⟨B + 1 + 1, i, none⟩ ⟨B, 2, none⟩ x n0).trans c, (World.cell?_setCell_far w ⟨B + 1 + 1, i, none⟩ ⟨B + 1, 0, none⟩ x n1).trans d, (World.cell?_setCell_far w ⟨B + 1 + 1, i, none⟩ ⟨B + 1, 1, none⟩ x n1).trans e, (World.cell?_setCell_far w ⟨B + 1 + 1, i, none⟩ ⟨B + 1, 2, none⟩ x n1).trans f⟩

set_option maxHeartbeats 1600000 in
theorem times_none (nx ny : Bool) (vx vy : Value) (ex ey : Int) (X Y : Nat) (w : World) (hX : DN w vx X) (hY : DN w vy Y) (h0 : X = 0 ∨ Y = 0) :
    Calls Tryz.prog 54 #[.agg #[.bool nx, vx, .int .i64 ex], .agg #[.bool ny, vy, .int .i64 ey]] w (PlusEnd w (ex + ey) 0) := by
  have HB0 := hide (pbox_below w nx vx ex ny vy ey)
  have HZ := hide (pbox_size w nx vx ex ny vy ey)
  have H60 := hide (pbox_six w nx vx ex ny vy ey)
  have HX0 := hide (hX.below HB0.out)
  have HY0 := hide (hY.below HB0.out)
  have HC := hide h0
  clear hX hY h0
  by_cases h0 : X = 0
  · subst h0
    clear HC
    go_enter Tryz.func54, Tryz.ntmps54
    go_wp2_with fail
    refine (zero_at _ _ _ 0 true _ HX0.out rfl).mono ?_
    rintro x w1 ⟨rfl, hb1⟩
    have HB1 : Hid (Below (w.heap.size + 3) (pbox w nx vx ex ny vy ey) w1) := hb1.mono (by rw [HZ.out]; omega)
    obtain ⟨⟨r0, r1, r2⟩, f0, f1, f2⟩ := pbox_res HB1.out
    clear hb1
    go_wp2_with fail
    exact bodyPost_ret (v := .agg #[.bool false, .slice none 0 0, .int .i64 0]) (by simp [results, Tryz.results54, go_sem, r0, r1, r2]) rfl (plus_none HB1.out rfl)
  · have hy : Y = 0 := by
      rcases HC.out with h | h
      · exact absurd h h0
      · exact h
    subst hy
    have HX := hide h0
    clear HC h0
    go_enter Tryz.func54, Tryz.ntmps54
    go_wp2_with fail
    refine (zero_at _ _ _ X false _ HX0.out (decide_eq_false HX.out)).mono ?_
    rintro x w1 ⟨rfl, hb1⟩
    have HB1 : Hid (Below (w.heap.size + 3) (pbox w nx vx ex ny vy ey) w1) := hb1.mono (by rw [HZ.out]; omega)
    have hz1 : w.heap.size + 3 ≤ w1.heap.size := by have h9 := hb1.size; rw [HZ.out] at h9; exact h9
    have HY1 := hide (HY0.out.below hb1)
    obtain ⟨c0, c1, c2, c3, c4, c5⟩ := H60.out.below hb1 (by rw [HZ.out]; omega)
    clear hb1
    go_wp2_with fail
    refine (zero_at _ _ _ 0 true _ HY1.out rfl).mono ?_
    rintro x w2 ⟨rfl, hb2⟩
    have HB2 := hide (HB1.out.trans (hb2.mono hz1))
    obtain ⟨⟨r0, r1, r2⟩, f0, f1, f2⟩ := pbox_res HB2.out
    clear hb2 c0 c1 c2 c3 c4 c5
    go_wp2_with fail
    exact bodyPost_ret (v := .agg #[.bool false, .slice none 0 0, .int .i64 0]) (by simp [results, Tryz.results54, go_sem, r0, r1, r2]) rfl (plus_none HB2.out rfl)

set_option maxHeartbeats 1600000 in
theorem times_some (nx ny : Bool) (g f c d : Nat) (ex ey : Int) (m n X Y : Nat) (w : World) (hX0 : X ≠ 0) (hY0 : Y ≠ 0)
    (hX : DN w (.slice (some ⟨g, 0, none⟩) m c) X) (hY : DN w (.slice (some ⟨f, 0, none⟩) n d) Y) (hrX : Hid (RowIs w g m X)) (hrY : Hid (RowIs w f n Y)) (hg : g < w.heap.size) (hf : f < w.heap.size) (hm : m ≤ 1000000) (hn : n ≤ 1000000) (hX1 : Hid (X < 2 ^ (32 * m))) (hY1 : Hid (Y < 2 ^ (32 * n)))
    (he : -10000000 ≤ ex) (he' : ex ≤ 10000000) (hf1 : -10000000 ≤ ey) (hf' : ey ≤ 10000000) :
    Calls Tryz.prog 54 #[.agg #[.bool nx, .slice (some ⟨g, 0, none⟩) m c, .int .i64 ex], .agg #[.bool ny, .slice (some ⟨f, 0, none⟩) n d, .int .i64 ey]] w (PlusEnd w (ex + ey) (sg nx X * sg ny Y)) := by
  have HMul := hide fun w' (hb' : Below w.heap.size w w') => mulDigits_row g f c d m n X Y w' (hrX.out.below hg hb') (hrY.out.below hf hb') (Nat.lt_of_lt_of_le hg hb'.size) (Nat.lt_of_lt_of_le hf hb'.size) hm hn hX1 hY1
  clear hrX hrY hX1 hY1 hg hf
  generalize hvx : Value.slice (some ⟨g, 0, none⟩) m c = vx at *
  generalize hvy : Value.slice (some ⟨f, 0, none⟩) n d = vy at *
  clear hvx hvy
  have HB0 := hide (pbox_below w nx vx ex ny vy ey)
  have HZ := hide (pbox_size w nx vx ex ny vy ey)
  have H60 := hide (pbox_six w nx vx ex ny vy ey)
  have HX0 := hide (hX.below HB0.out)
  have HY0 := hide (hY.below HB0.out)
  have HXn := hide hX0
  have HYn := hide hY0
  have w1 : IntKind.i64.wrap (ex + ey) = ex + ey := by rw [IntKind.wrap_i64]; omega
  clear hX hY hX0 hY0
  go_enter Tryz.func54, Tryz.ntmps54
  go_wp2_with fail
  refine (zero_at _ _ _ X false _ HX0.out (decide_eq_false HXn.out)).mono ?_
  rintro x w1 ⟨rfl, hb1⟩
  have HB1 : Hid (Below (w.heap.size + 3) (pbox w nx vx ex ny vy ey) w1) := hb1.mono (by rw [HZ.out]; omega)
  have hz1 : w.heap.size + 3 ≤ w1.heap.size := by have h9 := hb1.size; rw [HZ.out] at h9; exact h9
  have HY1 := hide (HY0.out.below hb1)
  have H61 := hide (H60.out.below hb1 (by rw [HZ.out]; omega))
  obtain ⟨c0, c1, c2, c3, c4, c5⟩ := H61.out
  clear hb1
  go_wp2_with fail
  refine (zero_at _ _ _ Y false _ HY1.out (decide_eq_false HYn.out)).mono ?_
  rintro x w2 ⟨rfl, hb2⟩
  have HB2 := hide (HB1.out.trans (hb2.mono hz1))
  have hz2 : w.heap.size + 3 ≤ w2.heap.size := by have h9 := hb2.size; omega
  have H62 := hide (H61.out.below hb2 (by omega))
  have HW2 := hide (HB0.out.trans (HB2.out.mono (by omega)))
  clear hb2 c0 c1 c2 c3 c4 c5
  obtain ⟨c0, c1, c2, c3, c4, c5⟩ := H62.out
  go_wp2_with fail
  go_region_held3 (fun w' => w'.cell? ⟨w.heap.size, 0, none⟩ = some (.bool nx) ∧ w'.cell? ⟨w.heap.size, 1, none⟩ = some vx ∧ w'.cell? ⟨w.heap.size, 2, none⟩ = some (.int .i64 ex) ∧ w'.cell? ⟨w.heap.size + 1, 0, none⟩ = some (.bool ny) ∧ w'.cell? ⟨w.heap.size + 1, 1, none⟩ = some vy ∧ w'.cell? ⟨w.heap.size + 1, 2, none⟩ = some (.int .i64 ey)) (first | exact H62.out | exact H64.out | exact six_set (six_set (six_set H64.out 0 _) 1 _) 2 _ | go_keep) ((go_at_call 99; refine (HMul.out _ (HW2.out.drew)).mono ?_; rintro x w4 ⟨v4, rfl, hd4, hf4, hb4⟩; obtain ⟨p4, q4, rfl⟩ := hd4.form; have HB4 := hide (HB2.out.drew.trans (hb4.mono hz2)); have H64 := hide (Six.below (w := w2.drew) H62.out hb4 (show w.heap.size + 1 < w2.heap.size by omega)); obtain ⟨⟨r0, r1, r2⟩, f0, f1, f2⟩ := pbox_res HB4.out; have HD4 := hide hd4; have HF4 := hide (hf4.mono (show w.heap.size + 3 ≤ _ from hz2)); clear hd4 hf4 hb4))
  all_goals
    go_wp2_with fail
    exact bodyPost_ret (v := .agg #[.bool _, .slice p4 _ q4, .int .i64 (ex + ey)]) (by simp [results, Tryz.results54, go_sem, r0, r1, r2]) rfl (plus_tail HB4.out HD4.out HF4.out (sg_mul nx ny X Y))

theorem times_any (nx ny : Bool) (vx vy : Value) (ex ey : Int) (X Y : Nat) (w : World) (hX : DN w vx X) (hY : DN w vy Y) (hm : nd X ≤ 1000000) (hn : nd Y ≤ 1000000)
    (he : -10000000 ≤ ex) (he' : ex ≤ 10000000) (hf1 : -10000000 ≤ ey) (hf' : ey ≤ 10000000) :
    Calls Tryz.prog 54 #[.agg #[.bool nx, vx, .int .i64 ex], .agg #[.bool ny, vy, .int .i64 ey]] w (PlusEnd w (ex + ey) (sg nx X * sg ny Y)) := by
  by_cases h0 : X = 0 ∨ Y = 0
  · have e : sg nx X * sg ny Y = 0 := by
      rw [← sg_mul]
      rcases h0 with h | h
      · rw [h, Nat.zero_mul]; cases (nx != ny) <;> rfl
      · rw [h, Nat.mul_zero]; cases (nx != ny) <;> rfl
    rw [e]
    exact times_none nx ny vx vy ex ey X Y w hX hY h0
  · have hX' := hX
    have hY' := hY
    rcases hX with ⟨h1, _⟩ | ⟨h1, g, c, rfl, _, hg, hrX⟩
    · exact absurd (Or.inl h1) h0
    · rcases hY with ⟨h2, _⟩ | ⟨h2, f, d, rfl, _, hf, hrY⟩
      · exact absurd (Or.inr h2) h0
      · exact times_some nx ny g f c d ex ey (nd X) (nd Y) X Y w h1 h2 hX' hY' hrX hrY hg hf hm hn (nd_lt X) (nd_lt Y) he he' hf1 hf'

end Go.Proofs.YteglnchcnacjlaaGreat
namespace Go.Proofs.YteglnchcnacjlaaGreat
open Go.RowKit

def infB (u : Int) : Bool := szI u == 9218868437227405312

set_option maxHeartbeats 400000 in
theorem refInf_any (u : Int) (w : World) (h : U64 u) :
    Calls Tryz.prog 51 #[.int .u64 u] w fun e w' => e = .returned (.bool (infB u)) ∧ w' = w := by
  have hz := andNot_sz h
  go_enter Tryz.func51, Tryz.ntmps51
  go_wp2
  go_ret
  exact ⟨rfl, rfl⟩

set_option maxHeartbeats 400000 in
theorem of_zero (u : Int) (w : World) (h : U64 u) (h0 : szI u = 0) :
    Calls Tryz.prog 55 #[.int .u64 u] w fun x w' => ∃ v, x = .returned (NumV false v 0) ∧ DN w' v 0 ∧ Below w.heap.size w w' := by
  have hm : bits .and .u64 u 4503599627370495 = 0 := by rw [and_mant h, h0]; rfl
  have hE : bits .and .u64 (u / 4503599627370496) 2047 = 0 := by
    have := h.1; have := h.2
    rw [and_2047 (by omega) (by omega)]; unfold szI at h0; omega
  unfold NumV
  clear h h0
  go_enter Tryz.func55, Tryz.ntmps55
  go_wp2_with fail
  refine bodyPost_ret (v := .agg #[.bool false, .slice none 0 0, .int .i64 0]) (by simp [results, Tryz.results55, go_sem]) rfl ⟨_, rfl, Or.inl ⟨rfl, _, _, rfl⟩, ?_⟩
  exact (Below.refl w.heap.size w).alloc (Nat.le_refl _) _

structure OfR (x : Nat) (neg : Bool) (N : Nat) (e : Int) : Prop where
  lt : N < 9007199254740992
  lo : -1074 ≤ e
  hi : e ≤ 971
  val : N * 2 ^ (e + 1074).toNat = aV x
  sgn : N ≠ 0 → neg = sB x
  mag : N ≠ 0 → N = mg (x % 9223372036854775808) ∧ e = -1074 + (pl (x % 9223372036854775808) : Int)
theorem sgB_nat {x : Nat} (h : x < 18446744073709551616) : sgB (x : Int) = sB x := by
  unfold sgB sB
  rcases (show x / 9223372036854775808 = 0 ∨ x / 9223372036854775808 = 1 by omega) with e | e
  · rw [e]; show _ = false; rw [decide_eq_false_iff_not]; omega
  · rw [e]; show _ = true; rw [decide_eq_true_eq]; omega
theorem szI_nat (x : Nat) : szI (x : Int) = ((x % 9223372036854775808 : Nat) : Int) := by unfold szI; omega

theorem of_num (x : Nat) (u : Int) (w : World) (hu : Hid (u = (x : Int))) (h : U64 u) (hx : NumB x) :
    Calls Tryz.prog 55 #[.int .u64 u] w fun r w' => ∃ neg v N e, r = .returned (.agg #[.bool neg, v, .int .i64 e]) ∧ DN w' v N ∧ OfR x neg N e ∧ Below w.heap.size w w' := by
  have hx64 : x < 18446744073709551616 := by have := h.2; rw [hu.out] at this; omega
  have hs : szI u = ((x % 9223372036854775808 : Nat) : Int) := by rw [hu.out]; exact szI_nat x
  unfold NumB at hx
  by_cases h0 : szI u = 0
  · refine (of_zero u w h h0).mono ?_
    rintro r w' ⟨v, rfl, hd, hb⟩
    refine ⟨false, v, 0, 0, rfl, hd, ⟨by decide, by decide, by decide, ?_, fun h => absurd rfl h, fun h => absurd rfl h⟩, hb⟩
    unfold aV
    rw [show x % 9223372036854775808 = 0 by omega, V_zero, Nat.zero_mul]
  · refine (of_any u w h (by omega) (by omega)).mono ?_
    rintro r w' ⟨v, rfl, hd, hb⟩
    have hn : (magI (szI u)).toNat = mg (x % 9223372036854775808) := by
      rw [hs]; generalize x % 9223372036854775808 = r at *
      unfold magI mg
      by_cases c : r < 4503599627370496
      · rw [if_pos c, if_pos (by omega)]; omega
      · rw [if_neg c, if_neg (by omega)]; omega
    have he : plcI (szI u) = -1074 + (pl (x % 9223372036854775808) : Int) := by
      rw [hs]; generalize x % 9223372036854775808 = r at *
      unfold plcI pl
      by_cases c : r < 4503599627370496
      · rw [if_pos (by omega)]; omega
      · rw [if_neg (by omega)]; omega
    have hp : pl (x % 9223372036854775808) ≤ 2045 := by unfold pl; omega
    rw [hn] at hd
    refine ⟨sgB u, v, _, plcI (szI u), rfl, hd, ⟨mg_lt _, by omega, by omega, ?_, fun _ => ?_, fun _ => ⟨rfl, he⟩⟩, hb⟩
    · rw [he]
      unfold aV V
      congr 2
      omega
    · rw [hu.out]; exact sgB_nat hx64
theorem nd_two {N : Nat} (h : N < 9007199254740992) : nd N ≤ 2 := nd_mono (k := 2) (by omega)
end Go.Proofs.YteglnchcnacjlaaGreat
namespace Go.Proofs.YteglnchcnacjlaaGreat
open Go.RowKit

def cn (o : Option Nat) : Nat := o.getD 9221120237041090561
theorem cn_some (r : Nat) : cn (some r) = r := rfl
def sbit (s : Bool) : Int := if s then 9223372036854775808 else 0
theorem tb63 {b : Nat} (h : b < 18446744073709551616) : b.testBit 63 = sgB (b : Int) := by
  rw [Nat.testBit_eq_decide_div_mod_eq]
  unfold sgB
  apply decide_eq_decide.2
  omega
theorem xor_sg {u v : Int} (h : U64 u) (h' : U64 v) : bits .and .u64 (bits .xor .u64 u v) 9223372036854775808 = sbit (sgB u ^^ sgB v) := by
  obtain ⟨a, rfl⟩ := Int.eq_ofNat_of_zero_le h.1
  obtain ⟨b, rfl⟩ := Int.eq_ofNat_of_zero_le h'.1
  have ha : a < 18446744073709551616 := by have := h.2; omega
  have hb : b < 18446744073709551616 := by have := h'.2; omega
  have hx : a ^^^ b < 18446744073709551616 := Nat.xor_lt_two_pow (n := 64) ha hb
  rw [bits_xor_u64_nat a b ha hb, and_sg (u64_of_nat hx), ← tb63 hx, Nat.testBit_xor, tb63 ha, tb63 hb]
  rfl
theorem sgn_abs (neg : Bool) (N : Nat) : (sg neg N).natAbs = N := by unfold sg; cases neg <;> simp
theorem near_sz (neg : Bool) (N : Nat) (E : Int) : U64 (nearM neg N E false) ∧ szI (nearM neg N E false) = (if N = 0 then 0 else (nearR N E : Int)) := by
  by_cases h0 : N = 0
  · have : nearM neg N E false = 0 := by unfold nearM; rw [if_pos h0]
    rw [this, if_pos h0]
    exact ⟨by unfold U64; omega, by decide⟩
  · rw [nearM_eq neg E h0, if_neg h0]
    have hle : nearR N E ≤ 9218868437227405312 := Nat.min_le_right _ _
    generalize nearR N E = r at *
    unfold U64 szI
    cases neg
    · rw [if_neg (by decide)]; omega
    · rw [if_pos rfl]; omega
def sizeM (T : Nat) : Int := if T = 0 then 0 else (nearR T (-2148) : Int)
theorem sizeM_le (T : Nat) : 0 ≤ sizeM T ∧ sizeM T ≤ 9218868437227405312 := by
  unfold sizeM
  have hle : nearR T (-2148) ≤ 9218868437227405312 := Nat.min_le_right _ _
  split <;> omega
theorem mulR_sz (s : Bool) (T : Nat) : (mulR s T : Int) = sbit s + sizeM T := by
  unfold mulR sizeM sbit wrd
  by_cases h0 : T = 0
  · rw [if_pos h0, if_pos h0]; cases s <;> simp
  · rw [if_neg h0, if_neg h0]
    generalize nearR T (-2148) = r
    cases s <;> simp
theorem mul_val {x y X Y N : Nat} {nx ny neg : Bool} {ex ey E : Int} (hX : OfR x nx X ex) (hY : OfR y ny Y ey) (hs : sg neg N = sg nx X * sg ny Y) (hE : E = ex + ey ∨ (E = 0 ∧ N = 0)) :
    U64 (nearM neg N E false) ∧ szI (nearM neg N E false) = sizeM (aV x * aV y) ∧ nd N ≤ 1000000 ∧ -10000000 ≤ E ∧ E ≤ 10000000 := by
  have hN : N = X * Y := by
    have := congrArg Int.natAbs hs
    rw [Int.natAbs_mul, sgn_abs, sgn_abs, sgn_abs] at this; exact this
  obtain ⟨a, b⟩ := near_sz neg N E
  have hnd : nd N ≤ 1000000 := by
    refine Nat.le_trans (nd_mono (k := 4) ?_) (by omega)
    rw [hN]
    have := Nat.mul_lt_mul'' hX.lt hY.lt
    omega
  have l1 := hX.lo
  have l2 := hX.hi
  have l3 := hY.lo
  have l4 := hY.hi
  refine ⟨a, ?_, hnd, by omega, by omega⟩
  rw [b]
  unfold sizeM
  have hT : aV x * aV y = N * 2 ^ ((ex + 1074).toNat + (ey + 1074).toNat) := by
    rw [← hX.val, ← hY.val, hN, Nat.pow_add, Nat.mul_mul_mul_comm]
  have hp := Nat.two_pow_pos ((ex + 1074).toNat + (ey + 1074).toNat)
  by_cases h0 : N = 0
  · rw [if_pos h0, if_pos (by rw [hT, h0, Nat.zero_mul])]
  · have h1 : aV x * aV y ≠ 0 := by rw [hT]; have := Nat.mul_pos (show 0 < N by omega) hp; omega
    rw [if_neg h0, if_neg h1, hT]
    have hEE : E = ex + ey := by
      rcases hE with h | ⟨_, h⟩
      · exact h
      · exact absurd h h0
    have := nearR_scale h0 ((ex + 1074).toNat + (ey + 1074).toNat) (ex + ey)
    rw [show ex + ey - (((ex + 1074).toNat + (ey + 1074).toNat : Nat) : Int) = -2148 by omega] at this
    rw [this, hEE]

theorem bits_class {x : Nat} {u : Int} (hu : u = (x : Int)) : szI u = ((x % 9223372036854775808 : Nat) : Int) := by rw [hu]; exact szI_nat x
theorem num_of {x : Nat} {u : Int} (hu : u = (x : Int)) (h1 : nanB u = false) (h2 : infB u = false) : NumB x := by
  have := bits_class hu
  unfold nanB at h1
  unfold infB at h2
  unfold NumB
  rw [decide_eq_false_iff_not] at h1
  have h3 : szI u ≠ 9218868437227405312 := by simpa using h2
  omega
theorem inf_of {x : Nat} {u : Int} (hu : u = (x : Int)) (h2 : infB u = true) : x % 9223372036854775808 = 9218868437227405312 := by
  have := bits_class hu
  unfold infB at h2
  have h3 : szI u = 9218868437227405312 := by simpa using h2
  omega
theorem mul_inf_zero {x y : Nat} (hx : x % 9223372036854775808 = 9218868437227405312) (hy : y % 9223372036854775808 = 0) : floatBits .mul .f64 x y = none ∧ floatBits .mul .f64 y x = none := by
  have e : Ieee.double.read y = .number (y / 9223372036854775808 % 2 == 1) 0 (-1074) := by rw [read_num (by omega), hy]; rfl
  constructor
  · show ((Ieee.double.read x).product (Ieee.double.read y)).map Ieee.double.write = _
    rw [read_inf hx, e]; rfl
  · show ((Ieee.double.read y).product (Ieee.double.read x)).map Ieee.double.write = _
    rw [read_inf hx, e]; rfl
theorem write_inf (s : Bool) : Ieee.double.write (.infinity s) = wrd s 9218868437227405312 := by cases s <;> decide +kernel
theorem mg_pos {r : Nat} (h : r ≠ 0) : mg r ≠ 0 := by unfold mg; split <;> omega
theorem mul_inf_num {x y : Nat} (hx : x % 9223372036854775808 = 9218868437227405312) (hy : NumB y) (h0 : y % 9223372036854775808 ≠ 0) : floatBits .mul .f64 x y = some (wrd (sB x ^^ sB y) 9218868437227405312) ∧ floatBits .mul .f64 y x = some (wrd (sB y ^^ sB x) 9218868437227405312) := by
  have hm := mg_pos h0
  constructor
  · show ((Ieee.double.read x).product (Ieee.double.read y)).map Ieee.double.write = _
    rw [read_inf hx, read_num hy]
    show (if mg (y % 9223372036854775808) = 0 then none else some (Ieee.Datum.infinity (_ ^^ _))).map Ieee.double.write = _
    rw [if_neg hm]
    show some (Ieee.double.write (.infinity _)) = _
    rw [write_inf]; rfl
  · show ((Ieee.double.read y).product (Ieee.double.read x)).map Ieee.double.write = _
    rw [read_inf hx, read_num hy]
    show (if mg (y % 9223372036854775808) = 0 then none else some (Ieee.Datum.infinity (_ ^^ _))).map Ieee.double.write = _
    rw [if_neg hm]
    show some (Ieee.double.write (.infinity _)) = _
    rw [write_inf, Bool.xor_comm]; rfl
theorem mul_inf_inf {x y : Nat} (hx : x % 9223372036854775808 = 9218868437227405312) (hy : y % 9223372036854775808 = 9218868437227405312) : floatBits .mul .f64 x y = some (wrd (sB x ^^ sB y) 9218868437227405312) := by
  show ((Ieee.double.read x).product (Ieee.double.read y)).map Ieee.double.write = _
  rw [read_inf hx, read_inf hy]
  show some (Ieee.double.write (.infinity _)) = _
  rw [write_inf]; rfl

set_option maxHeartbeats 1600000 in
theorem refMul_nan (u v : Int) (w : World) (h : U64 u) (h' : U64 v) (hc : nanB u = true ∨ (nanB u = false ∧ nanB v = true) ∨ (nanB u = false ∧ nanB v = false ∧ infB u = true ∧ (szI v == 0) = true) ∨ (nanB u = false ∧ nanB v = false ∧ infB u = false ∧ infB v = true ∧ (szI u == 0) = true)) :
    Calls Tryz.prog 27 #[.int .u64 u, .int .u64 v] w fun e w' => e = .returned (.int .u64 9221120237041090561) ∧ w' = w := by
  have hS := xor_sg h h'
  rcases hc with h1 | ⟨h1, h2⟩ | ⟨h1, h2, h3, h4⟩ | ⟨h1, h2, h3, h4, h5⟩
  all_goals
    go_enter Tryz.func27, Tryz.ntmps27
    go_wp2_with (first | (go_at_call_of 50 (Value.int IntKind.u64 u); refine (refNaN_any u _ h).mono ?_; rintro e w' ⟨rfl, rfl⟩) | (go_at_call_of 50 (Value.int IntKind.u64 v); refine (refNaN_any v _ h').mono ?_; rintro e w' ⟨rfl, rfl⟩) | (go_at_call_of 51 (Value.int IntKind.u64 u); refine (refInf_any u _ h).mono ?_; rintro e w' ⟨rfl, rfl⟩) | (go_at_call_of 51 (Value.int IntKind.u64 v); refine (refInf_any v _ h').mono ?_; rintro e w' ⟨rfl, rfl⟩) | (go_at_call_of 52 (Value.int IntKind.u64 u); refine (refSize_any u _ h).mono ?_; rintro e w' ⟨rfl, rfl⟩) | (go_at_call_of 52 (Value.int IntKind.u64 v); refine (refSize_any v _ h').mono ?_; rintro e w' ⟨rfl, rfl⟩))
    go_ret
    exact ⟨rfl, rfl⟩

set_option maxHeartbeats 1600000 in
theorem refMul_inf (u v S : Int) (w : World) (h : U64 u) (h' : U64 v) (hS : bits .and .u64 (bits .xor .u64 u v) 9223372036854775808 = S) (hS0 : 0 ≤ S) (hS1 : S ≤ 9223372036854775808) (hn : nanB u = false) (hn' : nanB v = false) (hc : (infB u = true ∧ infB v = true ∧ (szI v == 0) = false ∧ (szI u == 0) = false) ∨ (infB u = true ∧ infB v = false ∧ (szI v == 0) = false) ∨ (infB u = false ∧ infB v = true ∧ (szI u == 0) = false)) :
    Calls Tryz.prog 27 #[.int .u64 u, .int .u64 v] w fun e w' => e = .returned (.int .u64 (S + 9218868437227405312)) ∧ w' = w := by
  rcases hc with ⟨h1, h2, h3, h4⟩ | ⟨h1, h2, h3⟩ | ⟨h1, h2, h3⟩
  all_goals
    go_enter Tryz.func27, Tryz.ntmps27
    go_wp2_with (first | (go_at_call_of 50 (Value.int IntKind.u64 u); refine (refNaN_any u _ h).mono ?_; rintro e w' ⟨rfl, rfl⟩) | (go_at_call_of 50 (Value.int IntKind.u64 v); refine (refNaN_any v _ h').mono ?_; rintro e w' ⟨rfl, rfl⟩) | (go_at_call_of 51 (Value.int IntKind.u64 u); refine (refInf_any u _ h).mono ?_; rintro e w' ⟨rfl, rfl⟩) | (go_at_call_of 51 (Value.int IntKind.u64 v); refine (refInf_any v _ h').mono ?_; rintro e w' ⟨rfl, rfl⟩) | (go_at_call_of 52 (Value.int IntKind.u64 u); refine (refSize_any u _ h).mono ?_; rintro e w' ⟨rfl, rfl⟩) | (go_at_call_of 52 (Value.int IntKind.u64 v); refine (refSize_any v _ h').mono ?_; rintro e w' ⟨rfl, rfl⟩))
    go_ret
    exact ⟨rfl, rfl⟩

theorem turnedR {P : Program} {f : Nat} {args : Array Value} {w : World} {Q : Ending → Prop} (h : Calls P f args w fun e w' => Q e ∧ w' = w) : Calls P f args w fun e w' => Q e ∧ w = w' :=
  h.mono fun _ _ ⟨a, b⟩ => ⟨a, b.symm⟩
theorem refSize_at (u r : Int) (w : World) (h : U64 u) (hr : szI u = r) :
    Calls Tryz.prog 52 #[.int .u64 u] w fun e w' => e = .returned (.int .u64 r) ∧ w = w' := by
  rw [← hr]; exact (refSize_any u w h).mono fun _ _ ⟨a, b⟩ => ⟨a, b.symm⟩

set_option maxHeartbeats 1600000 in
theorem refMul_num (x y : Nat) (u v S R : Int) (w : World) (hu : Hid (u = (x : Int))) (hv : Hid (v = (y : Int))) (h : U64 u) (h' : U64 v) (hx : NumB x) (hy : NumB y) (hS : bits .and .u64 (bits .xor .u64 u v) 9223372036854775808 = S) (hS0 : 0 ≤ S) (hS1 : S ≤ 9223372036854775808) (hR : Hid (sizeM (aV x * aV y) = R)) (hn : nanB u = false) (hn' : nanB v = false) (hi : infB u = false) (hi' : infB v = false) :
    Calls Tryz.prog 27 #[.int .u64 u, .int .u64 v] w fun e w' => e = .returned (.int .u64 (S + R)) ∧ Below w.heap.size w w' := by
  have HX := hide hx
  have HY := hide hy
  obtain ⟨hR0, hR1⟩ := sizeM_le (aV x * aV y)
  rw [hR.out] at hR0 hR1
  have HN1 := hide (refNaN_any u · h)
  have HN2 := hide (refNaN_any v · h')
  have HI1 := hide (refInf_any u · h)
  have HI2 := hide (refInf_any v · h')
  rw [hn] at HN1
  rw [hn'] at HN2
  rw [hi] at HI1
  rw [hi'] at HI2
  have HO1 := hide fun w => of_num x u w hu h hx
  have HO2 := hide fun w => of_num y v w hv h' hy
  clear hx hy hn hn' hi hi' h h'
  go_enter Tryz.func27, Tryz.ntmps27
  go_wp2_with fail
  refine (turnedR (HN1.out _)).mono ?_
  rintro e w' ⟨rfl, rfl⟩
  go_wp2_with fail
  refine (turnedR (HN2.out _)).mono ?_
  rintro e w' ⟨rfl, rfl⟩
  go_wp2_with fail
  refine (turnedR (HI1.out _)).mono ?_
  rintro e w' ⟨rfl, rfl⟩
  go_wp2_with fail
  refine (turnedR (HI2.out _)).mono ?_
  rintro e w' ⟨rfl, rfl⟩
  go_wp2_with fail
  refine (turnedR (HI1.out _)).mono ?_
  rintro e w' ⟨rfl, rfl⟩
  go_wp2_with fail
  refine (turnedR (HI2.out _)).mono ?_
  rintro e w' ⟨rfl, rfl⟩
  go_wp2_with fail
  refine (HO1.out _).mono ?_
  rintro r w1 ⟨nx, vx, X, ex, rfl, hdx, hX, hb1⟩
  have HB1 := hide hb1
  have HDx := hide hdx
  have HX := hide hX
  clear hb1 hdx hX
  go_wp2_with fail
  refine (HO2.out _).mono ?_
  rintro r w2 ⟨ny, vy, Y, ey, rfl, hdy, hY, hb2⟩
  have HB2 := hide (HB1.out.trans (hb2.mono HB1.out.size))
  have HDx2 := hide (HDx.out.below hb2)
  have HDy := hide hdy
  have HY := hide hY
  clear hb2 hdy hY HB1 HDx
  have HT := hide (times_any nx ny vx vy ex ey X Y w2 HDx2.out HDy.out (by have := nd_two HX.out.lt; omega) (by have := nd_two HY.out.lt; omega) (by have := HX.out.lo; omega) (by have := HX.out.hi; omega) (by have := HY.out.lo; omega) (by have := HY.out.hi; omega))
  go_wp2_with fail
  refine HT.out.mono ?_
  rintro r w3 ⟨neg, vs, N, E, rfl, hds, hfs, hs, hE, hb3⟩
  have HB3 := hide (HB2.out.trans (hb3.mono HB2.out.size))
  obtain ⟨q1, q2, q3, q4, q5⟩ := mul_val HX.out HY.out hs hE
  rw [hR.out] at q2
  have HNr := hide (near_agg neg vs E N w3 hds q3 q4 q5)
  obtain ⟨Z, hZ⟩ : ∃ Z, nearM neg N E false = Z := ⟨_, rfl⟩
  rw [hZ] at HNr q1 q2
  have HSz : Hid (∀ w, Calls Tryz.prog 52 #[.int .u64 Z] w fun e w' => e = .returned (.int .u64 R) ∧ w = w') := fun w => refSize_at Z R w q1 q2
  clear hds hfs hs hE hb3 HB2 q1 q2 q3 q4 q5 hZ HT HDx2 HDy HX HY
  go_wp2_with fail
  refine HNr.out.mono ?_
  rintro r w4 ⟨rfl, hb4⟩
  have HB4 := hide (HB3.out.trans (hb4.mono HB3.out.size))
  clear hb4 HNr HB3
  go_wp2_with fail
  refine (HSz.out _).mono ?_
  rintro r w5 ⟨rfl, rfl⟩
  go_wp2_with fail
  go_ret
  exact ⟨rfl, HB4.out⟩

theorem sbit_le (s : Bool) : 0 ≤ sbit s ∧ sbit s ≤ 9223372036854775808 := by unfold sbit; split <;> omega
theorem wrd_sbit (s : Bool) (r : Nat) : (wrd s r : Int) = sbit s + r := by unfold wrd sbit; cases s <;> simp
theorem refMul_any (x y : Nat) (u v : Int) (w : World) (hu : Hid (u = (x : Int))) (hv : Hid (v = (y : Int))) (h : U64 u) (h' : U64 v) :
    Calls Tryz.prog 27 #[.int .u64 u, .int .u64 v] w fun e w' => e = .returned (.int .u64 (cn (floatBits .mul .f64 x y) : Int)) ∧ Below w.heap.size w w' := by
  have hS := xor_sg h h'
  obtain ⟨s0, s1⟩ := sbit_le (sgB u ^^ sgB v)
  have hx64 : x < 18446744073709551616 := by have := h.2; rw [hu.out] at this; omega
  have hy64 : y < 18446744073709551616 := by have := h'.2; rw [hv.out] at this; omega
  have hsx : sgB u = sB x := by rw [hu.out]; exact sgB_nat hx64
  have hsy : sgB v = sB y := by rw [hv.out]; exact sgB_nat hy64
  have cx := bits_class hu.out
  have cy := bits_class hv.out
  have same : ∀ {r : Int}, (Calls Tryz.prog 27 #[.int .u64 u, .int .u64 v] w fun e w' => e = .returned (.int .u64 r) ∧ w' = w) → (cn (floatBits .mul .f64 x y) : Int) = r → Calls Tryz.prog 27 #[.int .u64 u, .int .u64 v] w fun e w' => e = .returned (.int .u64 (cn (floatBits .mul .f64 x y) : Int)) ∧ Below w.heap.size w w' := fun hc e => by
    rw [e]
    exact hc.mono fun _ _ ⟨a, b⟩ => ⟨a, by rw [b]; exact Below.refl _ _⟩
  cases hn : nanB u with
  | true =>
    refine same (refMul_nan u v w h h' (Or.inl hn)) ?_
    rw [nan_left (by rw [← hu.out]; exact hn)]; rfl
  | false =>
    cases hn' : nanB v with
    | true =>
      refine same (refMul_nan u v w h h' (Or.inr (Or.inl ⟨hn, hn'⟩))) ?_
      rw [nan_right (by rw [← hv.out]; exact hn')]; rfl
    | false =>
      cases hi : infB u with
      | true =>
        have ix := inf_of hu.out hi
        cases hi' : infB v with
        | true =>
          have iy := inf_of hv.out hi'
          refine same (refMul_inf u v _ w h h' hS s0 s1 hn hn' (Or.inl ⟨hi, hi', by rw [cy, iy]; rfl, by rw [cx, ix]; rfl⟩)) ?_
          rw [mul_inf_inf ix iy, cn_some, wrd_sbit, hsx, hsy]; rfl
        | false =>
          have ny := num_of hv.out hn' hi'
          by_cases hz : y % 9223372036854775808 = 0
          · refine same (refMul_nan u v w h h' (Or.inr (Or.inr (Or.inl ⟨hn, hn', hi, by rw [cy, hz]; rfl⟩)))) ?_
            rw [(mul_inf_zero ix hz).1]; rfl
          · refine same (refMul_inf u v _ w h h' hS s0 s1 hn hn' (Or.inr (Or.inl ⟨hi, hi', by rw [cy]; simp; omega⟩))) ?_
            rw [(mul_inf_num ix ny hz).1, cn_some, wrd_sbit, hsx, hsy]; rfl
      | false =>
        have nx := num_of hu.out hn hi
        cases hi' : infB v with
        | true =>
          have iy := inf_of hv.out hi'
          by_cases hz : x % 9223372036854775808 = 0
          · refine same (refMul_nan u v w h h' (Or.inr (Or.inr (Or.inr ⟨hn, hn', hi, hi', by rw [cx, hz]; rfl⟩)))) ?_
            rw [(mul_inf_zero iy hz).2]; rfl
          · refine same (refMul_inf u v _ w h h' hS s0 s1 hn hn' (Or.inr (Or.inr ⟨hi, hi', by rw [cx]; simp; omega⟩))) ?_
            rw [(mul_inf_num iy nx hz).2, cn_some, wrd_sbit, hsx, hsy]; rfl
        | false =>
          have ny := num_of hv.out hn' hi'
          have e : (cn (floatBits .mul .f64 x y) : Int) = sbit (sgB u ^^ sgB v) + sizeM (aV x * aV y) := by rw [mul_num nx ny, cn_some, mulR_sz, hsx, hsy]
          rw [e]
          exact refMul_num x y u v _ _ w hu hv h h' nx ny hS s0 s1 rfl hn hn' hi hi'
end Go.Proofs.YteglnchcnacjlaaGreat
namespace Go.Proofs.YteglnchcnacjlaaGreat
open Go.RowKit

theorem sg_mul_nat (neg : Bool) (N k : Nat) : sg neg (N * k) = sg neg N * (k : Int) := by
  unfold sg; cases neg <;> simp [Int.neg_mul]
theorem sg_zero_any (neg : Bool) : sg neg 0 = 0 := by cases neg <;> rfl
theorem sg_neg_iff {neg : Bool} {N : Nat} (h : N ≠ 0) : decide (sg neg N < 0) = neg := by
  unfold sg
  cases neg
  · simp
  · simp; omega
theorem mul_pow_neg {S : Int} (k : Nat) : (S * ((2 ^ k : Nat) : Int) < 0 ↔ S < 0) ∧ (S * ((2 ^ k : Nat) : Int) = 0 ↔ S = 0) := by
  have hp : (0 : Int) < ((2 ^ k : Nat) : Int) := by have := Nat.two_pow_pos k; omega
  refine ⟨⟨fun h => ?_, fun h => Int.mul_neg_of_neg_of_pos h hp⟩, ⟨fun h => ?_, fun h => by rw [h, Int.zero_mul]⟩⟩
  · by_cases h6 : S < 0
    · exact h6
    · have := Int.mul_nonneg (by omega : 0 ≤ S) (by omega : (0 : Int) ≤ ((2 ^ k : Nat) : Int)); omega
  · rcases Int.mul_eq_zero.1 h with h | h
    · exact h
    · omega
end Go.Proofs.YteglnchcnacjlaaGreat
namespace Go.Proofs.YteglnchcnacjlaaGreat
open Go.RowKit

theorem cn_lt {op : BinOp} (ho : op = .add ∨ op = .sub ∨ op = .mul ∨ op = .quo) (x y : Nat) : cn (floatBits op .f64 x y) < 18446744073709551616 := by
  cases h : floatBits op .f64 x y with
  | none => decide
  | some r => exact float_lt ho h
theorem cn_nan : nanB ((9221120237041090561 : Nat) : Int) = true := by decide
theorem ag_cn (o : Option Nat) : Ag o (cn o) := by
  cases o with
  | none => exact ⟨cn_nan, by decide⟩
  | some r => rfl
end Go.Proofs.YteglnchcnacjlaaGreat
namespace Go.Proofs.YteglnchcnacjlaaGreat
open Go.RowKit

theorem xor_top {c : Nat} (h : c < 9223372036854775808) : c ^^^ 9223372036854775808 = 9223372036854775808 + c := by
  rw [show (9223372036854775808 : Nat) = 2 ^ 63 from rfl] at *
  apply Nat.eq_of_testBit_eq
  intro i
  rw [Nat.testBit_xor, Nat.testBit_two_pow]
  by_cases h1 : i = 63
  · subst h1
    rw [Nat.testBit_two_pow_add_eq]
    simp
  · by_cases h2 : i < 63
    · have e : decide (63 = i) = false := by rw [decide_eq_false_iff_not]; omega
      rw [Nat.testBit_two_pow_add_gt h2, e, Bool.xor_false]
    · have h3 : c.testBit i = false := Nat.testBit_lt_two_pow (Nat.lt_of_lt_of_le h (Nat.pow_le_pow_right (by decide) (by omega)))
      have h4 : (2 ^ 63 + c).testBit i = false := Nat.testBit_lt_two_pow (Nat.lt_of_lt_of_le (show 2 ^ 63 + c < 2 ^ 64 by omega) (Nat.pow_le_pow_right (by decide) (by omega)))
      have e : decide (63 = i) = false := by rw [decide_eq_false_iff_not]; omega
      rw [h3, h4, e]; rfl
def flipN (x : Nat) : Nat := if x < 9223372036854775808 then 9223372036854775808 + x else x - 9223372036854775808
theorem flip_bits {b : Nat} (h : b < 18446744073709551616) : b ^^^ 9223372036854775808 = flipN b := by
  unfold flipN
  by_cases h1 : b < 9223372036854775808
  · rw [if_pos h1, xor_top h1]
  · rw [if_neg h1]
    obtain ⟨c, rfl⟩ : ∃ c, b = 9223372036854775808 + c := ⟨b - 9223372036854775808, by omega⟩
    rw [← xor_top (c := c) (by omega), Nat.xor_assoc, Nat.xor_self, Nat.xor_zero]
    have := xor_top (c := c) (by omega)
    omega
set_option maxHeartbeats 400000 in
theorem refFlip_at (y : Nat) (v z : Int) (w : World) (hv : Hid (v = (y : Int))) (h : U64 v) (hz : Hid (z = (flipN y : Int))) :
    Calls Tryz.prog 34 #[.int .u64 v] w fun e w' => e = .returned (.int .u64 z) ∧ w = w' := by
  have hb : bits .xor .u64 v 9223372036854775808 = z := by
    have hy : y < 18446744073709551616 := by have := h.2; rw [hv.out] at this; omega
    have := bits_xor_u64_nat y 9223372036854775808 hy (by decide)
    rw [show ((9223372036854775808 : Nat) : Int) = 9223372036854775808 from rfl, flip_bits hy] at this
    rw [hv.out, hz.out]; exact this
  go_enter Tryz.func34, Tryz.ntmps34
  go_wp2
  go_ret
  exact ⟨rfl, rfl⟩

end Go.Proofs.YteglnchcnacjlaaGreat
