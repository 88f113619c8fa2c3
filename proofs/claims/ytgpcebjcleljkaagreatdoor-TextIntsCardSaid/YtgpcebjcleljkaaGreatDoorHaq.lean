/- The contract of the document's MulDigits. The document's numbers, digit by digit: more. -/
import Derived.Test.YtgpcebjcleljkaaGreatDoorHap
import Derived.Deep.LoopGhost
namespace Go.Proofs.YtgpcebjcleljkaaGreatDoor
open Go.RowKit

def setD (R j d : Nat) : Nat := R / 2 ^ (32 * (j + 1)) * 2 ^ (32 * (j + 1)) + d * 2 ^ (32 * j) + R % 2 ^ (32 * j)
theorem setD_sum (R j d : Nat) : setD R j d + dgt R j * 2 ^ (32 * j) = R + d * 2 ^ (32 * j) := by
  unfold setD
  have h1 := Nat.div_add_mod R (2 ^ (32 * (j + 1)))
  have h2 := mod_succ R j
  rw [Nat.mul_comm] at h1
  omega
theorem low_lt (R j d : Nat) (hd : d < 4294967296) : d * 2 ^ (32 * j) + R % 2 ^ (32 * j) < 2 ^ (32 * (j + 1)) := by
  have h1 : R % 2 ^ (32 * j) < 2 ^ (32 * j) := Nat.mod_lt _ (Nat.two_pow_pos _)
  have h2 : (d + 1) * 2 ^ (32 * j) ≤ 4294967296 * 2 ^ (32 * j) := Nat.mul_le_mul_right _ hd
  rw [Nat.add_mul, Nat.one_mul] at h2
  rw [pow32, Nat.mul_comm (2 ^ (32 * j))]
  omega
theorem setD_div (R j d : Nat) (hd : d < 4294967296) : setD R j d / 2 ^ (32 * (j + 1)) = R / 2 ^ (32 * (j + 1)) := by
  unfold setD
  rw [Nat.add_assoc, Nat.add_comm, Nat.add_mul_div_right _ _ (Nat.two_pow_pos _), Nat.div_eq_of_lt (low_lt R j d hd), Nat.zero_add]
theorem setD_lt {R j d T : Nat} (hR : R < 2 ^ (32 * T)) (hj : j < T) (hd : d < 4294967296) : setD R j d < 2 ^ (32 * T) := by
  have e : (2 : Nat) ^ (32 * T) = 2 ^ (32 * (T - (j + 1))) * 2 ^ (32 * (j + 1)) := by rw [← Nat.pow_add]; congr 1; omega
  rw [e] at hR ⊢
  rw [← Nat.div_lt_iff_lt_mul (Nat.two_pow_pos _)] at hR ⊢
  rw [setD_div R j d hd]; exact hR
theorem dgt_far {R S j i : Nat} (h : R / 2 ^ (32 * (j + 1)) = S / 2 ^ (32 * (j + 1))) (hi : j < i) : dgt R i = dgt S i := by
  unfold dgt
  have e : (2 : Nat) ^ (32 * i) = 2 ^ (32 * (j + 1)) * 2 ^ (32 * (i - (j + 1))) := by rw [← Nat.pow_add]; congr 1; omega
  rw [e, ← Nat.div_div_eq_div_mul, ← Nat.div_div_eq_div_mul, h]
theorem dgt_setD (R j d i : Nat) (hd : d < 4294967296) : dgt (setD R j d) i = if i = j then d else dgt R i := by
  have hp := Nat.two_pow_pos (32 * j)
  by_cases h : i = j
  · subst h
    rw [if_pos rfl]
    have h1 := div_step (setD R i d) i
    rw [setD_div R i d hd] at h1
    have h2 : setD R i d / 2 ^ (32 * i) = R / 2 ^ (32 * (i + 1)) * 4294967296 + d := by
      unfold setD
      generalize R / 2 ^ (32 * (i + 1)) = q
      have e : q * 2 ^ (32 * (i + 1)) + d * 2 ^ (32 * i) = (q * 4294967296 + d) * 2 ^ (32 * i) := by rw [pow32, Nat.add_mul, Nat.mul_assoc, Nat.mul_comm 4294967296]
      rw [e, Nat.add_comm, Nat.add_mul_div_right _ _ hp, Nat.div_eq_of_lt (Nat.mod_lt _ hp), Nat.zero_add]
    omega
  · rw [if_neg h]
    rcases Nat.lt_or_gt_of_ne h with h1 | h1
    · have e1 := dgt_mod (setD R j d) j i
      have e2 := dgt_mod R j i
      rw [if_pos h1] at e1 e2
      rw [← e1, ← e2]
      congr 1
      unfold setD
      rw [pow32, Nat.mul_comm (2 ^ (32 * j)) 4294967296, ← Nat.mul_assoc, ← Nat.add_mul, Nat.mul_add_mod', Nat.mod_mod]
    · exact dgt_far (setD_div R j d hd) h1
theorem Own.put {w : World} {b n R j d : Nat} {x : Int} (h : Own w b n R) (hx : x = (d : Int)) (hd : d < 4294967296) : Own (w.setCell ⟨b, j, none⟩ (.int .u64 x)) b n (setD R j d) := by
  refine (h.set j (.int .u64 x)).congr fun i _ => ?_
  rw [dgt_setD R j d i hd]
  by_cases c : i = j
  · rw [if_pos c, if_pos c, hx]
  · rw [if_neg c, if_neg c]

theorem mul_round {M B R i k a b c o s : Nat} (hR : R + c * 2 ^ (32 * (i + k)) = M + a * (B % 2 ^ (32 * k)) * 2 ^ (32 * i)) (hb : b = dgt B k) (ho : o = dgt R (i + k)) (hs : s = o + a * b + c) :
    setD R (i + k) (s % 4294967296) + s / 4294967296 * 2 ^ (32 * (i + (k + 1))) = M + a * (B % 2 ^ (32 * (k + 1))) * 2 ^ (32 * i) := by
  have h1 := setD_sum R (i + k) (s % 4294967296)
  rw [← ho] at h1
  rw [show i + (k + 1) = i + k + 1 by omega, pow32, mod_succ, ← hb, Nat.mul_add a, Nat.add_mul (a * _)]
  have e1 : a * (b * 2 ^ (32 * k)) * 2 ^ (32 * i) = a * b * 2 ^ (32 * (i + k)) := by
    rw [← Nat.mul_assoc, Nat.mul_assoc, ← Nat.pow_add]; congr 2; omega
  rw [e1]
  generalize 2 ^ (32 * (i + k)) = W at *
  have e2 : s / 4294967296 * (W * 4294967296) + s % 4294967296 * W = s * W := by
    rw [Nat.mul_comm W, ← Nat.mul_assoc, ← Nat.add_mul, Nat.div_add_mod']
  have e3 : s * W = o * W + a * b * W + c * W := by rw [hs, Nat.add_mul, Nat.add_mul]
  generalize s / 4294967296 * (W * 4294967296) = t1 at *
  generalize s % 4294967296 * W = t2 at *
  generalize s * W = t3 at *
  generalize o * W = t4 at *
  generalize a * b * W = t5 at *
  generalize c * W = t6 at *
  generalize a * (B % 2 ^ (32 * k)) * 2 ^ (32 * i) = t7 at *
  omega
theorem mul_small {o a b c : Nat} (ho : o < 4294967296) (ha : a < 4294967296) (hb : b < 4294967296) (hc : c < 4294967296) : a * b ≤ 18446744065119617025 ∧ o + a * b + c < 18446744073709551616 := by
  have : a * b ≤ 4294967295 * 4294967295 := Nat.mul_le_mul (by omega) (by omega)
  omega
theorem mul_end {A B R i n a c : Nat} (hR : R + c * 2 ^ (32 * (i + n)) = (A % 2 ^ (32 * i)) * B + a * (B % 2 ^ (32 * n)) * 2 ^ (32 * i)) (hB : B < 2 ^ (32 * n)) (ha : a = dgt A i) (hlt : R < 2 ^ (32 * (i + n))) :
    setD R (i + n) c = (A % 2 ^ (32 * (i + 1))) * B := by
  have h1 := setD_sum R (i + n) c
  rw [dgt_ge hlt, Nat.zero_mul] at h1
  rw [Nat.mod_eq_of_lt hB] at hR
  rw [mod_succ, Nat.add_mul, ← ha]
  have : a * B * 2 ^ (32 * i) = a * 2 ^ (32 * i) * B := by rw [Nat.mul_assoc, Nat.mul_comm B, Nat.mul_assoc]
  omega
theorem prod_lt {A B m n : Nat} (hA : A < 2 ^ (32 * m)) (hB : B < 2 ^ (32 * n)) : A * B < 2 ^ (32 * (m + n)) := by
  rw [Nat.mul_add, Nat.pow_add]
  exact Nat.mul_lt_mul'' hA hB

set_option maxRecDepth 10000 in
set_option maxHeartbeats 1600000 in
theorem mulDigits_row (g f c d m n A B : Nat) (w : World) (hrA : Hid (RowIs w g m A)) (hrB : Hid (RowIs w f n B)) (hg : g < w.heap.size) (hf : f < w.heap.size) (hm : m ≤ 1000000) (hn : n ≤ 1000000) (hA : Hid (A < 2 ^ (32 * m))) (hB : Hid (B < 2 ^ (32 * n))) :
    Calls Tryz.prog 19 #[.slice (some ⟨g, 0, none⟩) m c, .slice (some ⟨f, 0, none⟩) n d] w fun e w' => ∃ v, e = .returned v ∧ DN w' v (A * B) ∧ From w.heap.size v ∧ Below w.heap.size w w' := by
  have hmk := fun w => run_make_row' (P := Tryz.prog) 30 33 (.int .u64 0) 8 Tryz.underlying30 info_u64 rfl .i64 .i64 (m + n + 1) (by omega) (by omega) w
  have ec : ((m + n + 1 : Nat) : Int) = (m : Int) + (n : Int) + 1 := by omega
  rw [ec] at hmk
  clear ec
  have HO := hide (own_made w (m + n + 1))
  go_enter Tryz.func19, Tryz.ntmps19
  go_wp2_with fail
  go_loopg [6] m (fun gm i wr => ∃ k : Nat, k ≤ m ∧ gm = m - k ∧ i = .int .i64 k ∧ Hid (Own wr w.heap.size (m + n + 1) ((A % 2 ^ (32 * k)) * B)) ∧ Hid (Below w.heap.size w wr))
  case atStart => exact ⟨0, Nat.zero_le _, by omega, rfl, by rw [Nat.mul_zero, Nat.pow_zero, Nat.mod_one, Nat.zero_mul]; exact HO, (Below.refl _ _).alloc (Nat.le_refl _) _⟩
  case round =>
    clear HO hmk
    obtain ⟨i, hi, rfl, rfl, HOwn, HBl⟩ := hrel
    by_cases hlt : i < m
    · have hca := (HBl.out.cell (p := ⟨g, i, none⟩) hg).trans (hrA.out i hlt)
      have HCA := hide (hrA.out i hlt)
      have ba := dgt_lt A i
      have HM : Hid ((A % 2 ^ (32 * i)) * B < 2 ^ (32 * (i + n))) := prod_lt (Nat.mod_lt _ (Nat.two_pow_pos _)) hB.out
      have HE := hide fun R a c (ha : a = dgt A i) => mul_end (A := A) (B := B) (R := R) (i := i) (n := n) (a := a) (c := c)
      generalize ha : dgt A i = a at hca HCA ba
      have HAI := hide ha.symm
      clear ha
      go_wp2_with fail
      go_loopg [7, 8] n (fun gm s kk wr2 => ∃ k x R : Nat, k ≤ n ∧ gm = n - k ∧ kk = .int .i64 k ∧ s = .int .u64 x ∧ x < 4294967296 ∧ Hid (R + x * 2 ^ (32 * (i + k)) = (A % 2 ^ (32 * i)) * B + a * (B % 2 ^ (32 * k)) * 2 ^ (32 * i)) ∧ Hid (R < 2 ^ (32 * (i + n))) ∧ Hid (Own wr2 w.heap.size (m + n + 1) R) ∧ Hid (Below w.heap.size w wr2))
      case atStart => exact ⟨0, 0, _, Nat.zero_le _, by omega, rfl, rfl, by omega, by show _ = _; rw [Nat.mul_zero 32, Nat.pow_zero, Nat.mod_one, Nat.zero_mul, Nat.mul_zero, Nat.zero_mul], HM, HOwn, HBl⟩
      case round =>
        clear HOwn HBl HM hca
        obtain ⟨k, x, R, hk, rfl, rfl, rfl, hx, HS, HR, HOwn, HBl⟩ := hrel
        have hca := (HBl.out.cell (p := ⟨g, i, none⟩) hg).trans HCA.out
        by_cases hlt2 : k < n
        · have hcb := (HBl.out.cell (p := ⟨f, k, none⟩) hf).trans (hrB.out k hlt2)
          have bb := dgt_lt B k
          have ho := HOwn.out.cell (i := i + k) (by omega)
          have bo := dgt_lt R (i + k)
          have fo := HOwn.out.frozen (i + k)
          have HRd := hide fun b o s (hb : b = dgt B k) (hq : o = dgt R (i + k)) (hs : s = o + a * b + x) => mul_round HS.out hb hq hs
          generalize hb : dgt B k = b at hcb bb
          generalize hq : dgt R (i + k) = o at ho bo
          have HRd := hide (HRd.out b o _ hb.symm hq.symm rfl)
          clear hb hq
          obtain ⟨s1, s2⟩ := mul_small bo ba bb hx
          have w1 : IntKind.u64.wrap ((a : Int) * (b : Int)) = ((a * b : Nat) : Int) := by rw [← Int.natCast_mul, IntKind.wrap_u64]; omega
          generalize a * b = ab at w1 s1 s2 HRd
          have w2 : IntKind.u64.wrap ((o : Int) + (ab : Int)) = (o : Int) + (ab : Int) := by rw [IntKind.wrap_u64]; omega
          have w3 : IntKind.u64.wrap ((o : Int) + (ab : Int) + (x : Int)) = ((o + ab + x : Nat) : Int) := by rw [IntKind.wrap_u64]; omega
          generalize o + ab + x = s at w3 s2 HRd
          have w4 : IntKind.i64.wrap ((i : Int) + (k : Int)) = (i : Int) + (k : Int) := by rw [IntKind.wrap_i64]; omega
          have tn : ((i : Int) + (k : Int)).toNat = i + k := by omega
          have nn : (0 : Int) ≤ (i : Int) + (k : Int) := by omega
          have nm : (i : Int) + (k : Int) < ((m + n + 1 : Nat) : Int) := by omega
          go_wp2_with fail
          go_quiet (fail)
          go_wp2_with fail
          go_roundg (n - (k + 1))
          case measure => omega
          case rel =>
            exact ⟨k + 1, s / 4294967296, setD R (i + k) (s % 4294967296), by omega, rfl, by go_num, by go_num, by omega, HRd.out, setD_lt HR.out (by omega) (by omega), Own.put (w := wr.drewN nq) HOwn.out (by omega) (by omega), (below_drewN HBl.out _).setCell (Nat.le_refl _) _⟩
        · obtain rfl : k = n := by omega
          have ho := HOwn.out.cell (i := i + k) (by omega)
          have fo := HOwn.out.frozen (i + k)
          have hz : dgt R (i + k) = 0 := dgt_ge HR.out
          rw [hz] at ho
          have HEnd := hide (mul_end HS.out hB.out HAI.out HR.out)
          clear hz
          go_wp2_with fail
          go_roundg (m - (i + 1))
          case measure => omega
          case rel =>
            refine ⟨i + 1, by omega, rfl, by go_num, ?_, HBl.out.setCell (Nat.le_refl _) _⟩
            rw [← HEnd.out]
            exact Own.put HOwn.out (by omega) hx
    · obtain rfl : i = m := by omega
      have e : A % 2 ^ (32 * i) = A := Nat.mod_eq_of_lt hA.out
      rw [e] at HOwn
      clear e
      have hM : Hid (A * B < 2 ^ (32 * (i + n + 1))) := Nat.lt_of_lt_of_le (prod_lt hA.out hB.out) (Nat.pow_le_pow_right (by decide) (by omega))
      have hlt2 := HOwn.out.lt
      have HD := hide (dn_mk HOwn.out.row hM.out (Nat.le_refl _) hlt2)
      go_wp2_with fail
      refine (trim_row _ _ _ _ _ HOwn.out.row hM.out (Nat.le_refl _) (by omega)).mono ?_
      rintro e w' ⟨rfl, rfl⟩
      go_wp2_with fail
      go_ret
      exact ⟨_, rfl, HD.out, from_at _ _ _ _ (Nat.le_refl _), HBl.out⟩

end Go.Proofs.YtgpcebjcleljkaaGreatDoor
namespace Go.Proofs.YtgpcebjcleljkaaGreatDoor
open Go.RowKit

set_option maxHeartbeats 1600000 in
theorem mul_nil10 (p : Option Addr) (c f d : Nat) (w : World) :
    Calls Tryz.prog 19 #[.slice p 0 c, .slice (some ⟨f, 0, none⟩) 1 d] w fun e w' => ∃ v, e = .returned v ∧ DN w' v 0 ∧ From w.heap.size v ∧ Below w.heap.size w w' := by
  have hmk : ∀ w : World, (Instr.makeSlice 30 (.int .i64 2) (.int .i64 2)).run Tryz.prog w = _ := fun w => run_make_row' (P := Tryz.prog) 30 33 (.int .u64 0) 8 Tryz.underlying30 info_u64 rfl .i64 .i64 2 (by omega) (by omega) w
  have HO := hide (own_made w 2)
  go_enter Tryz.func19, Tryz.ntmps19
  go_wp2_with fail
  refine wp_loop_rounds 2 ?_
  rw [rounds_succ]
  go_wp2_with fail
  have hM : Hid ((0 : Nat) < 2 ^ (32 * 2)) := by show _ < _; decide
  have HD := hide (dn_mk HO.out.row hM.out (Nat.le_refl _) HO.out.lt)
  have HB : Hid (Below w.heap.size w (w.alloc (.cells (madeCells #[.int .u64 0] 2) 33))) := (Below.refl _ _).alloc (Nat.le_refl _) _
  refine (trim_row _ _ _ _ _ HO.out.row hM.out (Nat.le_refl _) (by omega)).mono ?_
  rintro e w' ⟨rfl, rfl⟩
  go_wp2_with fail
  go_ret
  exact ⟨_, rfl, HD.out, from_at _ _ _ _ (Nat.le_refl _), HB.out⟩
theorem ten_row (w : World) : RowIs (w.alloc (.cells #[.int .u64 10] 33)) w.heap.size 1 10 := fun i hi => by
  obtain rfl : i = 0 := by omega
  simp
  decide
theorem mul_ten (v : Value) (N : Nat) (w : World) (h : DN w v N) (hn : nd N ≤ 1000) :
    Calls Tryz.prog 19 #[v, .slice (some ⟨w.heap.size, 0, none⟩) 1 1] (w.alloc (.cells #[.int .u64 10] 33)) fun e w' => ∃ v', e = .returned v' ∧ DN w' v' (N * 10) ∧ Below w.heap.size w w' := by
  have hb : Below w.heap.size w (w.alloc (.cells #[.int .u64 10] 33)) := (Below.refl _ _).alloc (Nat.le_refl _) _
  rcases h with ⟨rfl, p, c, rfl⟩ | ⟨h0, g, c, rfl, hc, hg, hr⟩
  · refine (mul_nil10 p c _ 1 _).mono ?_
    rintro e w' ⟨v', he, hd, _, hb'⟩
    exact ⟨v', he, by rw [Nat.zero_mul]; exact hd, hb.trans (hb'.mono hb.size)⟩
  · refine (mulDigits_row g w.heap.size c 1 (nd N) 1 N 10 _ (hr.below hg hb) (ten_row w) (by simp; omega) (by simp) (by omega) (by omega) (nd_lt N) (by show _ < _; decide)).mono ?_
    rintro e w' ⟨v', he, hd, _, hb'⟩
    exact ⟨v', he, hd, hb.trans (hb'.mono hb.size)⟩
theorem nd_ten {N : Nat} (h : N < 2 ^ 100) : nd N ≤ 4 ∧ nd (N * 10) ≤ 4 := ⟨nd_mono (Nat.lt_of_lt_of_le h (by decide)), nd_mono (Nat.lt_of_lt_of_le (show N * 10 < 2 ^ 100 * 10 by omega) (by decide))⟩
set_option maxHeartbeats 1600000 in
theorem more_any (v : Value) (N c : Nat) (w : World) (h : DN w v N) (hN : N < 2 ^ 100) (hc0 : 48 ≤ c) (hc1 : c ≤ 57) :
    Calls Tryz.prog 9 #[v, .int .u8 (c : Int)] w fun e w' => ∃ v', e = .returned v' ∧ DN w' v' (N * 10 + (c - 48)) ∧ Below w.heap.size w w' := by
  have HM := hide (mul_ten v N w h (by have := nd_ten hN; omega))
  have HN := hide (nd_ten hN)
  obtain ⟨D, hD⟩ : ∃ D, c - 48 = D := ⟨_, rfl⟩
  have hD1 : (c : Int) - 48 = (D : Int) := by omega
  have hD2 : D ≤ 9 := by omega
  have hD3 : (0 : Int) ≤ (D : Int) := by omega
  have hD4 : (D : Int) ≤ 9 := by omega
  rw [hD]
  have HND : Hid (nd D ≤ 1) := nd_mono (Nat.lt_of_le_of_lt hD2 (by decide))
  clear h hN hD
  go_enter Tryz.func9, Tryz.ntmps9
  go_wp2_with fail
  refine HM.out.mono ?_
  rintro e w1 ⟨v1, rfl, hd1, hb1⟩
  have H1 := hide (And.intro hd1 hb1)
  clear hd1 hb1
  go_wp2_with fail
  refine (digits_as _ D _ rfl (by omega)).mono ?_
  rintro e w2 ⟨v2, rfl, hd2, _, hb2⟩
  have H2 := hide (And.intro hd2 (And.intro (H1.out.1.below hb2) (H1.out.2.trans (hb2.mono H1.out.2.size))))
  clear hd2 hb2
  go_wp2_with fail
  refine (addDigits_any _ _ _ _ _ H2.out.2.1 H2.out.1 (by have := HN.out; omega) (by have := HND.out; omega)).mono ?_
  rintro e w3 ⟨v3, rfl, hd3, _, hb3⟩
  have H3 := hide (And.intro hd3 (H2.out.2.2.trans (hb3.mono H2.out.2.2.size)))
  clear hd3 hb3
  go_wp2_with fail
  go_ret
  exact ⟨_, rfl, H3.out.1, H3.out.2⟩
end Go.Proofs.YtgpcebjcleljkaaGreatDoor
