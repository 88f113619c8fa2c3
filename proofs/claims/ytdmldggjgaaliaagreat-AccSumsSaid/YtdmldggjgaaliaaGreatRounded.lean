/- The contract of the document's 'rounded' at 53 bits. -/
import Derived.Test.YtdmldggjgaaliaaGreatRndRef
import Derived.Test.YtdmldggjgaaliaaGreatShiftDown
import Derived.Deep.RegionWith
namespace Go.Proofs.YtdmldggjgaaliaaGreat
open Go.RowKit

theorem digit_at (v : Value) (N k : Nat) (i : Int) (q : Int) (w : World) (h : DN w v N) (hi : Hid (i = k)) (hq : Hid ((dgt N k : Int) = q)) :
    Calls Tryz.prog 92 #[v, .int .i64 i] w fun e w' => e = .returned (.int .u64 q) ∧ w' = w := by
  rw [hi.out, ← hq.out]; exact digit_any v N k w h
theorem shiftUp_at (v : Value) (N n : Nat) (i : Int) (w : World) (h : DN w v N) (hb : nd N ≤ 10000000) (hn : n ≤ 100000000) (hi : Hid (i = n)) :
    Calls Tryz.prog 91 #[v, .int .i64 i] w fun e w' => ∃ v, e = .returned v ∧ DN w' v (N * 2 ^ n) ∧ Below w.heap.size w w' := by
  rw [hi.out]; exact shiftUp_any v N n w h hb hn
theorem shiftDown_at (v : Value) (N n : Nat) (i : Int) (w : World) (h : DN w v N) (hb : nd N ≤ 10000000) (hi : Hid (i = n)) :
    Calls Tryz.prog 103 #[v, .int .i64 i] w fun e w' => ∃ v, e = .returned (.tuple #[v, .bool (lostB N n)]) ∧ DN w' v (N / 2 ^ n) ∧ Below w.heap.size w w' := by
  rw [hi.out]; exact shiftDown_any v N n w h hb
theorem DN.drewN {w : World} {v : Value} {N : Nat} (h : DN w v N) (n : Nat) : DN (w.drewN n) v N := h

set_option maxHeartbeats 800000 in
theorem rounded_up (v : Value) (N : Nat) (e L : Int) (more : Bool) (w : World) (h : DN w v N) (hb : nd N ≤ 1000000) (he : -10000000 ≤ e) (he' : e ≤ 10000000) (hL : Hid (L = lsb53 N e)) (hLe : L ≤ e) (hLm : L + 1074 ≤ 3000) :
    Calls Tryz.prog 98 #[v, .int .i64 e, .bool more, .int .i64 53, .int .i64 (-1074)] w fun x w' => x = .returned (.int .u64 (rnd53 N e more : Int)) ∧ Below w.heap.size w w' := by
  have hbl := bl_nd N
  have HK : Hid (N * 2 ^ (e - L).toNat < 9007199254740992) := by rw [hL.out] at hLe ⊢; exact kept_up hLe
  have hLl : -1074 ≤ L := by rw [hL.out]; exact lsb_ge N e
  have HV : Hid ((rnd53 N e more : Int) = (L + 1074) * 4503599627370496 + (dgt (N * 2 ^ (e - L).toNat) 0 : Int) + (dgt (N * 2 ^ (e - L).toNat) 1 : Int) * 4294967296) := by
    show _ = _
    have e1 := two_digits (K := N * 2 ^ (e - L).toNat) (by have := HK.out; omega)
    have e2 : rnd53 N e more = (L + 1074).toNat * 4503599627370496 + N * 2 ^ (e - L).toNat := by
      unfold rnd53 kept53; rw [← hL.out, if_pos hLe]
    rw [e2]
    generalize N * 2 ^ (e - L).toNat = K at *
    omega
  have hmax : max ((bl N : Int) - 53 + e) (-1074) = L := by rw [hL.out]; rfl
  have b0 := dgt_lt (N * 2 ^ (e - L).toNat) 0
  have HB1 : dgt (N * 2 ^ (e - L).toNat) 1 ≤ 2097152 := by
    have e1 := two_digits (K := N * 2 ^ (e - L).toNat) (by have := HK.out; omega)
    have := HK.out; omega
  rw [HV.out]
  generalize hd0 : dgt (N * 2 ^ (e - L).toNat) 0 = d0 at b0
  generalize hd1 : dgt (N * 2 ^ (e - L).toNat) 1 = d1 at HB1
  have HD0 : Hid ((dgt (N * 2 ^ (e - L).toNat) 0 : Int) = d0) := by show _ = _; rw [hd0]
  have HD1 : Hid ((dgt (N * 2 ^ (e - L).toNat) 1 : Int) = d1) := by show _ = _; rw [hd1]
  clear hd0 hd1 HV
  have H := hide h
  clear h
  have HLen := hide (fun w (h : DN w v N) => len_any v N w h (by omega))
  generalize hB : (bl N : Int) = B at hmax HLen
  have hB0 : 0 ≤ B := by omega
  have hB1 : B ≤ 32000000 := by omega
  clear hB hbl
  have w1 : IntKind.i64.wrap (L + 1074) = L + 1074 := by rw [IntKind.wrap_i64]; omega
  have w2 : IntKind.u64.wrap (L + 1074) = L + 1074 := by rw [IntKind.wrap_u64]; omega
  have w3 : IntKind.u64.wrap ((L + 1074) * 4503599627370496) = (L + 1074) * 4503599627370496 := by rw [IntKind.wrap_u64]; omega
  have w4 : IntKind.u64.wrap ((L + 1074) * 4503599627370496 + (d0 : Int)) = (L + 1074) * 4503599627370496 + (d0 : Int) := by rw [IntKind.wrap_u64]; omega
  have w5 : IntKind.u64.wrap ((d1 : Int) * 4294967296) = (d1 : Int) * 4294967296 := by rw [IntKind.wrap_u64]; omega
  have w6 : IntKind.u64.wrap ((L + 1074) * 4503599627370496 + (d0 : Int) + (d1 : Int) * 4294967296) = (L + 1074) * 4503599627370496 + (d0 : Int) + (d1 : Int) * 4294967296 := by rw [IntKind.wrap_u64]; omega
  go_enter Tryz.func98, Tryz.ntmps98
  go_wp2_with fail
  refine (unhide HLen _ H.out).mono ?_
  rintro x w' ⟨rfl, rfl⟩
  go_wp2_with fail
  refine (shiftUp_at v N (e - L).toNat _ _ H.out (by omega) (by omega) (by show _ = _; omega)).mono ?_
  rintro x w1 ⟨v1, rfl, hd1, hb1⟩
  have HN1 := hide hd1
  have HB := hide hb1
  clear hd1 hb1
  go_wp2_with fail
  go_quiet ((first | (go_at_call_of 92 (Value.int IntKind.i64 0); exact Calls.quiet_of_same (digit_at v1 _ 0 0 _ _ HN1.out rfl HD0)) | (go_at_call_of 92 (Value.int IntKind.i64 1); exact Calls.quiet_of_same (digit_at v1 _ 1 1 _ _ HN1.out rfl HD1))))
  go_wp2_with fail
  go_ret
  exact ⟨rfl, below_drewN HB.out _⟩

set_option maxHeartbeats 2000000 in
theorem rounded_down (v : Value) (N d : Nat) (e L : Int) (more hf lo qo : Bool) (w : World) (h : DN w v N) (hb : nd N ≤ 1000000) (he : -10000000 ≤ e) (he' : e ≤ 10000000) (hL : Hid (L = lsb53 N e)) (hLe : e < L) (hLm : L + 1074 ≤ 3000) (hd : Hid (L - e = d))
    (hhf : Hid (((dgt (N / 2 ^ (d - 1)) 0 : Int) % 2 == 1) = hf)) (hlo : Hid (lostB N (d - 1) = lo)) (hqo : Hid (((N / 2 ^ d : Nat) : Int) % 2 = if qo then 1 else 0)) :
    Calls Tryz.prog 98 #[v, .int .i64 e, .bool more, .int .i64 53, .int .i64 (-1074)] w fun x w' => x = .returned (.int .u64 ((L + 1074) * 4503599627370496 + (((N / 2 ^ d : Nat) : Int) + if hf && (lo || more || qo) then 1 else 0))) ∧ Below w.heap.size w w' := by
  have hbl := bl_nd N
  have HQ : N / 2 ^ d < 9007199254740992 := by
    have := kept_down (N := N) (e := e) (by rw [← hL.out]; exact hLe)
    rw [← hL.out, show (L - e).toNat = d by have := hd.out; omega] at this; exact this
  have hLl : -1074 ≤ L := by rw [hL.out]; exact lsb_ge N e
  have hmax : max ((bl N : Int) - 53 + e) (-1074) = L := by rw [hL.out]; rfl
  have h2 := two_digits (K := N / 2 ^ d) (by omega)
  have b0 := dgt_lt (N / 2 ^ d) 0
  have b1 : dgt (N / 2 ^ d) 1 ≤ 2097152 := by omega
  have bh := dgt_lt (N / 2 ^ (d - 1)) 0
  generalize hQ : N / 2 ^ d = Q at hqo HQ h2
  have HQe : Hid (N / 2 ^ d = Q) := hQ
  rw [hQ] at b0 b1
  generalize hq0 : dgt Q 0 = q0 at h2 b0
  generalize hq1 : dgt Q 1 = q1 at h2 b1
  have hh := hhf.out
  generalize hg0 : dgt (N / 2 ^ (d - 1)) 0 = g0 at bh hh
  have HD0 : Hid ((dgt Q 0 : Int) = q0) := by show _ = _; rw [hq0]
  have HD1 : Hid ((dgt Q 1 : Int) = q1) := by show _ = _; rw [hq1]
  have HH : Hid ((dgt (N / 2 ^ (d - 1)) 0 : Int) = g0) := by show _ = _; rw [hg0]
  clear hq0 hq1 hg0
  have hQq : (q0 : Int) + (q1 : Int) * 4294967296 = (Q : Int) := by omega
  clear hQ h2
  have H := hide h
  clear h
  have HLen := hide (fun w (h : DN w v N) => len_any v N w h (by omega))
  have HE := hide (show L - e = (d : Int) from hd.out)
  have HE1 : Hid (L - e - 1 = ((d - 1 : Nat) : Int)) := by show _ = _; have := hd.out; omega
  generalize hB : (bl N : Int) = B at hmax HLen
  have hB0 : 0 ≤ B := by omega
  have hB1 : B ≤ 32000000 := by omega
  clear hB hbl
  have hq2 : ((Q : Int) % 2 == 1) = qo := by have := hqo.out; cases qo <;> simp at this ⊢ <;> omega
  cases hf <;> cases lo <;> cases more <;> cases qo
  all_goals
    simp only [Bool.false_and, Bool.true_and, Bool.or_true, Bool.or_false, Bool.false_eq_true, if_true, if_false, Int.add_zero]
    go_enter Tryz.func98, Tryz.ntmps98
    go_wp2_with fail
    refine (unhide HLen _ H.out).mono ?_
    rintro x w' ⟨rfl, rfl⟩
    go_wp2_with fail
    refine (shiftDown_at v N d _ _ H.out (by omega) HE).mono ?_
    rintro x w1 ⟨v1, rfl, hd1, hb1⟩
    have HN1 := hide hd1
    have HB := hide hb1
    clear hd1 hb1
    go_wp2_with fail
    refine (shiftDown_at v N (d - 1) _ _ (H.out.below HB.out) (by omega) HE1).mono ?_
    rw [hlo.out]
    rintro x w2 ⟨v2, rfl, hd2, hb2⟩
    have HN2 := hide hd2
    have HN1 := hide (HN1.out.below hb2)
    have HB := hide (HB.out.trans (hb2.mono HB.out.size))
    clear hd2 hb2
    rw [HQe.out] at HN1
    go_wp2_with fail
    refine (digit_at v1 Q 0 0 q0 _ HN1.out rfl HD0).mono ?_
    rintro x w' ⟨rfl, rfl⟩
    go_wp2_with fail
    refine (digit_at v1 Q 1 1 q1 _ HN1.out rfl HD1).mono ?_
    rintro x w' ⟨rfl, rfl⟩
    go_wp2_with fail
    refine (digit_at v2 _ 0 0 g0 _ HN2.out rfl HH).mono ?_
    rintro x w' ⟨rfl, rfl⟩
    go_wp2_with fail
    go_ret
    exact ⟨ret_int (by omega), HB.out⟩

theorem half_odd (N k : Nat) : ((dgt (N / 2 ^ k) 0 : Int) % 2 == 1) = decide (N / 2 ^ k % 2 = 1) := by
  unfold dgt
  rw [Nat.mul_zero, Nat.pow_zero, Nat.div_one]
  generalize N / 2 ^ k = z
  by_cases h : z % 2 = 1
  · rw [decide_eq_true h]; simp; omega
  · rw [decide_eq_false h]; simp; omega

theorem rounded_any (v : Value) (N : Nat) (e : Int) (more : Bool) (w : World) (h : DN w v N) (hb : nd N ≤ 1000000) (he : -10000000 ≤ e) (he' : e ≤ 10000000) (hLm : lsb53 N e + 1074 ≤ 3000) :
    Calls Tryz.prog 98 #[v, .int .i64 e, .bool more, .int .i64 53, .int .i64 (-1074)] w fun x w' => x = .returned (.int .u64 (rnd53 N e more : Int)) ∧ Below w.heap.size w w' := by
  by_cases hc : lsb53 N e ≤ e
  · exact rounded_up v N e (lsb53 N e) more w h hb he he' rfl hc hLm
  · have hl := lsb_ge N e
    have key := rounded_down v N (lsb53 N e - e).toNat e (lsb53 N e) more (decide (N / 2 ^ ((lsb53 N e - e).toNat - 1) % 2 = 1)) (lostB N ((lsb53 N e - e).toNat - 1)) (decide (N / 2 ^ (lsb53 N e - e).toNat % 2 = 1)) w h hb he he' rfl (by omega) hLm (by show _ = _; omega) (half_odd N _) rfl
      (by show _ = _; generalize N / 2 ^ (lsb53 N e - e).toNat = z; by_cases h : z % 2 = 1 <;> simp [h] <;> omega)
    have ev : (rnd53 N e more : Int) = (lsb53 N e + 1074) * 4503599627370496 + (((N / 2 ^ (lsb53 N e - e).toNat : Nat) : Int) + if decide (N / 2 ^ ((lsb53 N e - e).toNat - 1) % 2 = 1) && (lostB N ((lsb53 N e - e).toNat - 1) || more || decide (N / 2 ^ (lsb53 N e - e).toNat % 2 = 1)) then 1 else 0) := by
      unfold rnd53 kept53 keptD lostB
      rw [if_neg hc]
      have e1 : (((decide (N / 2 ^ ((lsb53 N e - e).toNat - 1) % 2 = 1) && (decide (N % 2 ^ ((lsb53 N e - e).toNat - 1) ≠ 0) || more || decide (N / 2 ^ (lsb53 N e - e).toNat % 2 = 1))) = true) ↔ (N / 2 ^ ((lsb53 N e - e).toNat - 1) % 2 = 1 ∧ (N % 2 ^ ((lsb53 N e - e).toNat - 1) ≠ 0 ∨ more = true ∨ N / 2 ^ (lsb53 N e - e).toNat % 2 = 1))) := by
        simp only [Bool.and_eq_true, Bool.or_eq_true, decide_eq_true_eq, or_assoc]
      simp only [e1]
      split <;> omega
    rw [ev]; exact key

end Go.Proofs.YtdmldggjgaaliaaGreat
