/- The contract of the document's 'rounded' at 53 bits. Contracts of the document's Near: made, Zero, far, NearMore, Near. -/
import Derived.Test.YtbkmbdbjeiffpaaHac
import Derived.Test.YtbkmbdbjeiffpaaHag
import Derived.Deep.RegionWith
import Derived.Lib.MinMax
namespace Go.Proofs.Ytbkmbdbjeiffpaa
open Go.RowKit

theorem digit_at (v : Value) (N k : Nat) (i : Int) (q : Int) (w : World) (h : DN w v N) (hi : Hid (i = k)) (hq : Hid ((dgt N k : Int) = q)) :
    Calls Try.prog 74 #[v, .int .i64 i] w fun e w' => e = .returned (.int .u64 q) ∧ w' = w := by
  rw [hi.out, ← hq.out]; exact digit_any v N k w h
theorem shiftUp_at (v : Value) (N n : Nat) (i : Int) (w : World) (h : DN w v N) (hb : nd N ≤ 10000000) (hn : n ≤ 100000000) (hi : Hid (i = n)) :
    Calls Try.prog 73 #[v, .int .i64 i] w fun e w' => ∃ v, e = .returned v ∧ DN w' v (N * 2 ^ n) ∧ Below w.heap.size w w' := by
  rw [hi.out]; exact shiftUp_any v N n w h hb hn
theorem shiftDown_at (v : Value) (N n : Nat) (i : Int) (w : World) (h : DN w v N) (hb : nd N ≤ 10000000) (hi : Hid (i = n)) :
    Calls Try.prog 75 #[v, .int .i64 i] w fun e w' => ∃ v, e = .returned (.tuple #[v, .bool (lostB N n)]) ∧ DN w' v (N / 2 ^ n) ∧ Below w.heap.size w w' := by
  rw [hi.out]; exact shiftDown_any v N n w h hb
theorem DN.drewN {w : World} {v : Value} {N : Nat} (h : DN w v N) (n : Nat) : DN (w.drewN n) v N := h

set_option maxHeartbeats 800000 in
theorem rounded_up (v : Value) (N : Nat) (e L : Int) (more : Bool) (w : World) (h : DN w v N) (hb : nd N ≤ 1000000) (he : -10000000 ≤ e) (he' : e ≤ 10000000) (hL : Hid (L = lsb53 N e)) (hLe : L ≤ e) (hLm : L + 1074 ≤ 3000) :
    Calls Try.prog 89 #[v, .int .i64 e, .bool more, .int .i64 53, .int .i64 (-1074)] w fun x w' => x = .returned (.int .u64 (rnd53 N e more : Int)) ∧ Below w.heap.size w w' := by
  have hbl := bl_nd N
  have HK : Hid (N * 2 ^ (e - L).toNat < 9007199254740992) := by rw [hL.out] at hLe ⊢; exact kept_up hLe
  have hLl : -1074 ≤ L := by rw [hL.out]; exact lsb_ge N e
  have HV : Hid ((rnd53 N e more : Int) = (L + 1074) * 4503599627370496 + (dgt (N * 2 ^ (e - L).toNat) 0 : Int) + (dgt (N * 2 ^ (e - L).toNat) 1 : Int) * 4294967296) := by
    show _ = _
    have e1 := two_digits (K := N * 2 ^ (e - L).toNat) (by have := HK.out; omega)
    have e2 : rnd53 N e more = (L + 1074).toNat * 4503599627370496 + N * 2 ^ (e - L).toNat := by
      unfold rnd53 kept53; rw [← hL.out, if_pos hLe]
    rw [e2]
    generalize N * 2 ^ (e - L).toNat = K at *
    omega
  have hmax : max ((bl N : Int) - 53 + e) (-1074) = L := by rw [hL.out]; rfl
  have b0 := dgt_lt (N * 2 ^ (e - L).toNat) 0
  have HB1 : dgt (N * 2 ^ (e - L).toNat) 1 ≤ 2097152 := by
    have e1 := two_digits (K := N * 2 ^ (e - L).toNat) (by have := HK.out; omega)
    have := HK.out; omega
  rw [HV.out]
  generalize hd0 : dgt (N * 2 ^ (e - L).toNat) 0 = d0 at b0
  generalize hd1 : dgt (N * 2 ^ (e - L).toNat) 1 = d1 at HB1
  have HD0 : Hid ((dgt (N * 2 ^ (e - L).toNat) 0 : Int) = d0) := by show _ = _; rw [hd0]
  have HD1 : Hid ((dgt (N * 2 ^ (e - L).toNat) 1 : Int) = d1) := by show _ = _; rw [hd1]
  clear hd0 hd1 HV
  have H := hide h
  clear h
  have HLen := hide (fun w (h : DN w v N) => len_any v N w h (by omega))
  generalize hB : (bl N : Int) = B at hmax HLen
  have hB0 : 0 ≤ B := by omega
  have hB1 : B ≤ 32000000 := by omega
  clear hB hbl
  have w1 : IntKind.i64.wrap (L + 1074) = L + 1074 := by rw [IntKind.wrap_i64]; omega
  have w2 : IntKind.u64.wrap (L + 1074) = L + 1074 := by rw [IntKind.wrap_u64]; omega
  have w3 : IntKind.u64.wrap ((L + 1074) * 4503599627370496) = (L + 1074) * 4503599627370496 := by rw [IntKind.wrap_u64]; omega
  have w4 : IntKind.u64.wrap ((L + 1074) * 4503599627370496 + (d0 : Int)) = (L + 1074) * 4503599627370496 + (d0 : Int) := by rw [IntKind.wrap_u64]; omega
  have w5 : IntKind.u64.wrap ((d1 : Int) * 4294967296) = (d1 : Int) * 4294967296 := by rw [IntKind.wrap_u64]; omega
  have w6 : IntKind.u64.wrap ((L + 1074) * 4503599627370496 + (d0 : Int) + (d1 : Int) * 4294967296) = (L + 1074) * 4503599627370496 + (d0 : Int) + (d1 : Int) * 4294967296 := by rw [IntKind.wrap_u64]; omega
  go_enter Try.func89, Try.ntmps89
  go_wp2_with fail
  refine (unhide HLen _ H.out).mono ?_
  rintro x w' ⟨rfl, rfl⟩
  go_wp2_with fail
  refine (shiftUp_at v N (e - L).toNat _ _ H.out (by omega) (by omega) (by show _ = _; omega)).mono ?_
  rintro x w1 ⟨v1, rfl, hd1, hb1⟩
  have HN1 := hide hd1
  have HB := hide hb1
  clear hd1 hb1
  go_wp2_with fail
  go_quiet ((first | (go_at_call_of 74 (Value.int IntKind.i64 0); exact Calls.quiet_of_same (digit_at v1 _ 0 0 _ _ HN1.out rfl HD0)) | (go_at_call_of 74 (Value.int IntKind.i64 1); exact Calls.quiet_of_same (digit_at v1 _ 1 1 _ _ HN1.out rfl HD1))))
  go_wp2_with fail
  go_ret
  exact ⟨rfl, below_drewN HB.out _⟩

set_option maxHeartbeats 2000000 in
theorem rounded_down (v : Value) (N d : Nat) (e L : Int) (more hf lo qo : Bool) (w : World) (h : DN w v N) (hb : nd N ≤ 1000000) (he : -10000000 ≤ e) (he' : e ≤ 10000000) (hL : Hid (L = lsb53 N e)) (hLe : e < L) (hLm : L + 1074 ≤ 3000) (hd : Hid (L - e = d))
    (hhf : Hid (((dgt (N / 2 ^ (d - 1)) 0 : Int) % 2 == 1) = hf)) (hlo : Hid (lostB N (d - 1) = lo)) (hqo : Hid (((N / 2 ^ d : Nat) : Int) % 2 = if qo then 1 else 0)) :
    Calls Try.prog 89 #[v, .int .i64 e, .bool more, .int .i64 53, .int .i64 (-1074)] w fun x w' => x = .returned (.int .u64 ((L + 1074) * 4503599627370496 + (((N / 2 ^ d : Nat) : Int) + if hf && (lo || more || qo) then 1 else 0))) ∧ Below w.heap.size w w' := by
  have hbl := bl_nd N
  have HQ : N / 2 ^ d < 9007199254740992 := by
    have := kept_down (N := N) (e := e) (by rw [← hL.out]; exact hLe)
    rw [← hL.out, show (L - e).toNat = d by have := hd.out; omega] at this; exact this
  have hLl : -1074 ≤ L := by rw [hL.out]; exact lsb_ge N e
  have hmax : max ((bl N : Int) - 53 + e) (-1074) = L := by rw [hL.out]; rfl
  have h2 := two_digits (K := N / 2 ^ d) (by omega)
  have b0 := dgt_lt (N / 2 ^ d) 0
  have b1 : dgt (N / 2 ^ d) 1 ≤ 2097152 := by omega
  have bh := dgt_lt (N / 2 ^ (d - 1)) 0
  generalize hQ : N / 2 ^ d = Q at hqo HQ h2
  have HQe : Hid (N / 2 ^ d = Q) := hQ
  rw [hQ] at b0 b1
  generalize hq0 : dgt Q 0 = q0 at h2 b0
  generalize hq1 : dgt Q 1 = q1 at h2 b1
  have hh := hhf.out
  generalize hg0 : dgt (N / 2 ^ (d - 1)) 0 = g0 at bh hh
  have HD0 : Hid ((dgt Q 0 : Int) = q0) := by show _ = _; rw [hq0]
  have HD1 : Hid ((dgt Q 1 : Int) = q1) := by show _ = _; rw [hq1]
  have HH : Hid ((dgt (N / 2 ^ (d - 1)) 0 : Int) = g0) := by show _ = _; rw [hg0]
  clear hq0 hq1 hg0
  have hQq : (q0 : Int) + (q1 : Int) * 4294967296 = (Q : Int) := by omega
  clear hQ h2
  have H := hide h
  clear h
  have HLen := hide (fun w (h : DN w v N) => len_any v N w h (by omega))
  have HE := hide (show L - e = (d : Int) from hd.out)
  have HE1 : Hid (L - e - 1 = ((d - 1 : Nat) : Int)) := by show _ = _; have := hd.out; omega
  generalize hB : (bl N : Int) = B at hmax HLen
  have hB0 : 0 ≤ B := by omega
  have hB1 : B ≤ 32000000 := by omega
  clear hB hbl
  have hq2 : ((Q : Int) % 2 == 1) = qo := by have := hqo.out; cases qo <;> simp at this ⊢ <;> omega
  cases hf <;> cases lo <;> cases more <;> cases qo
  all_goals
    simp only [Bool.false_and, Bool.true_and, Bool.or_true, Bool.or_false, Bool.false_eq_true, if_true, if_false, Int.add_zero]
    go_enter Try.func89, Try.ntmps89
    go_wp2_with fail
    refine (unhide HLen _ H.out).mono ?_
    rintro x w' ⟨rfl, rfl⟩
    go_wp2_with fail
    refine (shiftDown_at v N d _ _ H.out (by omega) HE).mono ?_
    rintro x w1 ⟨v1, rfl, hd1, hb1⟩
    have HN1 := hide hd1
    have HB := hide hb1
    clear hd1 hb1
    go_wp2_with fail
    refine (shiftDown_at v N (d - 1) _ _ (H.out.below HB.out) (by omega) HE1).mono ?_
    rw [hlo.out]
    rintro x w2 ⟨v2, rfl, hd2, hb2⟩
    have HN2 := hide hd2
    have HN1 := hide (HN1.out.below hb2)
    have HB := hide (HB.out.trans (hb2.mono HB.out.size))
    clear hd2 hb2
    rw [HQe.out] at HN1
    go_wp2_with fail
    refine (digit_at v1 Q 0 0 q0 _ HN1.out rfl HD0).mono ?_
    rintro x w' ⟨rfl, rfl⟩
    go_wp2_with fail
    refine (digit_at v1 Q 1 1 q1 _ HN1.out rfl HD1).mono ?_
    rintro x w' ⟨rfl, rfl⟩
    go_wp2_with fail
    refine (digit_at v2 _ 0 0 g0 _ HN2.out rfl HH).mono ?_
    rintro x w' ⟨rfl, rfl⟩
    go_wp2_with fail
    go_ret
    exact ⟨ret_int (by omega), HB.out⟩

theorem half_odd (N k : Nat) : ((dgt (N / 2 ^ k) 0 : Int) % 2 == 1) = decide (N / 2 ^ k % 2 = 1) := by
  unfold dgt
  rw [Nat.mul_zero, Nat.pow_zero, Nat.div_one]
  generalize N / 2 ^ k = z
  by_cases h : z % 2 = 1
  · rw [decide_eq_true h]; simp; omega
  · rw [decide_eq_false h]; simp; omega

theorem rounded_any (v : Value) (N : Nat) (e : Int) (more : Bool) (w : World) (h : DN w v N) (hb : nd N ≤ 1000000) (he : -10000000 ≤ e) (he' : e ≤ 10000000) (hLm : lsb53 N e + 1074 ≤ 3000) :
    Calls Try.prog 89 #[v, .int .i64 e, .bool more, .int .i64 53, .int .i64 (-1074)] w fun x w' => x = .returned (.int .u64 (rnd53 N e more : Int)) ∧ Below w.heap.size w w' := by
  by_cases hc : lsb53 N e ≤ e
  · exact rounded_up v N e (lsb53 N e) more w h hb he he' rfl hc hLm
  · have hl := lsb_ge N e
    have key := rounded_down v N (lsb53 N e - e).toNat e (lsb53 N e) more (decide (N / 2 ^ ((lsb53 N e - e).toNat - 1) % 2 = 1)) (lostB N ((lsb53 N e - e).toNat - 1)) (decide (N / 2 ^ (lsb53 N e - e).toNat % 2 = 1)) w h hb he he' rfl (by omega) hLm (by show _ = _; omega) (half_odd N _) rfl
      (by show _ = _; generalize N / 2 ^ (lsb53 N e - e).toNat = z; by_cases h : z % 2 = 1 <;> simp [h] <;> omega)
    have ev : (rnd53 N e more : Int) = (lsb53 N e + 1074) * 4503599627370496 + (((N / 2 ^ (lsb53 N e - e).toNat : Nat) : Int) + if decide (N / 2 ^ ((lsb53 N e - e).toNat - 1) % 2 = 1) && (lostB N ((lsb53 N e - e).toNat - 1) || more || decide (N / 2 ^ (lsb53 N e - e).toNat % 2 = 1)) then 1 else 0) := by
      unfold rnd53 kept53 keptD lostB
      rw [if_neg hc]
      have e1 : (((decide (N / 2 ^ ((lsb53 N e - e).toNat - 1) % 2 = 1) && (decide (N % 2 ^ ((lsb53 N e - e).toNat - 1) ≠ 0) || more || decide (N / 2 ^ (lsb53 N e - e).toNat % 2 = 1))) = true) ↔ (N / 2 ^ ((lsb53 N e - e).toNat - 1) % 2 = 1 ∧ (N % 2 ^ ((lsb53 N e - e).toNat - 1) ≠ 0 ∨ more = true ∨ N / 2 ^ (lsb53 N e - e).toNat % 2 = 1))) := by
        simp only [Bool.and_eq_true, Bool.or_eq_true, decide_eq_true_eq, or_assoc]
      simp only [e1]
      split <;> omega
    rw [ev]; exact key

end Go.Proofs.Ytbkmbdbjeiffpaa
namespace Go.Proofs.Ytbkmbdbjeiffpaa
open Go.RowKit

/-- A real of the document's as a value. -/
def NumV (neg : Bool) (v : Value) (e : Int) : Value := .agg #[.bool neg, v, .int .i64 e]

def madeI (neg : Bool) (u : Int) : Int := if neg then min u 9218868437227405312 + 9223372036854775808 else min u 9218868437227405312

set_option maxHeartbeats 400000 in
theorem made_any (neg : Bool) (u : Int) (w : World) (h0 : 0 ≤ u) (h1 : u < 18446744073709551616) :
    Calls Try.prog 88 #[.bool neg, .int .u64 u] w fun e w' => e = .returned (.int .u64 (madeI neg u)) ∧ w' = w := by
  unfold madeI
  cases neg
  · simp only [Bool.false_eq_true, if_false]
    go_enter Try.func88, Try.ntmps88
    go_wp2
    go_ret
    exact ⟨rfl, rfl⟩
  · simp only [if_true]
    go_enter Try.func88, Try.ntmps88
    go_wp2
    go_ret
    exact ⟨ret_int (by omega), rfl⟩

set_option maxHeartbeats 400000 in
theorem zero_any (neg : Bool) (v : Value) (e : Int) (N : Nat) (w : World) (h : DN w v N) :
    Calls Try.prog 51 #[NumV neg v e] w fun x w' => x = .returned (.bool (decide (N = 0))) ∧ Below w.heap.size w w' := by
  unfold NumV
  rcases h with ⟨h0, p, c, rfl⟩ | ⟨h0, g, c, rfl, hc, hg, hr⟩
  · go_enter Try.func51, Try.ntmps51
    go_wp2
    go_ret
    exact ⟨ret_bool (by simp [h0]), (Below.refl _ _).alloc (Nat.le_refl _) _⟩
  · have h1 := nd_pos h0
    have h2 : ((nd N : Int) == 0) = false := by simp; omega
    clear hr
    go_enter Try.func51, Try.ntmps51
    go_wp2
    go_ret
    exact ⟨ret_bool (by simp [h0]), (Below.refl _ _).alloc (Nat.le_refl _) _⟩

def farB (N : Nat) (e : Int) : Bool := decide (1100 < (bl N : Int) + e) || decide ((bl N : Int) + e < -1200)

theorem len_at (v : Value) (N : Nat) (B : Int) (w : World) (h : DN w v N) (hb : nd N ≤ 100000000) (hB : Hid ((bl N : Int) = B)) :
    Calls Try.prog 58 #[v] w fun e w' => e = .returned (.int .i64 B) ∧ w' = w := by
  rw [← hB.out]; exact len_any v N w h hb

set_option maxHeartbeats 400000 in
theorem far_any (neg : Bool) (v : Value) (e : Int) (N : Nat) (w : World) (h : DN w v N) (hb : nd N ≤ 1000000) (he : -10000000 ≤ e) (he' : e ≤ 10000000) :
    Calls Try.prog 87 #[NumV neg v e] w fun x w' => x = .returned (.bool (farB N e)) ∧ Below w.heap.size w w' := by
  unfold NumV farB
  have hbl := bl_nd N
  have HA : Hid (∀ n, DN ((w.alloc (.cells #[.bool neg, v, .int .i64 e] 56)).drewN n) v N) := fun n => h.below (below_drewN ((Below.refl _ _).alloc (Nat.le_refl _) _) n)
  generalize hB : (bl N : Int) = B
  have HB := hide hB
  have hB0 : 0 ≤ B := by omega
  have hB1 : B ≤ 32000000 := by omega
  clear hB hbl h
  have w1 : IntKind.i64.wrap (B + e) = B + e := by rw [IntKind.wrap_i64]; omega
  by_cases h1 : 1100 < B + e
  · have d1 : decide (1100 < B + e) = true := by simpa using h1
    rw [d1, Bool.true_or]
    go_enter Try.func87, Try.ntmps87
    go_wp2_with fail
    go_quiet ((go_at_call 58; exact Calls.quiet_of_same (len_at v N B _ (HA.out _) (by omega) HB)))
    go_wp2_with fail
    go_ret
    exact ⟨rfl, below_drewN ((Below.refl _ _).alloc (Nat.le_refl _) _) _⟩
  · have d1 : decide (1100 < B + e) = false := by simpa using h1
    rw [d1, Bool.false_or]
    go_enter Try.func87, Try.ntmps87
    go_wp2_with fail
    go_quiet ((go_at_call 58; exact Calls.quiet_of_same (len_at v N B _ (HA.out _) (by omega) HB)))
    go_wp2_with fail
    go_ret
    exact ⟨rfl, below_drewN ((Below.refl _ _).alloc (Nat.le_refl _) _) _⟩

/-- The bits of the number nearest to N * 2^e (and a little more). -/
def nearM (neg : Bool) (N : Nat) (e : Int) (more : Bool) : Int :=
  if N = 0 then 0 else if farB N e then (if 0 < e ∨ 0 < (bl N : Int) + e then madeI neg 9218868437227405312 else madeI neg 0) else madeI neg (rnd53 N e more)

theorem bcell {W w1 : World} (hb : Below W.heap.size W w1) : (∀ b o, b < W.heap.size → w1.cell? ⟨b, o, none⟩ = W.cell? ⟨b, o, none⟩) ∧ (∀ b o, b < W.heap.size → w1.frozen? ⟨b, o, none⟩ = W.frozen? ⟨b, o, none⟩) :=
  ⟨fun b o h => hb.cell (p := ⟨b, o, none⟩) h, fun b o h => hb.frozen (p := ⟨b, o, none⟩) h⟩

theorem zero_at (neg : Bool) (v : Value) (e : Int) (N : Nat) (z : Bool) (w : World) (h : DN w v N) (hz : Hid (decide (N = 0) = z)) :
    Calls Try.prog 51 #[.agg #[.bool neg, v, .int .i64 e]] w fun x w' => x = .returned (.bool z) ∧ Below w.heap.size w w' := by
  rw [← hz.out]; exact zero_any neg v e N w h
theorem far_at (neg : Bool) (v : Value) (e : Int) (N : Nat) (z : Bool) (w : World) (h : DN w v N) (hb : nd N ≤ 1000000) (he : -10000000 ≤ e) (he' : e ≤ 10000000) (hz : Hid (farB N e = z)) :
    Calls Try.prog 87 #[.agg #[.bool neg, v, .int .i64 e]] w fun x w' => x = .returned (.bool z) ∧ Below w.heap.size w w' := by
  rw [← hz.out]; exact far_any neg v e N w h hb he he'

set_option maxHeartbeats 400000 in
theorem nearMore_zero (neg more : Bool) (v : Value) (e : Int) (w : World) (h : DN w v 0) :
    Calls Try.prog 64 #[NumV neg v e, .bool more] w fun x w' => x = .returned (.int .u64 0) ∧ Below w.heap.size w w' := by
  unfold NumV
  have H1 := hide (h.below ((Below.refl w.heap.size w).alloc (Nat.le_refl _) (.cells #[.bool neg, v, .int .i64 e] 56)))
  clear h
  go_enter Try.func64, Try.ntmps64
  go_wp2_with fail
  refine (zero_at _ _ _ 0 true _ H1.out rfl).mono ?_
  rintro x w1 ⟨rfl, hb1⟩
  have HB := hide hb1
  clear hb1
  go_wp2_with fail
  go_ret
  exact ⟨rfl, ((Below.refl _ _).alloc (Nat.le_refl _) _).trans (HB.out.mono (by simp))⟩

/-- The box's three cells, in a later world. -/
theorem box_cells {w w1 : World} {neg : Bool} {v : Value} {e : Int} (hb : Below (w.alloc (.cells #[.bool neg, v, .int .i64 e] 56)).heap.size (w.alloc (.cells #[.bool neg, v, .int .i64 e] 56)) w1) :
    w1.cell? ⟨w.heap.size, 0, none⟩ = some (.bool neg) ∧ w1.cell? ⟨w.heap.size, 1, none⟩ = some v ∧ w1.cell? ⟨w.heap.size, 2, none⟩ = some (.int .i64 e) := by
  refine ⟨?_, ?_, ?_⟩
  · rw [hb.cell (p := ⟨w.heap.size, 0, none⟩) (by simp)]; simp
  · rw [hb.cell (p := ⟨w.heap.size, 1, none⟩) (by simp)]; simp
  · rw [hb.cell (p := ⟨w.heap.size, 2, none⟩) (by simp)]; simp

set_option maxHeartbeats 800000 in
theorem nearMore_in (neg more : Bool) (v : Value) (e : Int) (N : Nat) (w : World) (h : DN w v N) (hN : N ≠ 0) (hb : nd N ≤ 1000000) (he : -10000000 ≤ e) (he' : e ≤ 10000000) (hf : Hid (farB N e = false)) (R : Int) (hR : Hid ((rnd53 N e more : Int) = R)) (hR0 : 0 ≤ R) (hR1 : R < 18446744073709551616) (hLm : lsb53 N e + 1074 ≤ 3000) :
    Calls Try.prog 64 #[NumV neg v e, .bool more] w fun x w' => x = .returned (.int .u64 (madeI neg R)) ∧ Below w.heap.size w w' := by
  unfold NumV
  have HBox : Hid (Below w.heap.size w (w.alloc (.cells #[.bool neg, v, .int .i64 e] 56))) := (Below.refl w.heap.size w).alloc (Nat.le_refl _) _
  have H1 := hide (h.below HBox.out)
  have HN := hide hN
  have HLm := hide hLm
  clear h hN hLm
  go_enter Try.func64, Try.ntmps64
  go_wp2_with fail
  refine (zero_at _ _ _ N false _ H1.out (decide_eq_false HN.out)).mono ?_
  rintro x w1 ⟨rfl, hb1⟩
  have HB1 := hide hb1
  have H2 := hide (H1.out.below hb1)
  obtain ⟨c0, c1, c2⟩ := box_cells hb1
  clear hb1
  go_wp2_with fail
  refine (far_at _ _ _ N false _ H2.out hb he he' hf).mono ?_
  rintro x w2 ⟨rfl, hb2⟩
  have hz : w.heap.size < w1.heap.size := by have := HB1.out.size; simp at this; omega
  have H3 := hide (H2.out.below hb2)
  have d0 : w2.cell? ⟨w.heap.size, 0, none⟩ = some (.bool neg) := (hb2.cell (p := ⟨w.heap.size, 0, none⟩) hz).trans c0
  have d1 : w2.cell? ⟨w.heap.size, 1, none⟩ = some v := (hb2.cell (p := ⟨w.heap.size, 1, none⟩) hz).trans c1
  have d2 : w2.cell? ⟨w.heap.size, 2, none⟩ = some (.int .i64 e) := (hb2.cell (p := ⟨w.heap.size, 2, none⟩) hz).trans c2
  have HB2 : Hid (Below w.heap.size w w2) := (HBox.out.trans (HB1.out.mono (by simp))).trans (hb2.mono (by omega))
  have hz2 : w.heap.size < w2.heap.size := by have := hb2.size; omega
  have HRd : Hid (∀ w', DN w' v N → Calls Try.prog 89 #[v, .int .i64 e, .bool more, .int .i64 53, .int .i64 (-1074)] w' fun x w'' => x = .returned (.int .u64 R) ∧ Below w'.heap.size w' w'') := fun w' h => by
    have := rounded_any v N e more w' h hb he he' HLm.out
    rw [hR.out] at this; exact this
  clear hb2 c0 c1 c2
  go_wp2_with fail
  go_region_held3 (fun w' => w'.cell? ⟨w.heap.size, 0, none⟩ = some (.bool neg) ∧ w'.cell? ⟨w.heap.size, 1, none⟩ = some v ∧ w'.cell? ⟨w.heap.size, 2, none⟩ = some (.int .i64 e)) (first | exact ⟨d0, d1, d2⟩ | exact ⟨(hb3.cell (p := ⟨w.heap.size, 0, none⟩) hz2).trans d0, (hb3.cell (p := ⟨w.heap.size, 1, none⟩) hz2).trans d1, (hb3.cell (p := ⟨w.heap.size, 2, none⟩) hz2).trans d2⟩ | go_keep) (first | ((go_at_call 89; refine (HRd.out _ (by exact H3.out)).mono ?_; rintro x w3 ⟨rfl, hb3⟩)) | ((go_at_call 88; refine (made_any _ _ _ hR0 hR1).mono ?_; rintro x w4 ⟨rfl, rfl⟩)))
  go_wp2_with fail
  go_ret
  exact ⟨rfl, (HB2.out.drew).trans (hb3.mono (by have h9 : w.heap.size < w2.drew.heap.size := hz2; omega))⟩

set_option maxHeartbeats 1600000 in
theorem nearMore_far (neg more : Bool) (v : Value) (e : Int) (N : Nat) (w : World) (h : DN w v N) (hN : N ≠ 0) (hb : nd N ≤ 1000000) (he : -10000000 ≤ e) (he' : e ≤ 10000000) (hf : Hid (farB N e = true)) :
    Calls Try.prog 64 #[NumV neg v e, .bool more] w fun x w' => x = .returned (.int .u64 (if 0 < e ∨ 0 < (bl N : Int) + e then madeI neg 9218868437227405312 else madeI neg 0)) ∧ Below w.heap.size w w' := by
  unfold NumV
  have HBox : Hid (Below w.heap.size w (w.alloc (.cells #[.bool neg, v, .int .i64 e] 56))) := (Below.refl w.heap.size w).alloc (Nat.le_refl _) _
  have H1 := hide (h.below HBox.out)
  have HN := hide hN
  have hbl := bl_nd N
  clear h hN
  generalize hB : (bl N : Int) = B
  have HB := hide hB
  have hB0 : 0 ≤ B := by omega
  have hB1 : B ≤ 32000000 := by omega
  clear hB hbl
  have w1 : IntKind.i64.wrap (B + e) = B + e := by rw [IntKind.wrap_i64]; omega
  have hcase : (0 < e ∧ decide (0 < e) = true) ∨ (decide (0 < e) = false ∧ 0 < B + e ∧ ¬ 0 < e) ∨ (decide (0 < e) = false ∧ ¬ 0 < B + e ∧ ¬ 0 < e) := by
    by_cases h1 : 0 < e
    · exact Or.inl ⟨h1, by simpa using h1⟩
    · by_cases h2 : 0 < B + e
      · exact Or.inr (Or.inl ⟨by simpa using h1, h2, h1⟩)
      · exact Or.inr (Or.inr ⟨by simpa using h1, h2, h1⟩)
  rcases hcase with ⟨g1, g2⟩ | ⟨g1, g2, g3⟩ | ⟨g1, g2, g3⟩
  all_goals first | rw [if_pos (Or.inl g1)] | rw [if_pos (Or.inr g2)] | rw [if_neg (fun h => h.elim g3 g2)]
  all_goals
    go_enter Try.func64, Try.ntmps64
    go_wp2_with fail
    refine (zero_at _ _ _ N false _ H1.out (decide_eq_false HN.out)).mono ?_
    rintro x w1 ⟨rfl, hb1⟩
    have HB1 := hide hb1
    have H2 := hide (H1.out.below hb1)
    obtain ⟨c0, c1, c2⟩ := box_cells hb1
    clear hb1
    go_wp2_with fail
    refine (far_at _ _ _ N true _ H2.out hb he he' hf).mono ?_
    rintro x w2 ⟨rfl, hb2⟩
    have hz : w.heap.size < w1.heap.size := by have := HB1.out.size; simp at this; omega
    have H3 := hide (H2.out.below hb2)
    have d0 : w2.cell? ⟨w.heap.size, 0, none⟩ = some (.bool neg) := (hb2.cell (p := ⟨w.heap.size, 0, none⟩) hz).trans c0
    have d1 : w2.cell? ⟨w.heap.size, 1, none⟩ = some v := (hb2.cell (p := ⟨w.heap.size, 1, none⟩) hz).trans c1
    have d2 : w2.cell? ⟨w.heap.size, 2, none⟩ = some (.int .i64 e) := (hb2.cell (p := ⟨w.heap.size, 2, none⟩) hz).trans c2
    have HB2 : Hid (Below w.heap.size w w2) := (HBox.out.trans (HB1.out.mono (by simp))).trans (hb2.mono (by omega))
    clear hb2 c0 c1 c2
    go_wp2_with fail
    go_quiet ((go_at_call 58; exact Calls.quiet_of_same (len_at v N B _ H3.out (by omega) HB)))
    go_wp2_with (go_at_call 88; refine (made_any _ _ _ (by omega) (by omega)).mono ?_; rintro x w4 ⟨rfl, rfl⟩)
    go_ret
    exact ⟨rfl, below_drewN HB2.out _⟩

theorem lsb_near {N : Nat} {e : Int} (h : farB N e = false) : lsb53 N e + 1074 ≤ 3000 := by
  unfold farB at h
  rw [Bool.or_eq_false_iff] at h
  have h1 := of_decide_eq_false h.1
  unfold lsb53; omega
theorem rnd_lt {N : Nat} {e : Int} {more : Bool} (h : farB N e = false) : rnd53 N e more < 18446744073709551616 := by
  have h1 := lsb_near h
  have h2 := kept_le N e more
  have h3 := lsb_ge N e
  unfold rnd53; omega

theorem nearMore_any (neg more : Bool) (v : Value) (e : Int) (N : Nat) (w : World) (h : DN w v N) (hb : nd N ≤ 1000000) (he : -10000000 ≤ e) (he' : e ≤ 10000000) :
    Calls Try.prog 64 #[NumV neg v e, .bool more] w fun x w' => x = .returned (.int .u64 (nearM neg N e more)) ∧ Below w.heap.size w w' := by
  unfold nearM
  by_cases h0 : N = 0
  · subst h0; rw [if_pos rfl]; exact nearMore_zero neg more v e w h
  · rw [if_neg h0]
    cases hf : farB N e
    · simp only [Bool.false_eq_true, if_false]
      have h1 := rnd_lt (more := more) hf
      exact nearMore_in neg more v e N w h h0 hb he he' hf _ rfl (Int.natCast_nonneg _) (by omega) (lsb_near hf)
    · simp only [if_true]; exact nearMore_far neg more v e N w h h0 hb he he' hf

set_option maxHeartbeats 400000 in
theorem near_num (neg : Bool) (v : Value) (e : Int) (N : Nat) (w : World) (h : DN w v N) (hb : nd N ≤ 1000000) (he : -10000000 ≤ e) (he' : e ≤ 10000000) :
    Calls Try.prog 45 #[NumV neg v e] w fun x w' => x = .returned (.int .u64 (nearM neg N e false)) ∧ Below w.heap.size w w' := by
  have HBox : Hid (Below w.heap.size w (w.alloc (.cells #[.bool neg, v, .int .i64 e] 56))) := (Below.refl w.heap.size w).alloc (Nat.le_refl _) _
  have HM := hide (nearMore_any neg false v e N _ (h.below HBox.out) hb he he')
  unfold NumV at HM ⊢
  clear h
  go_enter Try.func45, Try.ntmps45
  go_wp2_with fail
  refine HM.out.mono ?_
  rintro x w1 ⟨rfl, hb1⟩
  have HB1 := hide hb1
  clear hb1
  go_wp2_with fail
  go_ret
  exact ⟨rfl, HBox.out.trans (HB1.out.mono (by simp))⟩

end Go.Proofs.Ytbkmbdbjeiffpaa
