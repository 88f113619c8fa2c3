/- The contract of the document's Prod of two numbers, and of Value. -/
import Derived.Test.YtdmldggjgaaliaaGreatRefAcc3
import Derived.Test.YtdmldggjgaaliaaGreatRefSub
namespace Go.Proofs.YtdmldggjgaaliaaGreat
open Go.RowKit

/-- The real of a sum, in its box. -/
def Three (w' : World) (B : Nat) (neg : Bool) (v : Value) (e : Int) : Prop :=
  w'.cell? ⟨B, 1, none⟩ = some (.bool neg) ∧ w'.cell? ⟨B, 2, none⟩ = some v ∧ w'.cell? ⟨B, 3, none⟩ = some (.int .i64 e)
theorem Cells8.three {w1 w : World} {s : Int} {neg : Bool} {v : Value} {e : Int} (h : Cells8 w1 w s neg v e) : Three w1 w.heap.size neg v e := ⟨h.c1, h.c2, h.c3⟩
theorem three_put {w : World} {B : Nat} {neg neg' : Bool} {v v' : Value} {e e' s' : Int} (h : Three w B neg v e) : Three (put4 w (B + 1) s' neg' v' e') B neg v e := by
  have n0 : B + 1 ≠ B := by omega
  have f : ∀ (i j : Nat) (w : World) (x : Value), (w.setCell ⟨B + 1, i, none⟩ x).cell? ⟨B, j, none⟩ = w.cell? ⟨B, j, none⟩ := fun i j w x => World.cell?_setCell_far w ⟨B + 1, i, none⟩ ⟨B, j, none⟩ x n0
  obtain ⟨a, b, c⟩ := h
  refine ⟨?_, ?_, ?_⟩
  · rw [f, f, f, f]; exact a
  · rw [f, f, f, f]; exact b
  · rw [f, f, f, f]; exact c
theorem e_rng {E ex ey : Int} {N : Nat} (h : E = ex + ey ∨ (E = 0 ∧ N = 0)) (l1 : -1074 ≤ ex) (l2 : ex ≤ 971) (l3 : -1074 ≤ ey) (l4 : ey ≤ 971) : -2148 ≤ E ∧ E ≤ 2000 := by
  rcases h with h | ⟨h, _⟩ <;> omega
theorem prod_unit {x y X Y : Nat} {nx ny : Bool} {ex ey : Int} (hX : OfR x nx X ex) (hY : OfR y ny Y ey) (hx64 : x < 18446744073709551616) (hy64 : y < 18446744073709551616) (hxn : NumB x) (hyn : NumB y) {neg N E} (hs : sg neg N = sg nx X * sg ny Y) (hE : E = ex + ey ∨ (E = 0 ∧ N = 0)) :
    sg neg N * ((2 ^ (E + 2148).toNat : Nat) : Int) = splM (x : Int) * splM (y : Int) * 2 ^ (splE (x : Int) + splE (y : Int) + 2148).toNat ∧ -2148 ≤ E ∧ E ≤ 2000 ∧ nd N ≤ 1000 ∧ ∃ K, K = 4200 ∧ (sg neg N * ((2 ^ (E + 2148).toNat : Nat) : Int)).natAbs ≤ 1 * 2 ^ K := by
  obtain ⟨_, _, kx1, kx2⟩ := split_at hX hx64 hxn
  obtain ⟨_, _, ky1, ky2⟩ := split_at hY hy64 hyn
  have hN : N = X * Y := by
    have := congrArg Int.natAbs hs
    rw [Int.natAbs_mul, sgn_abs, sgn_abs, sgn_abs] at this; exact this
  have l1 := hX.lo
  have l2 := hX.hi
  have l3 := hY.lo
  have l4 := hY.hi
  have hlt : N < 9007199254740992 * 9007199254740992 := by rw [hN]; exact Nat.mul_lt_mul'' hX.lt hY.lt
  have hnd : nd N ≤ 1000 := Nat.le_trans (nd_mono (k := 4) (by omega)) (by omega)
  obtain ⟨r1, r2⟩ := e_rng hE l1 l2 l3 l4
  refine ⟨?_, r1, r2, hnd, 4200, rfl, ?_⟩
  · by_cases h0 : N = 0
    · rw [h0, sg_zero_any, Int.zero_mul]
      have : X = 0 ∨ Y = 0 := by rw [hN] at h0; exact Nat.mul_eq_zero.1 h0
      rcases this with c | c
      · rw [kx2 c, Int.zero_mul, Int.zero_mul]
      · rw [ky2 c, Int.mul_zero, Int.zero_mul]
    · have hX0 : X ≠ 0 := fun c => h0 (by rw [hN, c, Nat.zero_mul])
      have hY0 : Y ≠ 0 := fun c => h0 (by rw [hN, c, Nat.mul_zero])
      have hEE : E = ex + ey := by
        rcases hE with h | ⟨_, h⟩
        · exact h
        · exact absurd h h0
      rw [hs, hEE, (kx1 hX0).1, (kx1 hX0).2, (ky1 hY0).1, (ky1 hY0).2, Int.natCast_pow]; rfl
  · obtain ⟨K, hK⟩ : ∃ K : Nat, K = 4200 := ⟨_, rfl⟩
    rw [← hK, Int.natAbs_mul, sgn_abs, Int.natAbs_natCast, Nat.one_mul]
    have h3 : N * 2 ^ (E + 2148).toNat ≤ 2 ^ 106 * 2 ^ (E + 2148).toNat := Nat.mul_le_mul_right _ (by omega)
    by_cases h0 : N = 0
    · rw [h0, Nat.zero_mul]; exact Nat.zero_le _
    · have hEE : E = ex + ey := by
        rcases hE with h | ⟨_, h⟩
        · exact h
        · exact absurd h h0
      rw [← Nat.pow_add] at h3
      exact Nat.le_trans h3 (Nat.pow_le_pow_right (by decide) (by omega))

set_option maxRecDepth 10000 in
set_option maxHeartbeats 3200000 in
theorem dProd_num (neg : Bool) (v : Value) (M : Nat) (e : Int) (N : Int) (k x y : Nat) (u t : Int) (w : World) (hd : DN w v M) (hv : DV 0 neg M e N k) (hk : k ≤ 900) (h : U64 u) (h' : U64 t) (hu : Hid (u = (x : Int))) (ht : Hid (t = (y : Int))) (ho1 : splOk u = true) (ho2 : splOk t = true) :
    Calls Tryz.prog 24 #[AV 0 neg v e, .int .u64 u, .int .u64 t] w (AddEnd w v M (A.St.merge ⟨0, N⟩ (A.prodG x y)) (k + 1)) := by
  have HN1 := hide (refNumber_any u · h)
  have HN2 := hide (refNumber_any t · h')
  rw [ho1] at HN1
  rw [ho2] at HN2
  have nb : ∀ {z : Nat} {b : Int}, b = (z : Int) → splOk b = true → NumB z := fun {z b} e o => by
    unfold splOk at o; rw [e, szI_nat, decide_eq_true_eq] at o; unfold NumB; omega
  have hxn := nb hu.out ho1
  have hyn := nb ht.out ho2
  have hx64 : x < 18446744073709551616 := by have := h.2; rw [hu.out] at this; omega
  have hy64 : y < 18446744073709551616 := by have := h'.2; rw [ht.out] at this; omega
  have HO1 := hide fun w => of_num x u w hu h hxn
  have HO2 := hide fun w => of_num y t w ht h' hyn
  obtain ⟨tg, htg⟩ : ∃ tg, A.St.merge ⟨0, N⟩ (A.prodG x y) = tg := ⟨_, rfl⟩
  have HT : Hid (tg = ⟨0, N + splM (x : Int) * splM (y : Int) * 2 ^ (splE (x : Int) + splE (y : Int) + 2148).toNat⟩) := by
    show _ = _
    rw [← htg]; unfold A.prodG
    rw [← hu.out, ← ht.out, ho1, ho2]
    show A.St.merge ⟨0, N⟩ (A.prodS u t) = _
    unfold A.prodS
    rw [merge_num0, if_pos rfl]
  rw [htg]
  obtain ⟨p, l, c, rfl⟩ := hd.shape
  have HD := hide fun w' (hb : Below w.heap.size w w') => hd.below hb
  have HV := hide hv
  have H8 := hide (cells8_at w 0 neg (.slice p l c) e)
  have HB := hide (boxA2_below w 0 neg (.slice p l c) e)
  have HZ := hide (boxA2_size w 0 neg (.slice p l c) e)
  have HXY := hide (And.intro (And.intro hxn hx64) (And.intro hyn hy64))
  obtain ⟨c0, c1, c2, c3, d0, d1, d2, d3, f0, f1, f2, f3⟩ := H8.out
  have S0 : Hid (Three (boxA2 w 0 neg (.slice p l c) e) w.heap.size neg (.slice p l c) e) := H8.out.three
  clear h h' htg hd hv hxn hx64 hyn hy64 ho1 ho2 nb
  go_enter Tryz.func24, Tryz.ntmps24
  go_wp2_with (first | (go_at_call_of 45 (Value.int IntKind.u64 u); refine (turnedR (HN1.out _)).mono ?_; rintro x w' ⟨rfl, rfl⟩) | (go_at_call_of 45 (Value.int IntKind.u64 t); refine (turnedR (HN2.out _)).mono ?_; rintro x w' ⟨rfl, rfl⟩))
  go_region_held3 (fun w' => w'.cell? ⟨w.heap.size, 1, none⟩ = some (.bool neg) ∧ w'.cell? ⟨w.heap.size, 2, none⟩ = some (.slice p l c) ∧ w'.cell? ⟨w.heap.size, 3, none⟩ = some (.int .i64 e)) (first | exact S0.out | exact S3.out | exact S4.out | exact S5.out | exact S6.out | exact three_put S6.out | go_keep) (first | ((go_at_call_of 49 (Value.int IntKind.u64 u); refine (HO1.out _).mono ?_; rintro r w3 ⟨nx, vx, X, ex, rfl, hdx, hX, hb3⟩; obtain ⟨px, lx, cx, rfl⟩ := hdx.shape; have HB3 := hide (HB.out.drew.trans (hb3.mono (show w.heap.size ≤ (boxA2 w 0 neg (.slice p l c) e).heap.size by rw [HZ.out]; omega))); have G8 := hide (Cells8.below (cells8_drew H8.out) hb3 (show w.heap.size + 1 < (boxA2 w 0 neg (.slice p l c) e).heap.size by rw [HZ.out]; omega)); have hz3 : w.heap.size + 2 ≤ w3.heap.size := (by have h9 := hb3.size; have h8 : (boxA2 w 0 neg (.slice p l c) e).heap.size ≤ w3.heap.size := h9; rw [HZ.out] at h8; exact h8); have HDx := hide hdx; have HOX := hide hX; have S3 := hide G8.out.three; clear hb3 hdx hX)) | ((go_at_call_of 49 (Value.int IntKind.u64 t); refine (HO2.out _).mono ?_; rintro r w4 ⟨ny, vy, Y, ey, rfl, hdy, hY, hb4⟩; obtain ⟨py, ly, cy, rfl⟩ := hdy.shape; have HB4 := hide (HB3.out.trans (hb4.mono HB3.out.size)); have I8 := hide (G8.out.below hb4 (show w.heap.size + 1 < w3.heap.size by omega)); have hz4 : w.heap.size + 2 ≤ w4.heap.size := Nat.le_trans hz3 hb4.size; have HDx4 := hide (HDx.out.below hb4); have HDy := hide hdy; have HOY := hide hY; have S4 := hide I8.out.three; clear hb4 hdy hY)) | ((go_at_call 48; refine (times_any nx ny (.slice px lx cx) (.slice py ly cy) ex ey X Y w4 HDx4.out HDy.out (by have := nd_two HOX.out.lt; omega) (by have := nd_two HOY.out.lt; omega) (by have := HOX.out.lo; omega) (by have := HOX.out.hi; omega) (by have := HOY.out.lo; omega) (by have := HOY.out.hi; omega)).mono ?_; rintro r w5 ⟨nt, vt, Tt, et, rfl, hdt, hft, hst, hEt, hb5⟩; obtain ⟨pt, lt, ct, rfl⟩ := hdt.shape; have HPU := hide (prod_unit HOX.out HOY.out HXY.out.1.2 HXY.out.2.2 HXY.out.1.1 HXY.out.2.1 hst hEt); have HB5 := hide (HB4.out.trans (hb5.mono HB4.out.size)); have J8 := hide (I8.out.below hb5 (show w.heap.size + 1 < w4.heap.size by omega)); have hz5 : w.heap.size + 2 ≤ w5.heap.size := Nat.le_trans hz4 hb5.size; have HDt := hide hdt; have S5 := hide J8.out.three; clear hb5 hdt hft hst hEt)) | ((go_at_call 47; obtain ⟨E, hE⟩ : ∃ E, bothE M e Tt et = E := ⟨_, rfl⟩; obtain ⟨n, m, kk, hPL⟩ := pl_of (nm := neg) (nx := nt) HV.out.lo HV.out.hi HPU.out.2.1 HPU.out.2.2.1 (HV.out.nd (by omega)) HPU.out.2.2.2.1 hE; refine (plus_any neg nt (.slice p l c) (.slice pt lt ct) e et E M Tt n m w5 (HD.out _ HB5.out) HDt.out hE hPL.hn hPL.hm (by have := hPL.hn1; omega) (by have := hPL.hm1; omega) (by have := HV.out.nd (show k ≤ 1000 by omega); omega) (by have := HPU.out.2.2.2.1; omega) hPL.had hPL.hbd).mono ?_; rintro r w6 ⟨neg', v', N', E', rfl, hd6, hf6, hs6, hE6, hb6⟩; obtain ⟨p6, l6, c6, rfl⟩ := hd6.shape; have HDV : Hid (DV 0 neg' N' E' (N + splM (x : Int) * splM (y : Int) * 2 ^ (splE (x : Int) + splE (y : Int) + 2148).toNat) (k + 1)) := (by have hT := plus_dv (s := 0) (kk := k + 1) (kk' := k + 1) hPL hs6 hE6 rfl (by rw [HV.out.val]; exact sum_bd HV.out.bd HPU.out.2.2.2.2) (Nat.le_refl _); rw [HV.out.val, HPU.out.1] at hT; exact hT); have HB6 := hide (HB5.out.trans (hb6.mono HB5.out.size)); have K8 := hide (J8.out.below hb6 (show w.heap.size + 1 < w5.heap.size by omega)); have HD6 := hide hd6; have HF6 := hide (from_mono' hf6 hz5); have S6 := hide K8.out.three; have k0 := K8.out.d0; have k1 := K8.out.d1; have k2 := K8.out.d2; have k3 := K8.out.d3; have l0 := K8.out.f0; have l1 := K8.out.f1; have l2 := K8.out.f2; have l3 := K8.out.f3; clear hd6 hf6 hs6 hE6 hb6 hPL hE)))
  go_wp2_with fail
  refine bodyPost_ret (v := .agg #[.int .i64 0, .bool neg', .slice p6 l6 c6, .int .i64 E']) (by simp [results, Tryz.results24, go_sem, k0, k1, k2, k3]) rfl ?_
  rw [HT.out]
  exact ⟨neg', _, N', E', rfl, put4_dn HD6.out HF6.out (by omega), Or.inr (from_mono' HF6.out (by omega)), HDV.out, put4_below HB6.out (by omega)⟩

/-- The document's Prod, of whatever. -/
theorem dProd (s : Nat) (neg : Bool) (v : Value) (M : Nat) (e : Int) (N : Int) (k x y : Nat) (u t : Int) (w : World) (hd : DN w v M) (hv : DV s neg M e N k) (hk : k ≤ 900) (h : U64 u) (h' : U64 t) (hu : Hid (u = (x : Int))) (ht : Hid (t = (y : Int))) :
    Calls Tryz.prog 24 #[AV (s : Int) neg v e, .int .u64 u, .int .u64 t] w (AddEnd w v M (A.St.merge ⟨s, N⟩ (A.prodG x y)) (k + 1)) := by
  cases hno : (splOk u && splOk t) with
  | false => exact dProd_odd s neg v M e N k x y u t w hd hv hk h h' hu ht hno
  | true =>
    rw [Bool.and_eq_true] at hno
    by_cases h0 : s = 0
    · subst h0; exact dProd_num neg v M e N k x y u t w hd hv hk h h' hu ht hno.1 hno.2
    · exact dProd_stay s neg v M e N k x y u t w hd hv h0 h h' hu.out ht.out hno.1 hno.2
end Go.Proofs.YtdmldggjgaaliaaGreat
