/- The contract of the document's Prod of sums. -/
import Derived.Test.YtdmldggjgaaliaaGreatRefAcc2
import Derived.Test.YtdmldggjgaaliaaGreatDotA
namespace Go.Proofs.YtdmldggjgaaliaaGreat
open Go.RowKit

theorem addEnd_store {w w3 w4 : World} {v : Value} {M k : Nat} {a : A.St} {s : Int} {neg : Bool} {e : Int} {r : Ending} (hd : DN w v M) (hb3 : Below w.heap.size w w3) (hz3 : w.heap.size + 2 ≤ w3.heap.size) (h : AddEnd w3 v M a k r w4) (h8 : Cells8 w3 w s neg v e) :
    ∃ neg' p4 l4 c4 e4, r = .returned (AV (a.s : Int) neg' (.slice p4 l4 c4) e4) ∧ Cells8 w4 w s neg v e ∧ AddEnd w v M a k (.returned (AV (a.s : Int) neg' (.slice p4 l4 c4) e4)) (put4 w4 (w.heap.size + 1) (a.s : Int) neg' (.slice p4 l4 c4) e4) := by
  obtain ⟨neg', v', M', e', rfl, hd4, hv4, hdv, hb4⟩ := h
  obtain ⟨p4, l4, c4, rfl⟩ := hd4.shape
  have hbw : Below w.heap.size w w4 := hb3.trans (hb4.mono hb3.size)
  refine ⟨neg', p4, l4, c4, e', rfl, h8.below hb4 (by omega), neg', _, M', e', rfl, ?_, ?_, hdv, put4_below hbw (by omega)⟩
  · rcases hv4 with ⟨hv4, hM⟩ | hv4
    · rw [hv4, hM]
      exact hd.below (put4_below hbw (by omega))
    · exact put4_dn hd4 (from_mono' hv4 hz3) (by omega)
  · rcases hv4 with hv4 | hv4
    · exact Or.inl hv4
    · exact Or.inr (from_mono' hv4 (by omega))

set_option maxHeartbeats 1600000 in
theorem dProd_odd (s : Nat) (neg : Bool) (v : Value) (M : Nat) (e : Int) (N : Int) (k x y : Nat) (u t : Int) (w : World) (hd : DN w v M) (hv : DV s neg M e N k) (hk : k ≤ 900) (h : U64 u) (h' : U64 t) (hu : Hid (u = (x : Int))) (ht : Hid (t = (y : Int))) (hno : (splOk u && splOk t) = false) :
    Calls Tryz.prog 24 #[AV (s : Int) neg v e, .int .u64 u, .int .u64 t] w (AddEnd w v M (A.St.merge ⟨s, N⟩ (A.prodG x y)) (k + 1)) := by
  have HN1 := hide (refNumber_any u · h)
  have HN2 := hide (refNumber_any t · h')
  obtain ⟨z, hz⟩ : ∃ z : Int, z = (cn (floatBits .mul .f64 x y) : Int) := ⟨_, rfl⟩
  have HM : Hid (∀ w, Calls Tryz.prog 46 #[.int .u64 u, .int .u64 t] w fun e w' => e = .returned (.int .u64 z) ∧ Below w.heap.size w w') := fun w => by rw [hz]; exact refMul_any x y u t w hu ht h h'
  obtain ⟨tg, htg⟩ : ∃ tg, A.St.merge ⟨s, N⟩ (A.prodG x y) = tg := ⟨_, rfl⟩
  have hz64 : U64 z := by rw [hz]; exact u64_of_nat (cn_lt (by simp) _ _)
  have htg2 : A.St.merge ⟨s, N⟩ (A.oneS z) = tg := by
    rw [← htg]; unfold A.prodG
    rw [← hu.out, ← ht.out, hno, if_neg (by decide), hz]
  have HAd : Hid (∀ w', Below w.heap.size w w' → Calls Tryz.prog 27 #[AV (s : Int) neg v e, .int .u64 z] w' (AddEnd w' v M tg (k + 1))) := fun w' hb => by
    rw [← htg2]; exact dAdd s neg v M e N k _ z w' (hd.below hb) hv hk hz64 hz
  rw [htg]
  obtain ⟨p, l, c, rfl⟩ := hd.shape
  have HD := hide hd
  have H8 := hide (cells8_at w (s : Int) neg (.slice p l c) e)
  have HB := hide (boxA2_below w (s : Int) neg (.slice p l c) e)
  have HZ := hide (boxA2_size w (s : Int) neg (.slice p l c) e)
  obtain ⟨c0, c1, c2, c3, d0, d1, d2, d3, f0, f1, f2, f3⟩ := H8.out
  obtain ⟨o1, ho1⟩ : ∃ o1, splOk u = o1 := ⟨_, rfl⟩
  obtain ⟨o2, ho2⟩ : ∃ o2, splOk t = o2 := ⟨_, rfl⟩
  rw [ho1] at HN1
  rw [ho2] at HN2
  rw [ho1, ho2] at hno
  clear h h' hd hz hz64 htg htg2 hu ht ho1 ho2
  cases o1 <;> cases o2
  all_goals first | (exact absurd hno (by decide)) | skip
  all_goals
    clear hno
    go_enter Tryz.func24, Tryz.ntmps24
    go_wp2_with (first | (go_at_call_of 45 (Value.int IntKind.u64 u); refine (turnedR (HN1.out _)).mono ?_; rintro x w' ⟨rfl, rfl⟩) | (go_at_call_of 45 (Value.int IntKind.u64 t); refine (turnedR (HN2.out _)).mono ?_; rintro x w' ⟨rfl, rfl⟩))
    go_region_with (first | ((go_at_call 46; refine (HM.out _).mono ?_; rintro x w3 ⟨rfl, hb3⟩; have HB3 := hide (HB.out.drew.trans (hb3.mono (show w.heap.size ≤ (boxA2 w (s : Int) neg (.slice p l c) e).heap.size by rw [HZ.out]; omega))); have G8 := hide (Cells8.below (cells8_drew H8.out) hb3 (show w.heap.size + 1 < (boxA2 w (s : Int) neg (.slice p l c) e).heap.size by rw [HZ.out]; omega)); have hz3 : w.heap.size + 2 ≤ w3.heap.size := (by have h9 := hb3.size; have h8 : (boxA2 w (s : Int) neg (.slice p l c) e).heap.size ≤ w3.heap.size := h9; rw [HZ.out] at h8; exact h8); have g0 := G8.out.c0; have g1 := G8.out.c1; have g2 := G8.out.c2; have g3 := G8.out.c3; clear hb3)) | ((go_at_call 27; refine (HAd.out _ HB3.out).mono ?_; intro r w4 hend; obtain ⟨neg', p4, l4, c4, e4, rfl, K8, hE⟩ := addEnd_store HD.out HB3.out hz3 hend G8.out; have HE := hide hE; have k0 := K8.d0; have k1 := K8.d1; have k2 := K8.d2; have k3 := K8.d3; have l0 := K8.f0; have l1 := K8.f1; have l2 := K8.f2; have l3 := K8.f3; clear hend hE K8)))
    all_goals
      go_wp2_with fail
      refine bodyPost_ret (v := .agg #[.int .i64 (tg.s : Int), .bool neg', .slice p4 l4 c4, .int .i64 e4]) (by simp [results, Tryz.results24, go_sem, k0, k1, k2, k3]) rfl ?_
      exact HE.out

set_option maxHeartbeats 1600000 in
theorem dProd_stay (s : Nat) (neg : Bool) (v : Value) (M : Nat) (e : Int) (N : Int) (k x y : Nat) (u t : Int) (w : World) (hd : DN w v M) (hv : DV s neg M e N k) (hs0 : s ≠ 0) (h : U64 u) (h' : U64 t) (hu : u = (x : Int)) (ht : t = (y : Int)) (ho1 : splOk u = true) (ho2 : splOk t = true) :
    Calls Tryz.prog 24 #[AV (s : Int) neg v e, .int .u64 u, .int .u64 t] w (AddEnd w v M (A.St.merge ⟨s, N⟩ (A.prodG x y)) (k + 1)) := by
  have HN1 := hide (refNumber_any u · h)
  have HN2 := hide (refNumber_any t · h')
  rw [ho1] at HN1
  rw [ho2] at HN2
  obtain ⟨tg, htg⟩ : ∃ tg, A.St.merge ⟨s, N⟩ (A.prodG x y) = tg := ⟨_, rfl⟩
  have HT : Hid (tg = ⟨s, N⟩) := by
    show _ = _
    rw [← htg]; unfold A.prodG
    rw [← hu, ← ht, ho1, ho2]
    show A.St.merge ⟨s, N⟩ (A.prodS u t) = _
    unfold A.prodS
    rw [merge_num0, if_neg hs0, hv.none hs0]
  rw [htg]
  obtain ⟨p, l, c, rfl⟩ := hd.shape
  have HD := hide hd
  have HV := hide (hv.mono (show k ≤ k + 1 by omega))
  have hne : (((s : Int) != 0)) = true := by simp; omega
  have hne2 : ((s : Int) == 0) = false := by simp; omega
  have H8 := hide (cells8_at w (s : Int) neg (.slice p l c) e)
  obtain ⟨c0, c1, c2, c3, d0, d1, d2, d3, f0, f1, f2, f3⟩ := H8.out
  clear h h' htg hd hv hu ht hs0 ho1 ho2
  go_enter Tryz.func24, Tryz.ntmps24
  go_wp2_with (first | (go_at_call_of 45 (Value.int IntKind.u64 u); refine (turnedR (HN1.out _)).mono ?_; rintro x w' ⟨rfl, rfl⟩) | (go_at_call_of 45 (Value.int IntKind.u64 t); refine (turnedR (HN2.out _)).mono ?_; rintro x w' ⟨rfl, rfl⟩))
  refine bodyPost_ret (v := .agg #[.int .i64 (s : Int), .bool neg, .slice p l c, .int .i64 e]) (by simp [results, Tryz.results24, go_sem]) rfl ?_
  have hbl : Below w.heap.size w ((w.alloc (.cells #[.int .i64 (s : Int), .bool neg, .slice p l c, .int .i64 e] 48)).alloc (.cells #[.int .i64 (s : Int), .bool neg, .slice p l c, .int .i64 e] 48)) := ((Below.refl _ _).alloc (Nat.le_refl _) _).trans (((Below.refl _ _).alloc (Nat.le_refl _) _).mono (by simp))
  rw [HT.out]
  exact ⟨neg, .slice p l c, M, e, rfl, HD.out.below hbl, Or.inl ⟨rfl, rfl⟩, HV.out, hbl⟩
end Go.Proofs.YtdmldggjgaaliaaGreat
