/- The contract of the document's Add of sums: the walk. -/
import Derived.Test.YtjfldlllofjnbaaGreatRefAcc1
namespace Go.Proofs.YtjfldlllofjnbaaGreat
open Go.RowKit

theorem cells8_drew {w1 w : World} {s : Int} {neg : Bool} {v : Value} {e : Int} (h : Cells8 w1 w s neg v e) : Cells8 w1.drew w s neg v e := ⟨h.c0, h.c1, h.c2, h.c3, h.d0, h.d1, h.d2, h.d3, h.f0, h.f1, h.f2, h.f3⟩
theorem from_mono' {A B : Nat} {v : Value} (h : From B v) (hle : A ≤ B) : From A v := fun a l c e => Nat.le_trans hle (h a l c e)
/-- What Add and Prod leave. -/
def AddEnd (w : World) (v : Value) (M : Nat) (a : A.St) (k : Nat) (r : Ending) (w' : World) : Prop :=
  ∃ neg' v' M' e', r = .returned (AV (a.s : Int) neg' v' e') ∧ DN w' v' M' ∧ (v' = v ∧ M' = M ∨ From w.heap.size v') ∧ DV a.s neg' M' e' a.N k ∧ Below w.heap.size w w'
theorem addEnd_none {w w2 : World} {v : Value} {M : Nat} {a : A.St} {k : Nat} {s : Int} (hs : (a.s : Int) = s) (h3 : a.s ≤ 3) (hN : a.N = 0) (hb : Below w.heap.size w w2) :
    AddEnd w v M a k (.returned (AV s false (.slice none 0 0) 0)) w2 := by
  refine ⟨false, .slice none 0 0, 0, 0, by rw [hs], Or.inl ⟨rfl, _, _, rfl⟩, Or.inr (from_nil _), by rw [hN]; exact DV.zero h3 k, hb⟩
theorem merge_nan (s : Nat) (N : Int) (hs : s ≤ 3) : A.St.merge ⟨s, N⟩ ⟨3, 0⟩ = ⟨3, 0⟩ := by
  unfold A.St.merge A.mt
  rcases (show s = 0 ∨ s = 1 ∨ s = 2 ∨ s = 3 by omega) with rfl | rfl | rfl | rfl <;> rfl
theorem merge_num0 {s : Nat} {N M : Int} : A.St.merge ⟨s, N⟩ ⟨0, M⟩ = ⟨s, if s = 0 then N + M else 0⟩ := by
  unfold A.St.merge
  have e : A.mt s 0 = s := by simp [A.mt]
  simp only [e]
theorem ones_nan {u : Int} (h : nanB u = true) : A.oneS u = ⟨3, 0⟩ := by
  have h1 : splOk u = false := by
    unfold splOk; unfold nanB at h
    rw [decide_eq_true_eq] at h
    rw [decide_eq_false_iff_not]; omega
  unfold A.oneS A.endN
  rw [h1, h]; rfl
theorem ones_inf {u : Int} (h : infB u = true) : A.oneS u = ⟨if sgB u then 2 else 1, 0⟩ := by
  have h2 : szI u = 9218868437227405312 := by unfold infB at h; simpa using h
  have h1 : splOk u = false := by unfold splOk; rw [h2]; rfl
  have h3 : nanB u = false := by unfold nanB; rw [h2]; rfl
  unfold A.oneS A.endN
  rw [h1, h3]; rfl

set_option maxHeartbeats 1600000 in
theorem dAdd_nan (s : Nat) (neg : Bool) (v : Value) (M : Nat) (e : Int) (N : Int) (k : Nat) (u : Int) (w : World) (hs : s ≤ 3) (h : U64 u) (hn : nanB u = true) :
    Calls Tryz.prog 56 #[AV (s : Int) neg v e, .int .u64 u] w (AddEnd w v M (A.St.merge ⟨s, N⟩ (A.oneS u)) k) := by
  have HN := hide (refNaN_any u · h)
  rw [hn] at HN
  obtain ⟨tg, htg⟩ : ∃ tg, A.St.merge ⟨s, N⟩ (A.oneS u) = tg := ⟨_, rfl⟩
  have HT : Hid (tg = ⟨3, 0⟩) := by show _ = _; rw [← htg, ones_nan hn, merge_nan s N hs]
  rw [htg]
  have H8 := hide (cells8_at w (s : Int) neg v e)
  have HB := hide (boxA2_below w (s : Int) neg v e)
  obtain ⟨c0, c1, c2, c3, d0, d1, d2, d3, f0, f1, f2, f3⟩ := H8.out
  clear h hn htg
  go_enter Tryz.func56, Tryz.ntmps56
  go_wp2_with fail
  refine (turnedR (HN.out _)).mono ?_
  rintro x w' ⟨rfl, rfl⟩
  go_wp2_with fail
  refine bodyPost_ret (v := .agg #[.int .i64 3, .bool false, .slice none 0 0, .int .i64 0]) (by simp [results, Tryz.results56, go_sem]) rfl ?_
  exact addEnd_none (v := v) (M := M) (a := tg) (k := k) (s := 3) (by rw [HT.out]; rfl) (by rw [HT.out]; decide) (by rw [HT.out]) (((Below.refl _ _).alloc (Nat.le_refl _) _).trans (((Below.refl _ _).alloc (Nat.le_refl _) _).mono (by simp)))

set_option maxHeartbeats 1600000 in
theorem dAdd_inf (s : Nat) (neg : Bool) (v : Value) (M : Nat) (e : Int) (N : Int) (k : Nat) (u : Int) (w : World) (hs : s ≤ 3) (h : U64 u) (hn : nanB u = false) (hi : infB u = true) :
    Calls Tryz.prog 56 #[AV (s : Int) neg v e, .int .u64 u] w (AddEnd w v M (A.St.merge ⟨s, N⟩ (A.oneS u)) k) := by
  have HN := hide (refNaN_any u · h)
  have HI := hide (refInf_any u · h)
  rw [hn] at HN
  rw [hi] at HI
  obtain ⟨b, hb⟩ : ∃ b, sgB u = b := ⟨_, rfl⟩
  have HNg : Hid (∀ w, Calls Tryz.prog 101 #[.int .u64 u] w fun e w' => e = .returned (.bool b) ∧ w = w') := fun w => by
    have := refNegative_any u w
    rw [hb] at this
    exact turnedR this
  obtain ⟨tg, htg⟩ : ∃ tg, A.St.merge ⟨s, N⟩ (A.oneS u) = tg := ⟨_, rfl⟩
  obtain ⟨m, hm⟩ : ∃ m : Nat, A.mt s (if b then 2 else 1) = m := ⟨_, rfl⟩
  have hm3 : m ≤ 3 := by rw [← hm]; exact A.mt_lt hs (by split <;> omega)
  have hm0 : m ≠ 0 := by
    rw [← hm, mt_inf s _ hs (by cases b <;> simp)]
    cases b <;> simp <;> split <;> omega
  have HT : Hid (tg = ⟨m, 0⟩) := by
    show _ = _
    rw [← htg, ones_inf hi, hb]
    unfold A.St.merge
    dsimp only
    rw [hm, if_neg hm0]
  rw [htg]
  have HInf := hide fun w => refInfS s neg b v e w hs
  rw [hm] at HInf
  obtain ⟨mi, hmi⟩ : ∃ mi : Int, (m : Int) = mi := ⟨_, rfl⟩
  rw [hmi] at HInf
  have HE := hide fun (w2 : World) (hb : Below w.heap.size w w2) => addEnd_none (v := v) (M := M) (a := tg) (k := k) (s := mi) (by rw [HT.out]; exact hmi) (by rw [HT.out]; exact hm3) (by rw [HT.out]) hb
  have H8 := hide (cells8_at w (s : Int) neg v e)
  have HB := hide (boxA2_below w (s : Int) neg v e)
  have HZ := hide (boxA2_size w (s : Int) neg v e)
  obtain ⟨c0, c1, c2, c3, d0, d1, d2, d3, f0, f1, f2, f3⟩ := H8.out
  clear h hn hi htg hb hm hm0 hm3 hmi HT
  go_enter Tryz.func56, Tryz.ntmps56
  go_wp2_with fail
  refine (turnedR (HN.out _)).mono ?_
  rintro x w' ⟨rfl, rfl⟩
  go_wp2_with fail
  refine (turnedR (HI.out _)).mono ?_
  rintro x w' ⟨rfl, rfl⟩
  go_wp2_with fail
  go_region_with (first | ((go_at_call 101; refine (HNg.out _).mono ?_; rintro x w' ⟨rfl, rfl⟩)) | ((go_at_call 100; refine (HInf.out _).mono ?_; rintro x w4 ⟨rfl, hb4⟩; have HB4 := hide (HB.out.drew.trans (hb4.mono (show w.heap.size ≤ (boxA2 w (s : Int) neg v e).heap.size by rw [HZ.out]; omega))); have G8 := hide (Cells8.below (cells8_drew H8.out) hb4 (show w.heap.size + 1 < (boxA2 w (s : Int) neg v e).heap.size by rw [HZ.out]; omega)); have k0 := G8.out.d0; have k1 := G8.out.d1; have k2 := G8.out.d2; have k3 := G8.out.d3; have l0 := G8.out.f0; have l1 := G8.out.f1; have l2 := G8.out.f2; have l3 := G8.out.f3; clear hb4)))
  all_goals
    go_wp2_with fail
    refine bodyPost_ret (v := .agg #[.int .i64 mi, .bool false, .slice none 0 0, .int .i64 0]) (by simp [results, Tryz.results56, go_sem, k0, k1, k2, k3]) rfl ?_
    exact HE.out _ (put4_below HB4.out (by omega))

set_option maxHeartbeats 1600000 in
theorem dAdd_stay (s : Nat) (neg : Bool) (v : Value) (M : Nat) (e : Int) (N : Int) (k x : Nat) (u : Int) (w : World) (hd : DN w v M) (hv : DV s neg M e N k) (hs0 : s ≠ 0) (h : U64 u) (hn : nanB u = false) (hi : infB u = false) (hu : u = (x : Int)) :
    Calls Tryz.prog 56 #[AV (s : Int) neg v e, .int .u64 u] w (AddEnd w v M (A.St.merge ⟨s, N⟩ (A.oneS u)) (k + 1)) := by
  have HN := hide (refNaN_any u · h)
  have HI := hide (refInf_any u · h)
  rw [hn] at HN
  rw [hi] at HI
  obtain ⟨tg, htg⟩ : ∃ tg, A.St.merge ⟨s, N⟩ (A.oneS u) = tg := ⟨_, rfl⟩
  have HT : Hid (tg = ⟨s, N⟩) := by
    show _ = _
    have h1 : splOk u = true := by
      have := num_of hu hn hi
      unfold NumB at this
      unfold splOk; rw [hu, szI_nat]; simp; omega
    have h2 : A.oneS u = ⟨0, A.unitI u⟩ := by unfold A.oneS; rw [h1]; rfl
    rw [← htg, h2, merge_num0, if_neg hs0, hv.none hs0]
  rw [htg]
  obtain ⟨p, l, c, rfl⟩ := hd.shape
  have HD := hide hd
  have HV := hide (hv.mono (show k ≤ k + 1 by omega))
  have hne : (((s : Int) != 0)) = true := by simp; omega
  have hne2 : ((s : Int) == 0) = false := by simp; omega
  have H8 := hide (cells8_at w (s : Int) neg (.slice p l c) e)
  have HB := hide (boxA2_below w (s : Int) neg (.slice p l c) e)
  obtain ⟨c0, c1, c2, c3, d0, d1, d2, d3, f0, f1, f2, f3⟩ := H8.out
  clear h hn hi htg hd hv hu hs0
  go_enter Tryz.func56, Tryz.ntmps56
  go_wp2_with fail
  refine (turnedR (HN.out _)).mono ?_
  rintro x w' ⟨rfl, rfl⟩
  go_wp2_with fail
  refine (turnedR (HI.out _)).mono ?_
  rintro x w' ⟨rfl, rfl⟩
  go_wp2_with fail
  refine bodyPost_ret (v := .agg #[.int .i64 (s : Int), .bool neg, .slice p l c, .int .i64 e]) (by simp [results, Tryz.results56, go_sem]) rfl ?_
  have hbl : Below w.heap.size w ((w.alloc (.cells #[.int .i64 (s : Int), .bool neg, .slice p l c, .int .i64 e] 115)).alloc (.cells #[.int .i64 (s : Int), .bool neg, .slice p l c, .int .i64 e] 115)) := ((Below.refl _ _).alloc (Nat.le_refl _) _).trans (((Below.refl _ _).alloc (Nat.le_refl _) _).mono (by simp))
  rw [HT.out]
  exact ⟨neg, .slice p l c, M, e, rfl, HD.out.below hbl, Or.inl ⟨rfl, rfl⟩, HV.out, hbl⟩

set_option maxHeartbeats 1600000 in
theorem dAdd_num (neg : Bool) (v : Value) (M : Nat) (e : Int) (N : Int) (k x : Nat) (u : Int) (w : World) (hd : DN w v M) (hv : DV 0 neg M e N k) (hk : FewK k) (h : U64 u) (hn : nanB u = false) (hi : infB u = false) (hu : Hid (u = (x : Int))) :
    Calls Tryz.prog 56 #[AV 0 neg v e, .int .u64 u] w (AddEnd w v M (A.St.merge ⟨0, N⟩ (A.oneS u)) (k + 1)) := by
  have HN := hide (refNaN_any u · h)
  have HI := hide (refInf_any u · h)
  rw [hn] at HN
  rw [hi] at HI
  have hxn := num_of hu.out hn hi
  have hx64 : x < 18446744073709551616 := by have := h.2; rw [hu.out] at this; omega
  have HO := hide fun w => of_num x u w hu h hxn
  obtain ⟨tg, htg⟩ : ∃ tg, A.St.merge ⟨0, N⟩ (A.oneS u) = tg := ⟨_, rfl⟩
  have HT : Hid (tg = ⟨0, N + A.unitI (x : Int)⟩) := by
    show _ = _
    have h1 : splOk u = true := by
      unfold NumB at hxn
      unfold splOk; rw [hu.out, szI_nat]; simp; omega
    have h2 : A.oneS u = ⟨0, A.unitI u⟩ := by unfold A.oneS; rw [h1]; rfl
    rw [← htg, h2, merge_num0, if_pos rfl, hu.out]
  rw [htg]
  obtain ⟨p, l, c, rfl⟩ := hd.shape
  have HD := hide fun w' (hb : Below w.heap.size w w') => hd.below hb
  have HV := hide hv
  have H8 := hide (cells8_at w 0 neg (.slice p l c) e)
  have HB := hide (boxA2_below w 0 neg (.slice p l c) e)
  have HZ := hide (boxA2_size w 0 neg (.slice p l c) e)
  have HX := hide (And.intro hxn hx64)
  obtain ⟨c0, c1, c2, c3, d0, d1, d2, d3, f0, f1, f2, f3⟩ := H8.out
  clear h hn hi htg hd hv hxn hx64
  go_enter Tryz.func56, Tryz.ntmps56
  go_wp2_with fail
  refine (turnedR (HN.out _)).mono ?_
  rintro x w' ⟨rfl, rfl⟩
  go_wp2_with fail
  refine (turnedR (HI.out _)).mono ?_
  rintro x w' ⟨rfl, rfl⟩
  go_wp2_with fail
  go_region_with (first | ((go_at_call 71; refine (HO.out _).mono ?_; rintro r w3 ⟨nx, vx, X, ex, rfl, hdx, hX, hb3⟩; obtain ⟨px, lx, cx, rfl⟩ := hdx.shape; have HB3 := hide (HB.out.drew.trans (hb3.mono (show w.heap.size ≤ (boxA2 w 0 neg (.slice p l c) e).heap.size by rw [HZ.out]; omega))); have G8 := hide (Cells8.below (cells8_drew H8.out) hb3 (show w.heap.size + 1 < (boxA2 w 0 neg (.slice p l c) e).heap.size by rw [HZ.out]; omega)); have hz3 : w.heap.size + 2 ≤ w3.heap.size := (by have h9 := hb3.size; have h8 : (boxA2 w 0 neg (.slice p l c) e).heap.size ≤ w3.heap.size := h9; rw [HZ.out] at h8; exact h8); have HDx := hide hdx; have HOX := hide hX; have g1 := G8.out.c1; have g2 := G8.out.c2; have g3 := G8.out.c3; clear hb3 hdx hX)) | ((go_at_call 79; obtain ⟨E, hE⟩ : ∃ E, bothE M e X ex = E := ⟨_, rfl⟩; obtain ⟨n, m, kk, hPL⟩ := pl_of (nm := neg) (nx := nx) HV.out.lo HV.out.hi (show -2148 ≤ ex by have := HOX.out.lo; omega) (show ex ≤ 2000 by have := HOX.out.hi; omega) (HV.out.nd hk).1 (show nd X ≤ 1000 by have := nd_two HOX.out.lt; omega) hE; refine (plus_any neg nx (.slice p l c) (.slice px lx cx) e ex E M X n m w3 (HD.out _ HB3.out) HDx.out hE hPL.hn hPL.hm (by have := hPL.hn1; omega) (by have := hPL.hm1; omega) (by have := HV.out.nd hk; omega) (by have := nd_two HOX.out.lt; omega) hPL.had hPL.hbd).mono ?_; rintro r w4 ⟨neg', v', N', E', rfl, hd4, hf4, hs4, hE4, hb4⟩; obtain ⟨p4, l4, c4, rfl⟩ := hd4.shape; have HDV : Hid (DV 0 neg' N' E' (N + A.unitI (x : Int)) (k + 1)) := (by have hT := plus_dv (s := 0) (kk := k + 1) (kk' := k + 1) hPL hs4 hE4 rfl (by rw [HV.out.val]; exact sum_bd HV.out.bd (of_small HOX.out)) (Nat.le_refl _); rw [HV.out.val, of_unit HOX.out HX.out.2 HX.out.1] at hT; exact hT); have HB4 := hide (HB3.out.trans (hb4.mono HB3.out.size)); have K8 := hide (G8.out.below hb4 (show w.heap.size + 1 < w3.heap.size by omega)); have HD4 := hide hd4; have HF4 := hide (from_mono' hf4 hz3); have k0 := K8.out.d0; have k1 := K8.out.d1; have k2 := K8.out.d2; have k3 := K8.out.d3; have l0 := K8.out.f0; have l1 := K8.out.f1; have l2 := K8.out.f2; have l3 := K8.out.f3; clear hd4 hf4 hs4 hE4 hb4 hPL hE)))
  all_goals
    go_wp2_with fail
    refine bodyPost_ret (v := .agg #[.int .i64 0, .bool neg', .slice p4 l4 c4, .int .i64 E']) (by simp [results, Tryz.results56, go_sem, k0, k1, k2, k3]) rfl ?_
    rw [HT.out]
    exact ⟨neg', _, N', E', rfl, put4_dn HD4.out HF4.out (by omega), Or.inr (from_mono' HF4.out (by omega)), HDV.out, put4_below HB4.out (by omega)⟩

/-- The document's Add, of whatever. -/
theorem dAdd (s : Nat) (neg : Bool) (v : Value) (M : Nat) (e : Int) (N : Int) (k x : Nat) (u : Int) (w : World) (hd : DN w v M) (hv : DV s neg M e N k) (hk : FewK k) (h : U64 u) (hu : Hid (u = (x : Int))) :
    Calls Tryz.prog 56 #[AV (s : Int) neg v e, .int .u64 u] w (AddEnd w v M (A.St.merge ⟨s, N⟩ (A.oneS u)) (k + 1)) := by
  cases hn : nanB u with
  | true => exact dAdd_nan s neg v M e N (k + 1) u w hv.s3 h hn
  | false =>
    cases hi : infB u with
    | true => exact dAdd_inf s neg v M e N (k + 1) u w hv.s3 h hn hi
    | false =>
      by_cases h0 : s = 0
      · subst h0; exact dAdd_num neg v M e N k x u w hd hv hk h hn hi hu
      · exact dAdd_stay s neg v M e N k x u w hd hv h0 h hn hi hu.out
end Go.Proofs.YtjfldlllofjnbaaGreat
