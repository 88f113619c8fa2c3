/- The contracts of the document's Value and Sum. -/
import Derived.Test.YtjfldlllofjnbaaGreatRefAcc4
namespace Go.Proofs.YtjfldlllofjnbaaGreat
open Go.RowKit

theorem valSt_0 (N : Int) : A.valSt ⟨0, N⟩ = valF N := by unfold A.valSt; rw [if_pos rfl]
theorem valSt_1 (N : Int) : A.valSt ⟨1, N⟩ = 9218868437227405312 := by unfold A.valSt; dsimp only; rw [if_neg (by decide), if_pos rfl]
theorem valSt_2 (N : Int) : A.valSt ⟨2, N⟩ = 18442240474082181120 := by unfold A.valSt; dsimp only; rw [if_neg (by decide), if_neg (by decide), if_pos rfl]
theorem valSt_3 (N : Int) : A.valSt ⟨3, N⟩ = 9221120237041090561 := by unfold A.valSt; dsimp only; rw [if_neg (by decide), if_neg (by decide), if_neg (by decide)]
theorem near_valF {neg : Bool} {M k : Nat} {e N : Int} (hv : DV 0 neg M e N k) : nearM neg M e false = (valF N : Int) := by
  have hval := hv.val
  have hlo := hv.lo
  unfold valF
  by_cases h0 : M = 0
  · rw [h0, sg_zero_any, Int.zero_mul] at hval
    rw [h0, ← hval]; unfold nearM joinN; rw [if_pos rfl, if_pos rfl]; rfl
  · obtain ⟨q, hq⟩ : ∃ q, (e + 2148).toNat = q := ⟨_, rfl⟩
    rw [hq] at hval
    obtain ⟨m1, m2⟩ := mul_pow_neg (S := sg neg M) q
    have hS0 : sg neg M ≠ 0 := by
      intro c
      have := sgn_abs neg M
      rw [c] at this; exact h0 this.symm
    rw [nearM_eq neg e h0, ← hval]
    unfold joinN
    rw [if_neg (fun c => hS0 (m2.1 c)), natAbs_mul_pow, sgn_abs]
    have h7 := nearR_scale h0 q e
    rw [show e - (q : Int) = -2148 by omega] at h7
    rw [h7]
    have hd := sg_neg_iff (neg := neg) h0
    cases neg
    · rw [if_neg (by decide), if_neg (fun c => by have := m1.1 c; simp at hd; omega)]; omega
    · rw [if_pos rfl, if_pos (m1.2 (by simpa using hd))]; omega

set_option maxHeartbeats 1600000 in
theorem dOver (s : Nat) (neg : Bool) (v : Value) (M : Nat) (e : Int) (N : Int) (k : Nat) (w : World) (hd : DN w v M) (hv : DV s neg M e N k) (hk : FewK k) :
    Calls Tryz.prog 102 #[AV (s : Int) neg v e, .int .i64 1] w fun r w' => r = .returned (.int .u64 (A.valSt ⟨s, N⟩ : Int)) ∧ Below w.heap.size w w' := by
  obtain ⟨p, l, c, rfl⟩ := hd.shape
  obtain ⟨res, hres⟩ : ∃ res : Int, (A.valSt ⟨s, N⟩ : Int) = res := ⟨_, rfl⟩
  rw [hres]
  have hs3 := hv.s3
  have HB : Hid (Below w.heap.size w (boxA w (s : Int) neg (.slice p l c) e)) := (Below.refl _ _).alloc (Nat.le_refl _) _
  rcases (show s = 0 ∨ s = 1 ∨ s = 2 ∨ s = 3 by omega) with rfl | rfl | rfl | rfl
  · have hN := near_valF hv
    have hr : (valF N : Int) = res := by rw [← hres, valSt_0]
    have HNr : Hid (Calls Tryz.prog 69 #[.agg #[.bool neg, .slice p l c, .int .i64 e]] (boxA w 0 neg (.slice p l c) e) fun r w' => r = .returned (.int .u64 res) ∧ Below (boxA w 0 neg (.slice p l c) e).heap.size (boxA w 0 neg (.slice p l c) e) w') := by
      rw [← hr, ← hN]
      exact near_agg neg _ e M _ (hd.below HB.out) (by have := hv.nd hk; omega) (by have := hv.lo; omega) (by have := hv.hi; omega)
    clear hd hv hres hN hr
    go_enter Tryz.func102, Tryz.ntmps102
    go_wp2_with fail
    refine HNr.out.mono ?_
    rintro r w1 ⟨rfl, hb⟩
    have HB1 := hide (HB.out.trans (hb.mono HB.out.size))
    clear hb
    go_wp2_with fail
    go_ret
    exact ⟨rfl, HB1.out⟩
  · have hr : (9218868437227405312 : Int) = res := by rw [← hres, valSt_1]; rfl
    have HR := hide hr
    clear hd hv hres hr
    go_enter Tryz.func102, Tryz.ntmps102
    go_wp2_with fail
    go_ret
    exact ⟨ret_int HR.out, HB.out⟩
  · have hr : (18442240474082181120 : Int) = res := by rw [← hres, valSt_2]; rfl
    have HR := hide hr
    have HF := hide fun w => refFlip_at 9218868437227405312 9218868437227405312 18442240474082181120 w rfl (by unfold U64; omega) rfl
    clear hd hv hres hr
    go_enter Tryz.func102, Tryz.ntmps102
    go_wp2_with fail
    refine (HF.out _).mono ?_
    rintro r w' ⟨rfl, rfl⟩
    go_wp2_with fail
    go_ret
    exact ⟨ret_int HR.out, HB.out⟩
  · have hr : (9221120237041090561 : Int) = res := by rw [← hres, valSt_3]; rfl
    have HR := hide hr
    clear hd hv hres hr
    go_enter Tryz.func102, Tryz.ntmps102
    go_wp2_with fail
    go_ret
    exact ⟨ret_int HR.out, HB.out⟩

set_option maxHeartbeats 400000 in
theorem dValue (s : Nat) (neg : Bool) (v : Value) (M : Nat) (e : Int) (N : Int) (k : Nat) (w : World) (hd : DN w v M) (hv : DV s neg M e N k) (hk : FewK k) :
    Calls Tryz.prog 57 #[AV (s : Int) neg v e] w fun r w' => r = .returned (.int .u64 (A.valSt ⟨s, N⟩ : Int)) ∧ Below w.heap.size w w' := by
  obtain ⟨p, l, c, rfl⟩ := hd.shape
  have HB : Hid (Below w.heap.size w (boxA w (s : Int) neg (.slice p l c) e)) := (Below.refl _ _).alloc (Nat.le_refl _) _
  have HO := hide (dOver s neg (.slice p l c) M e N k _ (hd.below HB.out) hv hk)
  obtain ⟨res, hres⟩ : ∃ res : Int, (A.valSt ⟨s, N⟩ : Int) = res := ⟨_, rfl⟩
  rw [hres] at HO ⊢
  clear hd hv hres
  go_enter Tryz.func57, Tryz.ntmps57
  go_wp2_with fail
  refine HO.out.mono ?_
  rintro r w1 ⟨rfl, hb⟩
  have HB1 := hide (HB.out.trans (hb.mono HB.out.size))
  clear hb
  go_wp2_with fail
  go_ret
  exact ⟨rfl, HB1.out⟩
end Go.Proofs.YtjfldlllofjnbaaGreat
