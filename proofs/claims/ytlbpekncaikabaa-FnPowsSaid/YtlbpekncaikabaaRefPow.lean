/- The contract of the document's Pow. -/
import Derived.Test.YtlbpekncaikabaaRefDiv
import Derived.Test.YtlbpekncaikabaaRefHorner
namespace Go.Proofs.Ytlbpekncaikabaa
open Go.RowKit

theorem cn_mul (o o' : Option Nat) : floatBits .mul .f64 (cn o) (cn o') = mulO o o' := (mulO_ag (ag_cn o) (ag_cn o')).symm
theorem cn_ok {o : Option Nat} (h : ∀ r, o = some r → r < 18446744073709551616) : cn o < 18446744073709551616 := by
  cases o with
  | none => decide
  | some r => exact h r rfl

set_option maxHeartbeats 1600000 in
theorem refPow_pos (x n : Nat) (u res : Int) (w : World) (hu : Hid (u = (x : Int))) (h : Hid (U64 u)) (hn : n ≤ 1048576) (hres : Hid ((cn (wholeO (some 4607182418800017408) (some x) n) : Int) = res)) :
    Calls Try.prog 17 #[.int .u64 u, .int .i64 (n : Int)] w fun e w' => e = .returned (.int .u64 res) ∧ Below w.heap.size w w' := by
  go_enter Try.func17, Try.ntmps17
  go_wp2_with fail
  go_loopw [1, 5, 6] (fun m r b wr => ∃ (k : Nat) (a c : Int), k ≤ n ∧ m = .int .i64 k ∧ r = .int .u64 a ∧ b = .int .u64 c ∧ Hid (U64 a) ∧ Hid (U64 c) ∧ Hid (∃ ro bo, a = (cn ro : Int) ∧ c = (cn bo : Int) ∧ (cn (wholeO ro bo k) : Int) = res) ∧ Hid (Below w.heap.size w wr)) (fun m _ _ _ => (intOf m).toNat)
  case atStart => exact ⟨n, _, u, Nat.le_refl _, rfl, rfl, rfl, by show U64 _; unfold U64; omega, h, ⟨some 4607182418800017408, some x, rfl, hu.out, hres.out⟩, Below.refl _ _⟩
  case round =>
    obtain ⟨k, a, c, hk, rfl, rfl, rfl, HUa, HUc, HR, HB⟩ := hrel
    by_cases hz : k = 0
    · subst hz
      have HE : Hid (a = res) := by
        obtain ⟨ro, bo, h1, _, h3⟩ := HR.out
        rw [wholeO_zero] at h3
        rw [← h3]; exact h1
      clear HR
      go_wp2
      go_ret
      exact ⟨ret_int HE.out, HB.out⟩
    · have hdiv : (k : Int) / 2 = ((k / 2 : Nat) : Int) := by omega
      have hjk : k / 2 * 2 + k % 2 = k := by omega
      obtain ⟨ro, bo, h1, h2, h3⟩ := HR.out
      rw [wholeO_step ro bo hz] at h3
      obtain ⟨aa, haa⟩ : ∃ aa : Int, aa = (cn (mulO ro bo) : Int) := ⟨_, rfl⟩
      obtain ⟨cc, hcc⟩ : ∃ cc : Int, cc = (cn (mulO bo bo) : Int) := ⟨_, rfl⟩
      have HM1 : Hid (∀ w, Calls Try.prog 35 #[.int .u64 a, .int .u64 c] w fun e w' => e = .returned (.int .u64 aa) ∧ Below w.heap.size w w') := fun w => by
        have := refMul_any (cn ro) (cn bo) a c w h1 h2 HUa.out HUc.out
        rw [cn_mul, ← haa] at this; exact this
      have HM2 : Hid (∀ w, Calls Try.prog 35 #[.int .u64 c, .int .u64 c] w fun e w' => e = .returned (.int .u64 cc) ∧ Below w.heap.size w w') := fun w => by
        have := refMul_any (cn bo) (cn bo) c c w h2 h2 HUc.out HUc.out
        rw [cn_mul, ← hcc] at this; exact this
      have HUaa : Hid (U64 aa) := by rw [haa, ← cn_mul]; exact u64_of_nat (cn_lt (by simp) _ _)
      have HUcc : Hid (U64 cc) := by rw [hcc, ← cn_mul]; exact u64_of_nat (cn_lt (by simp) _ _)
      have HR1 := hideS h1
      have HR2 := hideS h2
      have HR3 := hideS h3
      have HAA := hideS haa
      have HCC := hideS hcc
      obtain ⟨k2, hk2⟩ : ∃ k2, k / 2 = k2 := ⟨_, rfl⟩
      rw [hk2] at hdiv hjk HR3
      clear h1 h2 h3 HR hk2 haa hcc
      rcases (show k % 2 = 0 ∨ k % 2 = 1 by omega) with hpar | hpar
      · rw [hpar] at hjk
        rw [hpar, if_neg (by decide)] at HR3
        have hk20 : k2 ≠ 0 := by omega
        rw [if_neg hk20] at HR3
        have hgt : (0 : Int) < (k2 : Int) := by omega
        have hmod : (((k : Int) % 2) == 1) = false := by simp; omega
        have htm : ((k : Int).tmod 2 == 1) = false := by rw [Int.tmod_eq_emod_of_nonneg (by omega)]; exact hmod
        clear hpar hk20
        go_wp2_with fail
        refine (HM2.out _).mono ?_
        rintro e w1 ⟨rfl, hb⟩
        have HB1 := hideS (HB.out.trans (hb.mono HB.out.size))
        clear hb HM1 HM2
        go_wp2_with fail
        go_roundw
        case rel => exact ⟨k2, a, cc, by omega, rfl, rfl, rfl, HUa, HUcc, ⟨_, _, HR1.out, HCC.out, HR3.out⟩, HB1⟩
        case measure => simp [intOf]; omega
      · rw [hpar] at hjk
        rw [hpar, if_pos rfl] at HR3
        have hmod : (((k : Int) % 2) == 1) = true := by simp; omega
        have htm : ((k : Int).tmod 2 == 1) = true := by rw [Int.tmod_eq_emod_of_nonneg (by omega)]; exact hmod
        clear hpar
        by_cases hk20 : k2 = 0
        · subst hk20
          rw [if_pos rfl] at HR3
          go_wp2_with fail
          refine (HM1.out _).mono ?_
          rintro e w1 ⟨rfl, hb⟩
          have HB1 := hideS (HB.out.trans (hb.mono HB.out.size))
          clear hb HM1 HM2
          go_wp2_with fail
          go_roundw
          case rel => exact ⟨0, aa, c, by omega, rfl, rfl, rfl, HUaa, HUc, ⟨_, _, HAA.out, HR2.out, HR3.out⟩, HB1⟩
          case measure => simp [intOf]; omega
        · rw [if_neg hk20] at HR3
          have hgt : (0 : Int) < (k2 : Int) := by omega
          clear hk20
          go_wp2_with fail
          refine (HM1.out _).mono ?_
          rintro e w1 ⟨rfl, hb⟩
          have HB1 := hideS (HB.out.trans (hb.mono HB.out.size))
          clear hb HM1
          go_wp2_with fail
          refine (HM2.out _).mono ?_
          rintro e w2 ⟨rfl, hb⟩
          have HB2 := hideS (HB1.out.trans (hb.mono HB1.out.size))
          clear hb HM2
          go_wp2_with fail
          go_roundw
          case rel => exact ⟨k2, aa, cc, by omega, rfl, rfl, rfl, HUaa, HUcc, ⟨_, _, HAA.out, HCC.out, HR3.out⟩, HB2⟩
          case measure => simp [intOf]; omega

theorem wholeO_fit : ∀ (n : Nat) (ro bo : Option Nat), (∀ r, ro = some r → r < 18446744073709551616) → (∀ r, bo = some r → r < 18446744073709551616) → ∀ r, wholeO ro bo n = some r → r < 18446744073709551616 := by
  have mul_ok : ∀ a b : Option Nat, ∀ r, mulO a b = some r → r < 18446744073709551616 := fun a b r h => by
    rw [← cn_mul] at h; exact float_lt (by simp) h
  intro n
  induction n using Nat.strongRecOn with
  | ind n ih =>
    intro ro bo h1 h2 r h
    by_cases h0 : n = 0
    · subst h0; rw [wholeO_zero] at h; exact h1 r h
    · rw [wholeO_step ro bo h0] at h
      refine ih (n / 2) (by omega) _ _ ?_ ?_ r h
      · intro r hr
        split at hr
        · exact mul_ok _ _ r hr
        · exact h1 r hr
      · intro r hr
        split at hr
        · exact h2 r hr
        · exact mul_ok _ _ r hr
theorem whole_fit {x : Nat} (hx : x < 18446744073709551616) (n : Nat) (r : Nat) (h : wholeO (some 4607182418800017408) (some x) n = some r) : r < 18446744073709551616 :=
  wholeO_fit n _ _ (fun r h => by cases h; decide) (fun r h => by cases h; exact hx) r h
theorem powO_fit {x : Nat} (hx : x < 18446744073709551616) (n : Int) (r : Nat) (h : powO x n = some r) : r < 18446744073709551616 := by
  unfold powO at h
  split at h
  · cases h
  · split at h
    · cases ho : wholeO (some 4607182418800017408) (some x) n.natAbs with
      | none => rw [ho] at h; cases h
      | some q => rw [ho] at h; exact float_lt (op := .quo) (x := 4607182418800017408) (y := q) (by simp) h
    · exact whole_fit hx _ r h

set_option maxHeartbeats 1600000 in
theorem refPow_any (x : Nat) (n u res : Int) (w : World) (hu : Hid (u = (x : Int))) (h : Hid (U64 u)) (hn1 : -9223372036854775808 ≤ n) (hn2 : n ≤ 9223372036854775807) (hres : Hid ((cn (powO x n) : Int) = res)) :
    Calls Try.prog 17 #[.int .u64 u, .int .i64 n] w fun e w' => e = .returned (.int .u64 res) ∧ Below w.heap.size w w' := by
  by_cases hbig : 1048576 < n ∨ n < -1048576
  · have HP : Hid ((9221120237041090561 : Int) = res) := by show _ = _; rw [← hres.out]; unfold powO; rw [if_pos hbig]; rfl
    rcases hbig with hbig | hbig
    all_goals
      go_enter Try.func17, Try.ntmps17
      go_wp2_with fail
      go_ret
      exact ⟨ret_int HP.out, Below.refl _ _⟩
  · obtain ⟨m, hm⟩ : ∃ m : Nat, n.natAbs = m := ⟨_, rfl⟩
    by_cases hneg : n < 0
    · have hx64 : x < 18446744073709551616 := by have := h.out.2; rw [hu.out] at this; omega
      obtain ⟨o, ho⟩ : ∃ o, wholeO (some 4607182418800017408) (some x) m = o := ⟨_, rfl⟩
      obtain ⟨q, hq⟩ : ∃ q : Int, q = (cn o : Int) := ⟨_, rfl⟩
      have hUq : U64 q := by rw [hq]; exact u64_of_nat (cn_ok fun r hr => whole_fit hx64 m r (by rw [ho]; exact hr))
      have HD : Hid (∀ w, Calls Try.prog 50 #[.int .u64 4607182418800017408, .int .u64 q] w fun e w' => e = .returned (.int .u64 res) ∧ Below w.heap.size w w') := fun w => by
        have := refDiv_any 4607182418800017408 (cn o) 4607182418800017408 q w rfl hq (by unfold U64; omega) hUq
        have e : floatBits .quo .f64 4607182418800017408 (cn o) = powO x n := by
          unfold powO
          rw [if_neg hbig, if_pos hneg, hm, ho]
          cases o with
          | none => rw [cn_none, nan_right cn_nan]; rfl
          | some r => rfl
        rw [e, hres.out] at this; exact this
      have HW : Hid (∀ w, Calls Try.prog 17 #[.int .u64 u, .int .i64 (-n)] w fun e w' => e = .returned (.int .u64 q) ∧ Below w.heap.size w w') := fun w => by
        have := refPow_pos x m u q w hu h (by omega) (by rw [ho]; exact hq.symm)
        rw [show (m : Int) = -n by omega] at this; exact this
      have hb1 : ¬ (1048576 < n) := by omega
      have hb2 : ¬ (n < -1048576) := by omega
      clear hbig hm hUq hq ho hres
      go_enter Try.func17, Try.ntmps17
      go_wp2_with fail
      refine (HW.out _).mono ?_
      rintro e w1 ⟨rfl, hb⟩
      have HB1 := hideS hb
      clear hb
      go_wp2_with fail
      refine (HD.out _).mono ?_
      rintro e w2 ⟨rfl, hb⟩
      have HB2 := hideS (HB1.out.trans (hb.mono HB1.out.size))
      clear hb
      go_wp2_with fail
      go_ret
      exact ⟨rfl, HB2.out⟩
    · have e : powO x n = wholeO (some 4607182418800017408) (some x) m := by unfold powO; rw [if_neg hbig, if_neg hneg, hm]
      have := refPow_pos x m u res w hu h (by omega) (by rw [← e]; exact hres)
      rw [show (m : Int) = n by omega] at this; exact this
end Go.Proofs.Ytlbpekncaikabaa
