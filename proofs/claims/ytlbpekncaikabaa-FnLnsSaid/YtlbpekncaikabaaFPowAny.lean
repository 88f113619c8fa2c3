/- The contracts of whole and Pow at any float and any power. -/
import Derived.Test.YtlbpekncaikabaaFLn
namespace Go.Proofs.Ytlbpekncaikabaa
open Go.RowKit

def mulO (a b : Option Nat) : Option Nat := a.bind fun a => b.bind fun b => floatBits .mul .f64 a b
def wholeO (r b : Option Nat) (n : Nat) : Option Nat :=
  if n = 0 then r else wholeO (if n % 2 = 1 then mulO r b else r) (if n / 2 = 0 then b else mulO b b) (n / 2)
termination_by n
decreasing_by omega
theorem mulO_ag {o o' : Option Nat} {a c : Nat} (h : Ag o a) (h' : Ag o' c) : mulO o o' = floatBits .mul .f64 a c := by
  unfold mulO
  cases o with
  | none => rw [nan_left (ag_none h).1]; rfl
  | some r =>
    rw [ag_some h]
    cases o' with
    | none => rw [nan_right (ag_none h').1]; rfl
    | some r' => rw [ag_some h']; rfl
theorem wholeO_zero (r b : Option Nat) : wholeO r b 0 = r := by unfold wholeO; rw [if_pos rfl]
theorem wholeO_step (r b : Option Nat) {n : Nat} (h : n ≠ 0) : wholeO r b n = wholeO (if n % 2 = 1 then mulO r b else r) (if n / 2 = 0 then b else mulO b b) (n / 2) := by
  rw [wholeO, if_neg h]
/-- A product, whatever it is: a value and how much is drawn. -/
theorem run_mul_ag (t : TypeId) (a c : Nat) (w : World) : ∃ r, (∃ q, (binOp .mul t (.float .f64 a) (.float .f64 c)).run Try.prog w = .ok (.float .f64 r) (w.drewN q)) ∧ Ag (floatBits .mul .f64 a c) r := by
  cases h : floatBits .mul .f64 a c with
  | some r => exact ⟨r, ⟨0, run_float_arith (P := Try.prog) w .mul t .f64 a c r h⟩, rfl⟩
  | none => exact ⟨_, ⟨1, run_arith_nan (P := Try.prog) .mul (by simp) t a c h w⟩, nanAns_nan a c w⟩

set_option maxHeartbeats 1600000 in
theorem wholeF_any (x n : Nat) (w : World) (hn : n ≤ 1048576) :
    Calls Try.prog 51 #[.float .f64 x, .int .i64 (n : Int)] w fun e w' => ∃ r, e = .returned (.float .f64 r) ∧ Ag (wholeO (some 4607182418800017408) (some x) n) r ∧ ∃ q, w' = w.drewN q := by
  obtain ⟨res, hres⟩ : ∃ res, wholeO (some 4607182418800017408) (some x) n = res := ⟨_, rfl⟩
  rw [hres]
  have HRes := hideS hres
  clear hres
  go_enter Try.func51, Try.ntmps51
  go_wp2_with fail
  go_loopw [1, 5, 6] (fun m r b wr => ∃ k a c : Nat, k ≤ n ∧ m = .int .i64 k ∧ r = .float .f64 a ∧ b = .float .f64 c ∧ Hid (∃ ro bo, Ag ro a ∧ Ag bo c ∧ wholeO ro bo k = res) ∧ Hid (∃ q, wr = w.drewN q)) (fun m _ _ _ => (intOf m).toNat)
  case atStart => exact ⟨n, _, x, Nat.le_refl _, rfl, rfl, rfl, ⟨some 4607182418800017408, some x, rfl, rfl, HRes.out⟩, ⟨0, rfl⟩⟩
  case round =>
    obtain ⟨k, a, c, hk, rfl, rfl, rfl, HR, HQ⟩ := hrel
    by_cases hz : k = 0
    · subst hz
      have HE : Hid (Ag res a) := by
        obtain ⟨ro, bo, h1, _, h3⟩ := HR.out
        rw [wholeO_zero] at h3
        rw [← h3]; exact h1
      clear HR
      go_wp2
      go_ret
      exact ⟨_, rfl, HE.out, HQ.out⟩
    · have hand := i64_and_one k
      have hdiv : (k : Int) / 2 = ((k / 2 : Nat) : Int) := by omega
      have hjk : k / 2 * 2 + k % 2 = k := by omega
      obtain ⟨ro, bo, h1, h2, h3⟩ := HR.out
      rw [wholeO_step ro bo hz] at h3
      have hmr := mulO_ag h1 h2
      have hmb := mulO_ag h2 h2
      have HR1 := hideS h1
      have HR2 := hideS h2
      have HR3 := hideS h3
      obtain ⟨k2, hk2⟩ : ∃ k2, k / 2 = k2 := ⟨_, rfl⟩
      rw [hk2] at hdiv hjk HR3
      clear h1 h2 h3 HR hk2
      rw [hmr, hmb] at HR3
      clear hmr hmb
      rcases (show k % 2 = 0 ∨ k % 2 = 1 by omega) with hpar | hpar
      · rw [hpar] at hand hjk
        rw [hpar, if_neg (by decide)] at HR3
        have hk20 : k2 ≠ 0 := by omega
        rw [if_neg hk20] at HR3
        have hgt : (0 : Int) < (k2 : Int) := by omega
        obtain ⟨cc, ⟨q2, r2⟩, hag⟩ := run_mul_ag 22 c c wr
        have HG := hideS hag
        clear hag hpar hk20
        go_wp2_with fail
        go_roundw
        case rel => exact ⟨k2, a, cc, by omega, rfl, rfl, rfl, ⟨_, _, HR1.out, HG.out, HR3.out⟩, by obtain ⟨q, e⟩ := HQ.out; exact ⟨q + q2, by rw [e, World.drewN_drewN]⟩⟩
        case measure => simp [intOf]; omega
      · rw [hpar] at hand hjk
        rw [hpar, if_pos rfl] at HR3
        obtain ⟨aa, ⟨q1, r1⟩, hag⟩ := run_mul_ag 22 a c wr
        have HG1 := hideS hag
        clear hag hpar
        by_cases hk20 : k2 = 0
        · subst hk20
          rw [if_pos rfl] at HR3
          go_wp2_with fail
          go_roundw
          case rel => exact ⟨0, aa, c, by omega, rfl, rfl, rfl, ⟨_, _, HG1.out, HR2.out, HR3.out⟩, by obtain ⟨q, e⟩ := HQ.out; exact ⟨q + q1, by rw [e, World.drewN_drewN]⟩⟩
          case measure => simp [intOf]; omega
        · rw [if_neg hk20] at HR3
          have hgt : (0 : Int) < (k2 : Int) := by omega
          obtain ⟨cc, ⟨q2, r2⟩, hag⟩ := run_mul_ag 22 c c (wr.drewN q1)
          have HG := hideS hag
          clear hag hk20
          go_wp2_with fail
          go_roundw
          case rel => exact ⟨k2, aa, cc, by omega, rfl, rfl, rfl, ⟨_, _, HG1.out, HG.out, HR3.out⟩, by obtain ⟨q, e⟩ := HQ.out; exact ⟨q + (q1 + q2), by rw [e, World.drewN_drewN]⟩⟩
          case measure => simp [intOf]; omega

/-- What Pow tells. -/
def powO (x : Nat) (n : Int) : Option Nat :=
  if 1048576 < n ∨ n < -1048576 then none else if n < 0 then (wholeO (some 4607182418800017408) (some x) n.natAbs).bind fun r => floatBits .quo .f64 4607182418800017408 r else wholeO (some 4607182418800017408) (some x) n.natAbs
theorem run_quo_ag (t : TypeId) (a c : Nat) (w : World) : ∃ r, (∃ q, (binOp .quo t (.float .f64 a) (.float .f64 c)).run Try.prog w = .ok (.float .f64 r) (w.drewN q)) ∧ Ag (floatBits .quo .f64 a c) r := by
  cases h : floatBits .quo .f64 a c with
  | some r => exact ⟨r, ⟨0, run_float_arith (P := Try.prog) w .quo t .f64 a c r h⟩, rfl⟩
  | none => exact ⟨_, ⟨1, run_arith_nan (P := Try.prog) .quo (by simp) t a c h w⟩, nanAns_nan a c w⟩

set_option maxHeartbeats 800000 in
theorem pow_any (x : Nat) (n : Int) (w : World) (hn1 : -9223372036854775808 ≤ n) (hn2 : n ≤ 9223372036854775807) :
    Calls Try.prog 16 #[.float .f64 x, .int .i64 n] w fun e w' => ∃ r, e = .returned (.float .f64 r) ∧ Ag (powO x n) r ∧ ∃ q, w' = w.drewN q := by
  by_cases hbig : 1048576 < n ∨ n < -1048576
  · have HP : Hid (powO x n = none) := by show _ = _; unfold powO; rw [if_pos hbig]
    have HN := hideS (nan_math w)
    rcases hbig with hbig | hbig
    all_goals
      go_enter Try.func16, Try.ntmps16
      go_wp2_with fail
      refine HN.out.mono ?_
      rintro e w' ⟨rfl, rfl⟩
      go_wp2_with fail
      go_ret
      exact ⟨_, rfl, by rw [HP.out]; exact ⟨by decide +kernel, by decide⟩, 0, rfl⟩
  · obtain ⟨m, hm⟩ : ∃ m : Nat, n.natAbs = m := ⟨_, rfl⟩
    have HW := hideS (wholeF_any x m w (by omega))
    by_cases hneg : n < 0
    · have HP : Hid (powO x n = (wholeO (some 4607182418800017408) (some x) m).bind fun r => floatBits .quo .f64 4607182418800017408 r) := by show _ = _; unfold powO; rw [if_neg hbig, if_pos hneg, hm]
      have hmn : (m : Int) = -n := by omega
      rw [hmn] at HW
      have hb1 : ¬ (1048576 < n) := by omega
      have hb2 : ¬ (n < -1048576) := by omega
      clear hbig hm hmn
      generalize wholeO (some 4607182418800017408) (some x) m = ro at HW HP
      go_enter Try.func16, Try.ntmps16
      go_wp2_with fail
      refine HW.out.mono ?_
      rintro e w' ⟨r, rfl, hag, q, hw'⟩
      obtain ⟨rr, ⟨q2, r2⟩, hag2⟩ := run_quo_ag 22 4607182418800017408 r w'
      have HE : Hid (Ag (powO x n) rr) := by
        rw [HP.out]
        cases ro with
        | none => rw [nan_right (ag_none hag).1] at hag2; exact hag2
        | some r0 => rw [ag_some hag] at hag2; exact hag2
      have HQ : Hid (∃ q, w'.drewN q2 = w.drewN q) := ⟨q + q2, by rw [hw', World.drewN_drewN]⟩
      clear hag hag2 hw' HP HW
      go_wp2_with fail
      go_ret
      exact ⟨_, rfl, HE.out, HQ.out⟩
    · have HP : Hid (powO x n = wholeO (some 4607182418800017408) (some x) m) := by show _ = _; unfold powO; rw [if_neg hbig, if_neg hneg, hm]
      have hmn : (m : Int) = n := by omega
      rw [hmn] at HW
      have hb1 : ¬ (1048576 < n) := by omega
      have hb2 : ¬ (n < -1048576) := by omega
      clear hbig hm hmn
      rw [← HP.out] at HW
      go_enter Try.func16, Try.ntmps16
      go_wp2_with fail
      refine HW.out.mono ?_
      rintro e w' ⟨r, rfl, hag, q, hw'⟩
      have HE := hideS hag
      have HQ : Hid (∃ q, w' = w.drewN q) := ⟨q, hw'⟩
      clear hag hw' HP HW
      go_wp2_with fail
      go_ret
      exact ⟨_, rfl, HE.out, HQ.out⟩
end Go.Proofs.Ytlbpekncaikabaa
