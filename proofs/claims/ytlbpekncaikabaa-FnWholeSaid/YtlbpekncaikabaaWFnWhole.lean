/- The walk of FnWhole: powers of whole numbers, and of 2, are exact. -/
import Derived.Test.YtlbpekncaikabaaFAwake
namespace Go.Proofs.Ytlbpekncaikabaa
open Go.RowKit

theorem pow2_any (k : Int) (w : World) (h1 : -1022 ≤ k) (h2 : k ≤ 1023) :
    Calls Try.prog 16 #[.float .f64 4611686018427387904, .int .i64 k] w fun e w' => e = .returned (.float .f64 (P2 k)) ∧ w' = w := by
  by_cases h : 0 ≤ k
  · obtain ⟨n, rfl⟩ := Int.eq_ofNat_of_zero_le h
    exact pow2_pos n w (by omega)
  · obtain ⟨n, hn⟩ := Int.eq_ofNat_of_zero_le (show 0 ≤ -k by omega)
    have hk : k = -(n : Int) := by omega
    rw [hk]
    exact pow2_neg n w (by omega) (by omega)
theorem neq_fi {m : Int} (h1 : -9007199254740992 ≤ m) (h2 : m ≤ 9007199254740992) : (FloatKind.f64.format.order (fi m) (fi m) != some .eq) = false := by
  obtain ⟨_, _, a, b⟩ := aV_fi (a := m) rfl h1 h2
  have : nanB (fi m : Int) = false := by
    unfold NumB at a
    unfold nanB szI
    rw [decide_eq_false_iff_not]; omega
  rw [bne, eq_self (u64_of_nat b), this]; rfl
theorem prod_bd {p x : Int} (h1 : -8589934592 < p) (h2 : p < 8589934592) (h3 : -536870912 < x) (h4 : x < 536870912) : -4611686018427387904 ≤ p * x ∧ p * x ≤ 4611686018427387904 := by
  have h5 : (p * x).natAbs ≤ 8589934592 * 536870912 := by
    rw [Int.natAbs_mul]
    exact Nat.mul_le_mul (by omega) (by omega)
  omega

theorem i64_of_wf {n : Int} (h : (Lit.int .i64 n).wf = true) : -9223372036854775808 ≤ n ∧ n ≤ 9223372036854775807 := by
  simp only [Lit.wf, IntKind.min, IntKind.max, IntKind.signed, IntKind.bits] at h
  simp at h
  omega
theorem bits_whole (b : Nat) (u : Int) (w : World) (h : Hid (u = (b : Int))) :
    Calls Try.prog 12 #[.float .f64 b] w fun e w' => e = .returned (.int .u64 u) ∧ w' = w := by
  rw [h.out]; exact bits_any b w

set_option maxRecDepth 20000 in
set_option maxHeartbeats 3200000 in
theorem fnWhole_walk (x n k : Int) (_hx : (Lit.int .i64 x).wf = true) (_hn : (Lit.int .i64 n).wf = true) (hk : (Lit.int .i64 k).wf = true) (w : World) :
    Calls Try.prog 8 #[.int .i64 x, .int .i64 n, .int .i64 k] w fun e w' => e = .returned (.bool true) ∧ Below w.heap.size w w' := by
  have hk2 := i64_of_wf hk
  clear hk
  have HA := hideS (awake4 w)
  obtain ⟨b2, hb2⟩ : ∃ b2, P2 k = b2 := ⟨_, rfl⟩
  obtain ⟨u, hu⟩ : ∃ u : Int, u = (b2 : Int) := ⟨_, rfl⟩
  have HBt := hideS (bits_whole b2 u w hu)
  have HP : Hid (-1022 ≤ k ∧ k ≤ 1023 → Calls Try.prog 16 #[.float .f64 4611686018427387904, .int .i64 k] w fun e w' => e = .returned (.float .f64 b2) ∧ w' = w) := fun h => by rw [← hb2]; exact pow2_any k w h.1 h.2
  have HU : Hid (-1022 ≤ k ∧ k ≤ 1023 → u = (k + 1023) * 4503599627370496) := fun h => by rw [hu, ← hb2, P2_eq h.1 h.2]; omega
  clear hb2 hu
  by_cases hA : 0 ≤ n ∧ n ≤ 60 ∧ -536870912 < x ∧ x < 536870912
  · obtain ⟨hn0, hn1, hx0, hx1⟩ := hA
    obtain ⟨m, hm⟩ := Int.eq_ofNat_of_zero_le hn0
    have HM : Hid (n = (m : Int)) := hm
    clear hm
    go_enter Try.func8, Try.ntmps8
    go_wp2_with fail
    go_loop [7, 8, 9] (fun p f i => ∃ (j : Nat) (y : Int) (b : Bool), (j : Int) ≤ n ∧ p = .int .i64 y ∧ f = .bool b ∧ i = .int .i64 j ∧ Hid (b = true → y = x ^ j ∧ ∀ i, i ≤ j → -8589934592 < x ^ i ∧ x ^ i < 8589934592)) (fun _ _ i => (n - intOf i).toNat)
    case atStart => exact ⟨0, 1, true, hn0, rfl, rfl, rfl, fun _ => ⟨(Int.pow_zero x).symm, fun i hi => by rw [show i = 0 by omega, Int.pow_zero]; decide⟩⟩
    case round =>
      obtain ⟨j, y, b, hj, rfl, rfl, rfl, HY⟩ := hrel
      cases b with
      | true =>
        have hy := (HY.out rfl).2 j (Nat.le_refl _)
        rw [← (HY.out rfl).1] at hy
        by_cases hlt : (j : Int) < n
        · have hpb := prod_bd hy.1 hy.2 hx0 hx1
          obtain ⟨z, hz⟩ : ∃ z, y * x = z := ⟨_, rfl⟩
          have HZ : Hid (z = x ^ (j + 1)) := by show _ = _; rw [← hz, (HY.out rfl).1, Int.pow_succ]
          rw [hz] at hpb
          by_cases hz1 : -8589934592 < z
          · by_cases hz2 : z < 8589934592
            · have HY2 : Hid ((true : Bool) = true → z = x ^ (j + 1) ∧ ∀ i, i ≤ j + 1 → -8589934592 < x ^ i ∧ x ^ i < 8589934592) := fun _ => ⟨HZ.out, fun i hi => by
                by_cases h : i = j + 1
                · rw [h, ← HZ.out]; exact ⟨hz1, hz2⟩
                · exact (HY.out rfl).2 i (by omega)⟩
              clear HY HZ
              go_wp2_with fail
              go_round
              case rel => exact ⟨j + 1, z, true, by omega, rfl, rfl, by simp, HY2⟩
              case measure => simp [intOf]; omega
            · clear HY HZ
              go_wp2_with fail
              go_round
              case rel => exact ⟨j + 1, z, false, by omega, rfl, rfl, by simp, fun h => by cases h⟩
              case measure => simp [intOf]; omega
          · clear HY HZ
            go_wp2_with fail
            go_round
            case rel => exact ⟨j + 1, z, false, by omega, rfl, rfl, by simp, fun h => by cases h⟩
            case measure => simp [intOf]; omega
        · have hjn : (j : Int) = n := by omega
          have HW : Hid (Calls Try.prog 16 #[.float .f64 (fi x), .int .i64 n] w fun e w' => e = .returned (.float .f64 (fi y)) ∧ w' = w) := by
            have := pow_whole x j w (by omega) (by omega) (fun i hi => by have := (HY.out rfl).2 i hi; omega)
            rw [hjn, ← (HY.out rfl).1] at this; exact this
          have hfx := floatOf_fi x
          have hfy := floatOf_fi y
          have hne := neq_fi (m := y) (by omega) (by omega)
          clear HY hjn
          generalize fi x = fx at hfx HW
          generalize fi y = fy at hfy HW hne
          rcases (show k < -1022 ∨ (-1022 ≤ k ∧ k ≤ 1023) ∨ 1023 < k by omega) with hkr | hkr | hkr
          · go_wp2_with fail
            refine (turned HW.out).mono ?_
            rintro e w' ⟨rfl, rfl⟩
            go_wp2_with fail
            refine HA.out.mono ?_
            rintro e w1 ⟨rfl, hb⟩
            go_wp2_with fail
            go_ret
            exact ⟨rfl, hb⟩
          · go_wp2_with fail
            refine (turned HW.out).mono ?_
            rintro e w' ⟨rfl, rfl⟩
            go_wp2_with fail
            refine (turned (HP.out hkr)).mono ?_
            rintro e w' ⟨rfl, rfl⟩
            go_wp2_with fail
            refine (turned HBt.out).mono ?_
            rintro e w' ⟨rfl, rfl⟩
            have hu := HU.out hkr
            have hk3 := hkr.1
            have hk4 := hkr.2
            go_wp2_with fail
            refine HA.out.mono ?_
            rintro e w1 ⟨rfl, hb⟩
            go_wp2_with fail
            go_ret
            exact ⟨rfl, hb⟩
          · go_wp2_with fail
            refine (turned HW.out).mono ?_
            rintro e w' ⟨rfl, rfl⟩
            go_wp2_with fail
            refine HA.out.mono ?_
            rintro e w1 ⟨rfl, hb⟩
            go_wp2_with fail
            go_ret
            exact ⟨rfl, hb⟩
      | false =>
        clear HY
        rcases (show (j : Int) < n ∨ n ≤ (j : Int) by omega) with hlt | hlt
        all_goals
          rcases (show k < -1022 ∨ (-1022 ≤ k ∧ k ≤ 1023) ∨ 1023 < k by omega) with hkr | hkr | hkr
          · go_wp2_with fail
            refine HA.out.mono ?_
            rintro e w1 ⟨rfl, hb⟩
            go_wp2_with fail
            go_ret
            exact ⟨rfl, hb⟩
          · go_wp2_with fail
            refine (turned (HP.out hkr)).mono ?_
            rintro e w' ⟨rfl, rfl⟩
            go_wp2_with fail
            refine (turned HBt.out).mono ?_
            rintro e w' ⟨rfl, rfl⟩
            have hu := HU.out hkr
            have hk3 := hkr.1
            have hk4 := hkr.2
            go_wp2_with fail
            refine HA.out.mono ?_
            rintro e w1 ⟨rfl, hb⟩
            go_wp2_with fail
            go_ret
            exact ⟨rfl, hb⟩
          · go_wp2_with fail
            refine HA.out.mono ?_
            rintro e w1 ⟨rfl, hb⟩
            go_wp2_with fail
            go_ret
            exact ⟨rfl, hb⟩
  · rcases (show n < 0 ∨ (0 ≤ n ∧ 60 < n) ∨ (0 ≤ n ∧ n ≤ 60 ∧ x ≤ -536870912) ∨ (0 ≤ n ∧ n ≤ 60 ∧ -536870912 < x ∧ 536870912 ≤ x) by omega) with hq | hq | hq | hq
    all_goals
      clear hA
      rcases (show k < -1022 ∨ (-1022 ≤ k ∧ k ≤ 1023) ∨ 1023 < k by omega) with hkr | hkr | hkr
      · go_enter Try.func8, Try.ntmps8
        go_wp2_with fail
        refine HA.out.mono ?_
        rintro e w1 ⟨rfl, hb⟩
        go_wp2_with fail
        go_ret
        exact ⟨rfl, hb⟩
      · go_enter Try.func8, Try.ntmps8
        go_wp2_with fail
        refine (turned (HP.out hkr)).mono ?_
        rintro e w' ⟨rfl, rfl⟩
        go_wp2_with fail
        refine (turned HBt.out).mono ?_
        rintro e w' ⟨rfl, rfl⟩
        have hu := HU.out hkr
        have hk3 := hkr.1
        have hk4 := hkr.2
        go_wp2_with fail
        refine HA.out.mono ?_
        rintro e w1 ⟨rfl, hb⟩
        go_wp2_with fail
        go_ret
        exact ⟨rfl, hb⟩
      · go_enter Try.func8, Try.ntmps8
        go_wp2_with fail
        refine HA.out.mono ?_
        rintro e w1 ⟨rfl, hb⟩
        go_wp2_with fail
        go_ret
        exact ⟨rfl, hb⟩
end Go.Proofs.Ytlbpekncaikabaa
