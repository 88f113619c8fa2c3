/- The walk of FnPows: any float, any power. -/
import Derived.Test.YtlbpekncaikabaaRefPow
import Derived.Test.YtlbpekncaikabaaWFnHorners
namespace Go.Proofs.Ytlbpekncaikabaa
open Go.RowKit

theorem i64_wf {n : Int} (h : (Lit.int .i64 n).wf = true) : -9223372036854775808 ≤ n ∧ n ≤ 9223372036854775807 := by
  simp only [Lit.wf, IntKind.min, IntKind.max, IntKind.signed, IntKind.bits] at h
  simp at h
  omega

set_option maxRecDepth 20000 in
set_option maxHeartbeats 1600000 in
theorem fnPows_walk (x : Nat) (n : Int) (wx : (Lit.float .f64 x).wf = true) (wn : (Lit.int .i64 n).wf = true) (w : World) :
    Calls Try.prog 5 #[.float .f64 x, .int .i64 n] w fun e w' => e = .returned (.bool true) ∧ Below w.heap.size w w' := by
  have hx := u64_of_wf wx
  obtain ⟨hn1, hn2⟩ := i64_wf wn
  have hx64 : x < 18446744073709551616 := by have := hx.2; omega
  obtain ⟨u, hu⟩ : ∃ u : Int, u = (x : Int) := ⟨_, rfl⟩
  obtain ⟨z, hz⟩ : ∃ z : Int, (cn (powO x n) : Int) = z := ⟨_, rfl⟩
  have HP := hideS fun w => pow_any x n w hn1 hn2
  have HR := hideS fun w => refPow_any x n u z w hu (by rw [hu]; exact hx) hn1 hn2 hz
  have HBits : Hid (∀ w, Calls Try.prog 12 #[.float .f64 x] w fun e w' => e = .returned (.int .u64 u) ∧ w' = w) := fun w => by rw [hu]; exact bits_any x w
  have HIs : Hid (∀ r w, Ag (powO x n) r → Calls Try.prog 9 #[.float .f64 r, .int .u64 z] w fun e w' => e = .returned (.bool true) ∧ w = w') := fun r w hag =>
    isA r z w (u64_of_nat (ag_lt hag (powO_fit hx64 n))) (by rw [← hz]; exact u64_of_nat (cn_ok (powO_fit hx64 n))) (by rw [← hz]; exact ag_same hag)
  clear wx wn hx hx64 hu hz
  go_enter Try.func5, Try.ntmps5
  go_wp2_with fail
  refine (HP.out _).mono ?_
  rintro e w1 ⟨r, rfl, hag, hq⟩
  have HA := hideS hag
  have HB1 := hideS (below_dr2 (Below.refl w.heap.size w) hq)
  clear hag hq HP
  go_wp2_with fail
  refine (turned (HBits.out _)).mono ?_
  rintro e w' ⟨rfl, rfl⟩
  go_wp2_with fail
  refine (HR.out _).mono ?_
  rintro e w2 ⟨rfl, hb⟩
  have HB2 := hideS (HB1.out.trans (hb.mono HB1.out.size))
  clear hb HR
  go_wp2_with fail
  refine (HIs.out _ _ HA.out).mono ?_
  rintro e w' ⟨rfl, rfl⟩
  go_wp2_with fail
  refine (awake4 _).mono ?_
  rintro e w5 ⟨rfl, hb⟩
  have B5 := hideS (HB2.out.trans (hb.mono HB2.out.size))
  clear hb
  go_wp2_with fail
  go_ret
  exact ⟨rfl, B5.out⟩
end Go.Proofs.Ytlbpekncaikabaa
