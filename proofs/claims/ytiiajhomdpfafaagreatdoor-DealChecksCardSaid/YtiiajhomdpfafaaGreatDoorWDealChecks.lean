/- The walk of DealChecks. -/
import Derived.Test.YtiiajhomdpfafaaGreatDoorHbt
import Derived.Test.YtiiajhomdpfafaaGreatDoorHbm
import Derived.Test.YtiiajhomdpfafaaGreatDoorHbn
namespace Go.Proofs.YtiiajhomdpfafaaGreatDoor
open Go.RowKit

set_option maxRecDepth 20000 in
set_option maxHeartbeats 12800000 in
theorem dealChecks_core (p : Option Addr) (N c : Nat) (D E A : Int) (W : World → Option Addr → Nat → Prop) (w : World)
    (HO : Hid (N ≤ 1100 → ∀ w1, Below w.heap.size w w1 → Calls Tryz.prog 6 #[.slice p N c] w1 fun e w' => (∃ q cq, e = .returned (.slice q N cq) ∧ W w' q cq) ∧ Below w.heap.size w w'))
    (HC : Hid (∀ w1, Below w.heap.size w w1 → Calls Tryz.prog 7 #[.slice p N c] w1 fun e w' => e = .returned (.tuple #[.int .i64 E, .int .i64 A]) ∧ Below w.heap.size w w' ∧ Below w1.heap.size w1 w'))
    (HCd : Hid (N ≤ 1100 → ∀ w1 q cq, Below w.heap.size w w1 → W w1 q cq → Calls Tryz.prog 8 #[.slice q N cq] w1 fun e w' => e = .returned (.tuple #[.int .i64 E, .int .i64 A]) ∧ Below w.heap.size w w' ∧ Below w1.heap.size w1 w'))
    (HD : Hid (∀ w1, Below w.heap.size w w1 → Calls Tryz.prog 9 #[.slice p N c] w1 fun e w' => e = .returned (.tuple #[.int .i64 D, .int .i64 E]) ∧ Below w.heap.size w w' ∧ Below w1.heap.size w1 w'))
    (HDd : Hid (N ≤ 1100 → ∀ w1 q cq, Below w.heap.size w w1 → W w1 q cq → Calls Tryz.prog 10 #[.slice q N cq] w1 fun e w' => e = .returned (.tuple #[.int .i64 D, .int .i64 E]) ∧ Below w.heap.size w w'))
    (HKp : Hid (∀ w1 w2 q cq, W w1 q cq → Below w1.heap.size w1 w2 → W w2 q cq))
    (HPr : Hid (E ≠ 0 → ∀ w1, Below w.heap.size w w1 → Calls Tryz.prog 11 #[.slice p N c] w1 fun e w' => e = .returned (.tuple #[.string ⟨#[]⟩, .int .i64 E]) ∧ Below w.heap.size w w'))
    (HFl : Hid (E ≠ 0 → ∀ w1, Below w.heap.size w w1 → Calls Tryz.prog 12 #[.slice p N c] w1 fun e w' => e = .returned (.tuple #[.slice none 0 0, .int .i64 E]) ∧ Below w.heap.size w w'))
    (HAw : Hid (∀ w1, Below w.heap.size w w1 → Calls Tryz.prog 5 #[] w1 fun e w' => e = .returned (.bool true) ∧ Below w.heap.size w w')) :
    Calls Tryz.prog 3 #[.slice p N c] w fun e w' => e = .returned (.bool true) ∧ Below w.heap.size w w' := by
  have H0 := hidD (Below.refl w.heap.size w)
  go_enter Tryz.func3, Tryz.ntmps3
  by_cases hl : N ≤ 1100
  rotate_left
  · have i1 : (1100 : Int) < (N : Int) := by omega
    clear hl
    go_wp2_with fail
    refine (HAw.out _ H0.out).mono ?_
    rintro e w1 ⟨rfl, hb⟩
    have H1 := hidD hb
    clear hb
    go_wp2_with fail
    go_ret
    exact ⟨rfl, H1.out⟩
  have i1 : ¬ (1100 : Int) < (N : Int) := by omega
  have hEE : (E == E) = true := beq_self_eq_true E
  have hAA : (A == A) = true := beq_self_eq_true A
  have hDD : (D == D) = true := beq_self_eq_true D
  have HO' := hidD (HO.out hl)
  have HCd' := hidD (HCd.out hl)
  have HDd' := hidD (HDd.out hl)
  clear HO HCd HDd hl
  go_wp2_with fail
  refine (HO'.out _ H0.out).mono ?_
  rintro e w1 ⟨⟨q, cq, rfl, hw⟩, hb⟩
  have H1 := hidD (And.intro hb hw)
  clear hb hw
  go_wp2_with fail
  refine (HC.out _ H1.out.1).mono ?_
  rintro e w2 ⟨rfl, hb, hb'⟩
  have H2 := hidD (And.intro hb (HKp.out _ _ _ _ H1.out.2 hb'))
  clear hb hb'
  go_wp2_with fail
  refine (HCd'.out _ _ _ H2.out.1 H2.out.2).mono ?_
  rintro e w3 ⟨rfl, hb, hb'⟩
  have H3 := hidD (And.intro hb (HKp.out _ _ _ _ H2.out.2 hb'))
  clear hb hb'
  go_wp2_with fail
  refine (HD.out _ H3.out.1).mono ?_
  rintro e w4 ⟨rfl, hb, hb'⟩
  have H4 := hidD (And.intro hb (HKp.out _ _ _ _ H3.out.2 hb'))
  clear hb hb'
  go_wp2_with fail
  refine (HDd'.out _ _ _ H4.out.1 H4.out.2).mono ?_
  rintro e w5 ⟨rfl, hb⟩
  have H5 := hidD hb
  clear hb
  by_cases hE : E = 0
  · have hE0 : (E == 0) = true := beq_iff_eq.2 hE
    clear hE
    go_wp2_with fail
    refine (HAw.out _ H5.out).mono ?_
    rintro e w6 ⟨rfl, hb⟩
    have H6 := hidD hb
    clear hb
    go_wp2_with fail
    go_ret
    exact ⟨rfl, H6.out⟩
  · have hE0 : (E == 0) = false := beq_eq_false_iff_ne.2 hE
    have HPr' := hidD (HPr.out hE)
    have HFl' := hidD (HFl.out hE)
    clear hE HPr HFl
    go_wp2_with fail
    refine (HPr'.out _ H5.out).mono ?_
    rintro e w6 ⟨rfl, hb⟩
    have H6 := hidD hb
    clear hb
    go_wp2_with fail
    refine (HFl'.out _ H6.out).mono ?_
    rintro e w7 ⟨rfl, hb⟩
    have H7 := hidD hb
    clear hb
    go_wp2_with fail
    refine (HAw.out _ H7.out).mono ?_
    rintro e w8 ⟨rfl, hb⟩
    have H8 := hidD hb
    clear hb
    go_wp2_with fail
    go_ret
    exact ⟨rfl, H8.out⟩
theorem dealChecks_walk (p : Option Addr) (b off c : Nat) (l : List Trm) (w : World) (hs : TSrc w p b off l) (hu : ∀ i < l.length, TrU (l.getD i trm0)) (hc : l.length * 88 ≤ 140737488355328) (hp : Aw17 w) :
    Calls Tryz.prog 3 #[.slice p l.length c] w fun e w' => e = .returned (.bool true) ∧ Below w.heap.size w w' := by
  obtain ⟨D, E, A, hm⟩ := mesR_ex l
  have hl : l.length ≤ 9223372036854775807 := by omega
  refine dealChecks_core p l.length c D E A (fun w' q _ => ∃ g, TDS w' q g 0 l) w ?_ ?_ ?_ ?_ ?_ ?_ ?_ ?_ ?_
  · intro _ w1 hb
    refine (r17Of_any l l.length p b off c w1 (hs.below hb) rfl hc).mono fun e w' ⟨⟨q', cq', he, ho⟩, h⟩ => ⟨⟨q', cq', he, tds_of ho rfl⟩, hb.trans (h.mono hb.size)⟩
  · intro w1 hb
    exact (dCheck_is hm l.length p b off c w1 (hs.below hb) rfl hu hl).mono fun e w' ⟨he, h⟩ => ⟨he, hb.trans (h.mono hb.size), h⟩
  · intro _ w1 q cq hb ⟨g, hd⟩
    exact (r17Check_is hm l.length q g 0 cq w1 hd rfl hu hl).mono fun e w' ⟨he, h⟩ => ⟨he, hb.trans (h.mono hb.size), h⟩
  · intro w1 hb
    exact (dDepth_is hm l.length p b off c w1 (hs.below hb) rfl hu hl).mono fun e w' ⟨he, h⟩ => ⟨he, hb.trans (h.mono hb.size), h⟩
  · intro _ w1 q cq hb ⟨g, hd⟩
    exact (r17Depth_is hm l.length q g 0 cq w1 hd rfl hu hl).mono fun e w' ⟨he, h⟩ => ⟨he, hb.trans (h.mono hb.size)⟩
  · intro w1 w2 q cq ⟨g, h⟩ hb
    exact ⟨g, h.below hb⟩
  · intro hE w1 hb
    exact (dPrint_bad hm hE l.length p b off c w1 (hs.below hb) rfl hu hl).mono fun e w' ⟨he, h⟩ => ⟨he, hb.trans (h.mono hb.size)⟩
  · intro hE w1 hb
    exact (dFlows_bad hm hE l.length p b off c w1 (hs.below hb) rfl hu hl).mono fun e w' ⟨he, h⟩ => ⟨he, hb.trans (h.mono hb.size)⟩
  · exact fun w1 hb => (awake17 w1 (hp.below hb)).mono fun e w' ⟨he, h⟩ => ⟨he, hb.trans (h.mono hb.size)⟩
end Go.Proofs.YtiiajhomdpfafaaGreatDoor
