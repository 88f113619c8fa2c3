/- The walk of DealPrints. -/
import Derived.Test.YtiiajhomdpfafaaGreatDoorHbp
import Derived.Test.YtiiajhomdpfafaaGreatDoorHbg
import Derived.Test.YtiiajhomdpfafaaGreatDoorDtE
import Derived.Test.YtiiajhomdpfafaaGreatDoorHbh
namespace Go.Proofs.YtiiajhomdpfafaaGreatDoor
open Go.RowKit

set_option maxRecDepth 20000 in
set_option maxHeartbeats 12800000 in
theorem dealPrints_core (p : Option Addr) (N c : Nat) (S : ByteArray) (E : Int) (W : World → Option Addr → Nat → Prop) (w : World)
    (HPr : Hid (N ≤ 300 → ∀ w1, Below w.heap.size w w1 → Calls Tryz.prog 11 #[.slice p N c] w1 fun e w' => e = .returned (.tuple #[.string S, .int .i64 E]) ∧ Below w.heap.size w w'))
    (HO : Hid (N ≤ 300 → ∀ w1, Below w.heap.size w w1 → Calls Tryz.prog 6 #[.slice p N c] w1 fun e w' => (∃ q cq, e = .returned (.slice q N cq) ∧ W w' q cq) ∧ Below w.heap.size w w'))
    (HPd : Hid (N ≤ 300 → ∀ w1 q cq, Below w.heap.size w w1 → W w1 q cq → Calls Tryz.prog 13 #[.slice q N cq] w1 fun e w' => e = .returned (.tuple #[.string S, .int .i64 E]) ∧ Below w.heap.size w w'))
    (HAw : Hid (∀ w1, Below w.heap.size w w1 → Calls Tryz.prog 5 #[] w1 fun e w' => e = .returned (.bool true) ∧ Below w.heap.size w w')) :
    Calls Tryz.prog 4 #[.slice p N c] w fun e w' => e = .returned (.bool true) ∧ Below w.heap.size w w' := by
  have H0 := hidD (Below.refl w.heap.size w)
  go_enter Tryz.func4, Tryz.ntmps4
  by_cases hl : N ≤ 300
  rotate_left
  · have i1 : (300 : Int) < (N : Int) := by omega
    clear hl
    go_wp2_with fail
    refine (HAw.out _ H0.out).mono ?_
    rintro e w1 ⟨rfl, hb⟩
    have H1 := hidD hb
    clear hb
    go_wp2_with fail
    go_ret
    exact ⟨rfl, H1.out⟩
  have i1 : ¬ (300 : Int) < (N : Int) := by omega
  have hEE : (E == E) = true := beq_self_eq_true E
  have HPr' := hidD (HPr.out hl)
  have HO' := hidD (HO.out hl)
  have HPd' := hidD (HPd.out hl)
  clear HPr HO HPd hl
  go_wp2_with fail
  refine (HPr'.out _ H0.out).mono ?_
  rintro e w1 ⟨rfl, hb⟩
  have H1 := hidD hb
  clear hb
  go_wp2_with fail
  refine (HO'.out _ H1.out).mono ?_
  rintro e w2 ⟨⟨q, cq, rfl, hw⟩, hb⟩
  have H2 := hidD (And.intro hb hw)
  clear hb hw
  go_wp2_with fail
  refine (HPd'.out _ _ _ H2.out.1 H2.out.2).mono ?_
  rintro e w3 ⟨rfl, hb⟩
  have H3 := hidD hb
  clear hb
  go_wp2_with fail
  refine (HAw.out _ H3.out).mono ?_
  rintro e w4 ⟨rfl, hb⟩
  have H4 := hidD hb
  clear hb
  go_wp2_with fail
  go_ret
  exact ⟨rfl, H4.out⟩
theorem dealPrints_walk (p : Option Addr) (b off c : Nat) (l : List Trm) (w : World) (hs : TSrc w p b off l) (hu : ∀ i < l.length, TrU (l.getD i trm0)) (hc : l.length * 88 ≤ 140737488355328) (hp : Aw17 w) :
    Calls Tryz.prog 4 #[.slice p l.length c] w fun e w' => e = .returned (.bool true) ∧ Below w.heap.size w w' := by
  obtain ⟨D, E, A, hm⟩ := mesR_ex l
  obtain ⟨dy, hd⟩ := dy_ex
  have hl : l.length ≤ 9223372036854775807 := by omega
  have HO : Hid (l.length ≤ 300 → ∀ w1, Below w.heap.size w w1 → Calls Tryz.prog 6 #[.slice p l.length c] w1 fun e w' => (∃ q cq, e = .returned (.slice q l.length cq) ∧ ∃ g, TDS w' q g 0 l) ∧ Below w.heap.size w w') := fun _ w1 hb => by
    refine (r17Of_any l l.length p b off c w1 (hs.below hb) rfl hc).mono fun e w' ⟨⟨q', cq', he, ho⟩, h⟩ => ⟨⟨q', cq', he, tds_of ho rfl⟩, hb.trans (h.mono hb.size)⟩
  have HAw : Hid (∀ w1, Below w.heap.size w w1 → Calls Tryz.prog 5 #[] w1 fun e w' => e = .returned (.bool true) ∧ Below w.heap.size w w') := fun w1 hb => (awake17 w1 (hp.below hb)).mono fun e w' ⟨he, h⟩ => ⟨he, hb.trans (h.mono hb.size)⟩
  by_cases hE : E = 0
  · subst hE
    obtain ⟨g1, g2, g3⟩ := hm.good
    refine dealPrints_core p l.length c (WT dy l (l.length - 1)) 0 (fun w' q _ => ∃ g, TDS w' q g 0 l) w ?_ HO ?_ HAw
    · intro _ w1 hb
      exact (dPrint_any hd hm l.length p b off c w1 (hs.below hb) rfl hu (hp.below hb) ⟨g1, g2, g3⟩).mono fun e w' ⟨he, h⟩ => ⟨he, hb.trans (h.mono hb.size)⟩
    · intro _ w1 q cq hb ⟨g, hdd⟩
      exact (r17Print_ok hd hm l.length q g 0 cq w1 hdd rfl hu ⟨g1, g2⟩).mono fun e w' ⟨he, h⟩ => ⟨he, hb.trans (h.mono hb.size)⟩
  · refine dealPrints_core p l.length c ⟨#[]⟩ E (fun w' q _ => ∃ g, TDS w' q g 0 l) w ?_ HO ?_ HAw
    · intro _ w1 hb
      exact (dPrint_bad hm hE l.length p b off c w1 (hs.below hb) rfl hu hl).mono fun e w' ⟨he, h⟩ => ⟨he, hb.trans (h.mono hb.size)⟩
    · intro _ w1 q cq hb ⟨g, hdd⟩
      exact (r17Print_bad hm hE l.length q g 0 cq w1 hdd rfl hu hl).mono fun e w' ⟨he, h⟩ => ⟨he, hb.trans (h.mono hb.size)⟩
end Go.Proofs.YtiiajhomdpfafaaGreatDoor
