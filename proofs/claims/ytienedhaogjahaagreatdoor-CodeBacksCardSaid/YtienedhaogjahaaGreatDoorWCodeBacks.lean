/- The walk of CodeBacks. -/
import Derived.Test.YtienedhaogjahaaGreatDoorHbj
import Derived.Test.YtienedhaogjahaaGreatDoorHbn
namespace Go.Proofs.YtienedhaogjahaaGreatDoor
open Go.RowKit

set_option maxRecDepth 20000 in
set_option maxHeartbeats 12800000 in
theorem codeBacks_core (p : Option Addr) (N c : Nat) (E : Int) (K : Nat) (A D : World → Option Addr → Nat → Prop) (W : World → Option Addr → Nat → Prop) (w : World)
    (HTr : Hid (∀ w1, Below w.heap.size w w1 → Calls Tryz.prog 12 #[.slice p N c] w1 fun e w' => (∃ q cq, e = .returned (.tuple #[.slice q K cq, .int .i64 E]) ∧ A w' q cq) ∧ Below w.heap.size w w'))
    (HO : Hid (N ≤ 300 → ∀ w1, Below w.heap.size w w1 → Calls Tryz.prog 14 #[.slice p N c] w1 fun e w' => (∃ q cq, e = .returned (.slice q N cq) ∧ W w' q cq) ∧ Below w.heap.size w w' ∧ Below w1.heap.size w1 w'))
    (HTd : Hid (N ≤ 300 → ∀ w1 q cq, Below w.heap.size w w1 → W w1 q cq → Calls Tryz.prog 13 #[.slice q N cq] w1 fun e w' => (∃ q' cq', e = .returned (.tuple #[.slice q' K cq', .int .i64 E]) ∧ D w' q' cq') ∧ Below w.heap.size w w' ∧ Below w1.heap.size w1 w'))
    (HKp : Hid (∀ w1 w2 q cq, A w1 q cq → Below w1.heap.size w1 w2 → A w2 q cq))
    (HSm : Hid (N ≤ 300 → ∀ w1 q cq q' cq', Below w.heap.size w w1 → A w1 q cq → D w1 q' cq' → Calls Tryz.prog 15 #[.slice q K cq, .slice q' K cq'] w1 fun e w' => e = .returned (.bool true) ∧ Below w.heap.size w w'))
    (HAw : Hid (∀ w1, Below w.heap.size w w1 → Calls Tryz.prog 7 #[] w1 fun e w' => e = .returned (.bool true) ∧ Below w.heap.size w w')) :
    Calls Tryz.prog 4 #[.slice p N c] w fun e w' => e = .returned (.bool true) ∧ Below w.heap.size w w' := by
  have H0 := hidD (Below.refl w.heap.size w)
  go_enter Tryz.func4, Tryz.ntmps4
  by_cases hl : N ≤ 300
  rotate_left
  · have i1 : (300 : Int) < (N : Int) := by omega
    clear hl
    go_wp2_with fail
    refine (HAw.out _ H0.out).mono ?_
    rintro e w1 ⟨rfl, hb⟩
    have H1 := hidD hb
    clear hb
    go_wp2_with fail
    go_ret
    exact ⟨rfl, H1.out⟩
  have i1 : ¬ (300 : Int) < (N : Int) := by omega
  have hEE : (E == E) = true := beq_self_eq_true E
  have HO' := hidD (HO.out hl)
  have HTd' := hidD (HTd.out hl)
  have HSm' := hidD (HSm.out hl)
  clear HO HTd HSm hl
  go_wp2_with fail
  refine (HTr.out _ H0.out).mono ?_
  rintro e w1 ⟨⟨q, cq, rfl, ha⟩, hb⟩
  have H1 := hidD (And.intro hb ha)
  clear hb ha
  go_wp2_with fail
  refine (HO'.out _ H1.out.1).mono ?_
  rintro e w2 ⟨⟨q2, cq2, rfl, hw⟩, hb, hb'⟩
  have H2 := hidD (And.intro hb (And.intro hw (HKp.out _ _ _ _ H1.out.2 hb')))
  clear hb hb' hw
  go_wp2_with fail
  refine (HTd'.out _ _ _ H2.out.1 H2.out.2.1).mono ?_
  rintro e w3 ⟨⟨q3, cq3, rfl, hd⟩, hb, hb'⟩
  have H3 := hidD (And.intro hb (And.intro hd (HKp.out _ _ _ _ H2.out.2.2 hb')))
  clear hb hb' hd
  go_wp2_with fail
  refine (HSm'.out _ _ _ _ _ H3.out.1 H3.out.2.2 H3.out.2.1).mono ?_
  rintro e w4 ⟨rfl, hb⟩
  have H4 := hidD hb
  clear hb
  go_wp2_with fail
  refine (HAw.out _ H4.out).mono ?_
  rintro e w5 ⟨rfl, hb⟩
  have H5 := hidD hb
  clear hb
  go_wp2_with fail
  go_ret
  exact ⟨rfl, H5.out⟩
theorem codeBacks_walk (p : Option Addr) (b off c : Nat) (l : List Opr) (w : World) (hs : OSrc w p b off l) (hu : ∀ i < l.length, OpU (l.getD i opr0)) (hc : l.length * 72 ≤ 140737488355328) {bp op cp : Nat} (hp : PfT 6 5 9 bp op cp w) :
    Calls Tryz.prog 4 #[.slice p l.length c] w fun e w' => e = .returned (.bool true) ∧ Below w.heap.size w w' := by
  obtain ⟨M, E, A, hm⟩ := meaR_ex l
  have HO : Hid (l.length ≤ 300 → ∀ w1, Below w.heap.size w w1 → Calls Tryz.prog 14 #[.slice p l.length c] w1 fun e w' => (∃ q cq, e = .returned (.slice q l.length cq) ∧ ∃ g, DSrc w' q g 0 l) ∧ Below w.heap.size w w' ∧ Below w1.heap.size w1 w') := fun _ w1 hb => by
    refine (r18Of_any l l.length p b off c w1 (hs.below hb) rfl hc).mono fun e w' ⟨⟨q', cq', he, ho⟩, h⟩ => ⟨?_, hb.trans (h.mono hb.size), h⟩
    exact ⟨q', cq', he, dsrc_of ho rfl⟩
  have HAw : Hid (∀ w1, Below w.heap.size w w1 → Calls Tryz.prog 7 #[] w1 fun e w' => e = .returned (.bool true) ∧ Below w.heap.size w w') := fun w1 hb => (awake18 w1 (hp.below hb)).mono fun e w' ⟨he, h⟩ => ⟨he, hb.trans (h.mono hb.size)⟩
  by_cases hE : E = 0
  · obtain rfl := hE
    obtain rfl := hm.zero rfl
    obtain ⟨D, E', A', ht⟩ := mesR_ex (bkT l)
    have hlen := bk_len (mea_ok hm).1
    have hl8 := (mea_ok hm).1.len
    by_cases hE' : E' = 0
    · subst hE'
      refine codeBacks_core p l.length c 0 (bkT l).length (fun w' q _ => ∃ g, TSrc w' q g 0 (bkT l)) (fun w' q _ => ∃ g, TDS w' q g 0 (bkT l)) (fun w' q _ => ∃ g, DSrc w' q g 0 l) w ?_ HO ?_ ?_ ?_ HAw
      · intro w1 hb
        refine (cBack_ok hm ht l.length p b off c w1 (hs.below hb) rfl hu).mono fun e w' ⟨hr, h⟩ => ⟨?_, hb.trans (h.mono hb.size)⟩
        cases hr with
        | yes v _ ho =>
          obtain ⟨q, cq, g, rfl, _⟩ := orow_src ho
          exact ⟨q, cq, rfl, tsrc_of ho rfl⟩
        | no h0 => exact absurd rfl h0
      · intro hl w1 q cq hb ⟨g, hd⟩
        refine (r18Back_is hm ht l.length q g 0 cq w1 hd rfl hl hu).mono fun e w' ⟨hr, h⟩ => ⟨?_, hb.trans (h.mono hb.size), h⟩
        cases hr with
        | yes v _ ho =>
          obtain ⟨q, cq, g, rfl, _⟩ := orow_src ho
          exact ⟨q, cq, rfl, tds_of ho rfl⟩
        | no h0 => exact absurd rfl h0
      · intro w1 w2 q cq ⟨g, h⟩ hb
        exact ⟨g, h.below hb⟩
      · intro _ w1 q cq q' cq' hb ⟨g, hg⟩ ⟨g', hd⟩
        exact (r17Same_same (bkT l) (bkT l).length q q' g 0 cq g' 0 cq' w1 hg hd rfl (by omega)).mono fun e w' ⟨he, h⟩ => ⟨he, hb.trans (h.mono hb.size)⟩
    · refine codeBacks_core p l.length c E' 0 (fun w' q _ => q = none) (fun w' q _ => q = none) (fun w' q _ => ∃ g, DSrc w' q g 0 l) w ?_ HO ?_ ?_ ?_ HAw
      · intro w1 hb
        refine (cBack_ok hm ht l.length p b off c w1 (hs.below hb) rfl hu).mono fun e w' ⟨hr, h⟩ => ⟨?_, hb.trans (h.mono hb.size)⟩
        cases hr with
        | yes v h0 ho => exact absurd h0 hE'
        | no h0 => exact ⟨none, 0, rfl, rfl⟩
      · intro hl w1 q cq hb ⟨g, hd⟩
        refine (r18Back_is hm ht l.length q g 0 cq w1 hd rfl hl hu).mono fun e w' ⟨hr, h⟩ => ⟨?_, hb.trans (h.mono hb.size), h⟩
        cases hr with
        | yes v h0 ho => exact absurd h0 hE'
        | no h0 => exact ⟨none, 0, rfl, rfl⟩
      · intro w1 w2 q cq h hb
        exact h
      · intro _ w1 q cq q' cq' hb h1 h2
        subst h1 h2
        exact (r17Same_same [] 0 none none 0 0 cq 0 0 cq' w1 (by constructor <;> simp) (by constructor <;> simp) rfl (by decide)).mono fun e w' ⟨he, h⟩ => ⟨he, hb.trans (h.mono hb.size)⟩
  · refine codeBacks_core p l.length c E 0 (fun w' q _ => q = none) (fun w' q _ => q = none) (fun w' q _ => ∃ g, DSrc w' q g 0 l) w ?_ HO ?_ ?_ ?_ HAw
    · intro w1 hb
      exact (cBack_bad hm hE l.length p b off c w1 (hs.below hb) rfl hu (by omega)).mono fun e w' ⟨he, h⟩ => ⟨⟨none, 0, he, rfl⟩, hb.trans (h.mono hb.size)⟩
    · intro hl w1 q cq hb ⟨g, hd⟩
      exact (r18Back_bad hm hE l.length q g 0 cq w1 hd rfl hu (by omega)).mono fun e w' ⟨he, h⟩ => ⟨⟨none, 0, he, rfl⟩, hb.trans (h.mono hb.size), h⟩
    · intro w1 w2 q cq h hb
      exact h
    · intro _ w1 q cq q' cq' hb h1 h2
      subst h1 h2
      exact (r17Same_same [] 0 none none 0 0 cq 0 0 cq' w1 (by constructor <;> simp) (by constructor <;> simp) rfl (by decide)).mono fun e w' ⟨he, h⟩ => ⟨he, hb.trans (h.mono hb.size)⟩
end Go.Proofs.YtienedhaogjahaaGreatDoor
