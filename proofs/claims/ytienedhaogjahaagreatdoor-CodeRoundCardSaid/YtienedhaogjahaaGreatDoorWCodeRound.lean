/- The walk of CodeRound. -/
import Derived.Test.YtienedhaogjahaaGreatDoorHbh
import Derived.Test.YtienedhaogjahaaGreatDoorHbj
import Derived.Test.YtienedhaogjahaaGreatDoorHbf
namespace Go.Proofs.YtienedhaogjahaaGreatDoor
open Go.RowKit

set_option maxRecDepth 20000 in
set_option maxHeartbeats 12800000 in
theorem codeRound_core (p p2 : Option Addr) (N c N2 c2 L K : Nat) (eB eC : Int) (TB AC DS AD : World → Option Addr → Nat → Prop) (w : World)
    (HBk : Hid (N ≤ 300 → ∀ w1, Below w.heap.size w w1 → Calls Tryz.prog 12 #[.slice p N c] w1 fun e w' => (∃ q cq, e = .returned (.tuple #[.slice q L cq, .int .i64 eB]) ∧ TB w' q cq) ∧ Below w.heap.size w w'))
    (HC1 : Hid (N ≤ 300 → eB = 0 → ∀ w1 q cq, Below w.heap.size w w1 → TB w1 q cq → Calls Tryz.prog 8 #[.slice q L cq] w1 fun e w' => (∃ q' cq', e = .returned (.tuple #[.slice q' N cq', .int .i64 0]) ∧ AC w' q' cq') ∧ Below w.heap.size w w'))
    (HO : Hid (N ≤ 300 → ∀ w1, Below w.heap.size w w1 → Calls Tryz.prog 14 #[.slice p N c] w1 fun e w' => (∃ q cq, e = .returned (.slice q N cq) ∧ DS w' q cq) ∧ Below w.heap.size w w' ∧ Below w1.heap.size w1 w'))
    (HKp : Hid (∀ w1 w2 q cq, AC w1 q cq → Below w1.heap.size w1 w2 → AC w2 q cq))
    (HSm : Hid (N ≤ 300 → ∀ w1 q cq q' cq', Below w.heap.size w w1 → AC w1 q cq → DS w1 q' cq' → Calls Tryz.prog 11 #[.slice q N cq, .slice q' N cq'] w1 fun e w' => e = .returned (.bool true) ∧ Below w.heap.size w w'))
    (HC2 : Hid (N2 ≤ 300 → ∀ w1, Below w.heap.size w w1 → Calls Tryz.prog 8 #[.slice p2 N2 c2] w1 fun e w' => (∃ q cq, e = .returned (.tuple #[.slice q K cq, .int .i64 eC]) ∧ AD w' q cq) ∧ Below w.heap.size w w'))
    (HK0 : Hid (eC ≠ 0 → K = 0))
    (HCk : Hid (N2 ≤ 300 → eC = 0 → ∀ w1 q cq, Below w.heap.size w w1 → AD w1 q cq → Calls Tryz.prog 16 #[.slice q K cq] w1 fun e w' => e = .returned (.tuple #[.int .i64 0, .int .i64 0]) ∧ Below w.heap.size w w'))
    (HAw : Hid (∀ w1, Below w.heap.size w w1 → Calls Tryz.prog 7 #[] w1 fun e w' => e = .returned (.bool true) ∧ Below w.heap.size w w')) :
    Calls Tryz.prog 5 #[.slice p N c, .slice p2 N2 c2] w fun e w' => e = .returned (.bool true) ∧ Below w.heap.size w w' := by
  have H0 := hidD (Below.refl w.heap.size w)
  go_enter Tryz.func5, Tryz.ntmps5
  by_cases hlong : 300 < N ∨ 300 < N2
  · by_cases h1 : 300 < N
    · have i1 : (300 : Int) < (N : Int) := by omega
      clear hlong h1
      go_wp2_with fail
      refine (HAw.out _ H0.out).mono ?_
      rintro e w1 ⟨rfl, hb⟩
      have H1 := hidD hb
      clear hb
      go_wp2_with fail
      go_ret
      exact ⟨rfl, H1.out⟩
    · have i1 : ¬ (300 : Int) < (N : Int) := by omega
      have i2 : (300 : Int) < (N2 : Int) := by omega
      clear hlong h1
      go_wp2_with fail
      refine (HAw.out _ H0.out).mono ?_
      rintro e w1 ⟨rfl, hb⟩
      have H1 := hidD hb
      clear hb
      go_wp2_with fail
      go_ret
      exact ⟨rfl, H1.out⟩
  have i1 : ¬ (300 : Int) < (N : Int) := by omega
  have i2 : ¬ (300 : Int) < (N2 : Int) := by omega
  have hN : N ≤ 300 := by omega
  have hN2 : N2 ≤ 300 := by omega
  have HBk' := hidD (HBk.out hN)
  have HC1' := hidD (HC1.out hN)
  have HO' := hidD (HO.out hN)
  have HSm' := hidD (HSm.out hN)
  have HC2' := hidD (HC2.out hN2)
  have HCk' := hidD (HCk.out hN2)
  clear HBk HC1 HO HSm HC2 HCk hlong
  by_cases hB : eB = 0
  · subst hB
    have HC1y := hidD (HC1'.out rfl)
    clear HC1'
    go_wp2_with fail
    refine (HBk'.out _ H0.out).mono ?_
    rintro e w1 ⟨⟨q, cq, rfl, ht⟩, hb⟩
    have H1 := hidD (And.intro hb ht)
    clear hb ht
    go_wp2_with fail
    refine (HC1y.out _ _ _ H1.out.1 H1.out.2).mono ?_
    rintro e w2 ⟨⟨q2, cq2, rfl, ha⟩, hb⟩
    have H2 := hidD (And.intro hb ha)
    clear hb ha
    go_wp2_with fail
    refine (HO'.out _ H2.out.1).mono ?_
    rintro e w3 ⟨⟨q3, cq3, rfl, hd⟩, hb, hb'⟩
    have H3 := hidD (And.intro hb (And.intro hd (HKp.out _ _ _ _ H2.out.2 hb')))
    clear hb hb' hd
    go_wp2_with fail
    refine (HSm'.out _ _ _ _ _ H3.out.1 H3.out.2.2 H3.out.2.1).mono ?_
    rintro e w4 ⟨rfl, hb⟩
    have H4 := hidD hb
    clear hb
    go_wp2_with fail
    refine (HC2'.out _ H4.out).mono ?_
    rintro e w5 ⟨⟨q5, cq5, rfl, hd⟩, hb⟩
    have H5 := hidD (And.intro hb hd)
    clear hb hd
    by_cases hC : eC = 0
    · subst hC
      have HCy := hidD (HCk'.out rfl)
      clear HCk' HK0
      go_wp2_with fail
      refine (HCy.out _ _ _ H5.out.1 H5.out.2).mono ?_
      rintro e w6 ⟨rfl, hb⟩
      have H6 := hidD hb
      clear hb
      go_wp2_with fail
      refine (HAw.out _ H6.out).mono ?_
      rintro e w7 ⟨rfl, hb⟩
      have H7 := hidD hb
      clear hb
      go_wp2_with fail
      go_ret
      exact ⟨rfl, H7.out⟩
    · have z1 : (eC != 0) = true := bne_iff_ne.2 hC
      obtain rfl := HK0.out hC
      clear hC HCk'
      go_wp2_with fail
      refine (HAw.out _ H5.out.1).mono ?_
      rintro e w7 ⟨rfl, hb⟩
      have H7 := hidD hb
      clear hb
      go_wp2_with fail
      go_ret
      exact ⟨rfl, H7.out⟩
  · have z0 : (eB == 0) = false := beq_eq_false_iff_ne.2 hB
    clear hB HC1'
    go_wp2_with fail
    refine (HBk'.out _ H0.out).mono ?_
    rintro e w1 ⟨⟨q, cq, rfl, _⟩, hb⟩
    have H1 := hidD hb
    clear hb
    go_wp2_with fail
    refine (HC2'.out _ H1.out).mono ?_
    rintro e w5 ⟨⟨q5, cq5, rfl, hd⟩, hb⟩
    have H5 := hidD (And.intro hb hd)
    clear hb hd
    by_cases hC : eC = 0
    · subst hC
      have HCy := hidD (HCk'.out rfl)
      clear HCk' HK0
      go_wp2_with fail
      refine (HCy.out _ _ _ H5.out.1 H5.out.2).mono ?_
      rintro e w6 ⟨rfl, hb⟩
      have H6 := hidD hb
      clear hb
      go_wp2_with fail
      refine (HAw.out _ H6.out).mono ?_
      rintro e w7 ⟨rfl, hb⟩
      have H7 := hidD hb
      clear hb
      go_wp2_with fail
      go_ret
      exact ⟨rfl, H7.out⟩
    · have z1 : (eC != 0) = true := bne_iff_ne.2 hC
      obtain rfl := HK0.out hC
      clear hC HCk'
      go_wp2_with fail
      refine (HAw.out _ H5.out.1).mono ?_
      rintro e w7 ⟨rfl, hb⟩
      have H7 := hidD hb
      clear hb
      go_wp2_with fail
      go_ret
      exact ⟨rfl, H7.out⟩
theorem codeRound_walk (p : Option Addr) (b off c : Nat) (l : List Opr) (p2 : Option Addr) (b2 off2 c2 : Nat) (t : List Trm) (w : World) (hs : OSrc w p b off l) (hu : ∀ i < l.length, OpU (l.getD i opr0)) (hc : l.length * 72 ≤ 140737488355328) (hs2 : TSrc w p2 b2 off2 t) (hu2 : ∀ i < t.length, TrU (t.getD i trm0)) (hc2 : t.length * 88 ≤ 140737488355328) {bp op cp : Nat} (hp : PfT 6 5 9 bp op cp w) :
    Calls Tryz.prog 5 #[.slice p l.length c, .slice p2 t.length c2] w fun e w' => e = .returned (.bool true) ∧ Below w.heap.size w w' := by
  obtain ⟨M, E, A, hm⟩ := meaR_ex l
  obtain ⟨D2, E2, A2, ht⟩ := mesR_ex (bkT l)
  obtain ⟨D3, E3, A3, ht3⟩ := mesR_ex t
  have HO : Hid (l.length ≤ 300 → ∀ w1, Below w.heap.size w w1 → Calls Tryz.prog 14 #[.slice p l.length c] w1 fun e w' => (∃ q cq, e = .returned (.slice q l.length cq) ∧ ∃ g, DSrc w' q g 0 l) ∧ Below w.heap.size w w' ∧ Below w1.heap.size w1 w') := fun _ w1 hb => by
    refine (r18Of_any l l.length p b off c w1 (hs.below hb) rfl hc).mono fun e w' ⟨⟨q', cq', he, ho⟩, h⟩ => ⟨?_, hb.trans (h.mono hb.size), h⟩
    exact ⟨q', cq', he, dsrc_of ho rfl⟩
  have HAw : Hid (∀ w1, Below w.heap.size w w1 → Calls Tryz.prog 7 #[] w1 fun e w' => e = .returned (.bool true) ∧ Below w.heap.size w w') := fun w1 hb => (awake18 w1 (hp.below hb)).mono fun e w' ⟨he, h⟩ => ⟨he, hb.trans (h.mono hb.size)⟩
  have HSm : Hid (l.length ≤ 300 → ∀ (w1 : World) (q : Option Addr) (cq : Nat) (q' : Option Addr) (cq' : Nat), Below w.heap.size w w1 → (∃ g, OSrc w1 q g 0 l) → (∃ g, DSrc w1 q' g 0 l) → Calls Tryz.prog 11 #[.slice q l.length cq, .slice q' l.length cq'] w1 fun e w' => e = .returned (.bool true) ∧ Below w.heap.size w w') := fun _ w1 q cq q' cq' hb ⟨g, hg⟩ ⟨g', hd⟩ => (r18Same_same l l.length q q' g 0 cq g' 0 cq' w1 hg hd rfl hc).mono fun e w' ⟨he, h⟩ => ⟨he, hb.trans (h.mono hb.size)⟩
  -- the second half: a tree compiled
  obtain ⟨K, AD, HC2, HK0, HCk⟩ : ∃ (K : Nat) (AD : World → Option Addr → Nat → Prop), (t.length ≤ 300 → ∀ w1, Below w.heap.size w w1 → Calls Tryz.prog 8 #[.slice p2 t.length c2] w1 fun e w' => (∃ q cq, e = .returned (.tuple #[.slice q K cq, .int .i64 E3]) ∧ AD w' q cq) ∧ Below w.heap.size w w') ∧ (E3 ≠ 0 → K = 0) ∧ (t.length ≤ 300 → E3 = 0 → ∀ w1 q cq, Below w.heap.size w w1 → AD w1 q cq → Calls Tryz.prog 16 #[.slice q K cq] w1 fun e w' => e = .returned (.tuple #[.int .i64 0, .int .i64 0]) ∧ Below w.heap.size w w') := by
    by_cases hE : E3 = 0
    · subst hE
      obtain ⟨h1, h2, l3, K3, M3, hcod, hK3, hm3⟩ := cod_mea ht3 hu2
      refine ⟨l3.length, fun w' q _ => ∃ g, OSrc w' q g 0 l3, fun _ w1 hb => ?_, fun h => absurd rfl h, fun _ _ w1 q cq hb ⟨g, hg⟩ => ?_⟩
      · refine (cCompile_ok ht3 rfl h1 h2 hcod hK3 p2 b2 off2 c2 w1 (hs2.below hb) hu2).mono fun e w' ⟨⟨v, he, ho⟩, h⟩ => ⟨?_, hb.trans (h.mono hb.size)⟩
        obtain ⟨q, cq, g, rfl, _⟩ := orow_src ho
        exact ⟨q, cq, he, osrc_of ho rfl⟩
      · have hul : ∀ i < l3.length, OpU (l3.getD i opr0) := cod_opu hu2 hcod
        exact (cCheck_is hm3 l3.length q g 0 cq w1 hg rfl hul (by have := cod_len2 hcod; omega)).mono fun e w' ⟨he, h⟩ => ⟨he, hb.trans (h.mono hb.size)⟩
    · refine ⟨0, fun _ _ _ => True, fun hl w1 hb => ?_, fun _ => rfl, fun _ h => absurd h hE⟩
      exact (cCompile_bad ht3 hE t.length p2 b2 off2 c2 w1 (hs2.below hb) rfl hu2 (by omega)).mono fun e w' ⟨he, h⟩ => ⟨⟨none, 0, he, trivial⟩, hb.trans (h.mono hb.size)⟩
  have hul := bk_tru hu
  by_cases hE : E = 0
  · subst hE
    obtain rfl := hm.zero rfl
    obtain ⟨hok, hz⟩ := mea_ok hm
    by_cases hE2 : E2 = 0
    · subst hE2
      obtain ⟨n, Kb, hn, hcb⟩ := back_code hok hz
      have hn' : (bkT l).length = n + 1 := hn
      have hcb' : CodR (bkT l) n l Kb := hcb
      obtain ⟨h1, h2, l3, K3, M3, hcod, hK3, _⟩ := cod_mea ht hul
      rw [hn', Nat.add_sub_cancel] at hcod
      obtain ⟨e1, e2⟩ := hcb'.unique hcod
      subst e1 e2
      refine codeRound_core p p2 l.length c t.length c2 (bkT l).length K 0 E3 (fun w' q _ => ∃ g, TSrc w' q g 0 (bkT l)) (fun w' q _ => ∃ g, OSrc w' q g 0 l) (fun w' q _ => ∃ g, DSrc w' q g 0 l) AD w ?_ ?_ HO ?_ HSm HC2 HK0 HCk HAw
      · intro _ w1 hb
        refine (cBack_ok hm ht l.length p b off c w1 (hs.below hb) rfl hu).mono fun e w' ⟨hr, h⟩ => ⟨?_, hb.trans (h.mono hb.size)⟩
        cases hr with
        | yes v _ ho =>
          obtain ⟨q, cq, g, rfl, _⟩ := orow_src ho
          exact ⟨q, cq, rfl, tsrc_of ho rfl⟩
        | no h0 => exact absurd rfl h0
      · intro _ _ w1 q cq hb ⟨g, hg⟩
        refine (cCompile_ok (l := l) ht rfl h1 h2 (by rw [hn', Nat.add_sub_cancel]; exact hcb') hK3 q g 0 cq w1 hg hul).mono fun e w' ⟨⟨v, he, ho⟩, h⟩ => ⟨?_, hb.trans (h.mono hb.size)⟩
        obtain ⟨q', cq', g', rfl, _⟩ := orow_src ho
        exact ⟨q', cq', he, osrc_of ho rfl⟩
      · intro w1 w2 q cq ⟨g, h⟩ hb
        exact ⟨g, h.below hb⟩
    · refine codeRound_core p p2 l.length c t.length c2 0 K E2 E3 (fun _ _ _ => True) (fun w' q _ => ∃ g, OSrc w' q g 0 l) (fun w' q _ => ∃ g, DSrc w' q g 0 l) AD w ?_ (fun _ h => absurd h hE2) HO ?_ HSm HC2 HK0 HCk HAw
      · intro _ w1 hb
        refine (cBack_ok hm ht l.length p b off c w1 (hs.below hb) rfl hu).mono fun e w' ⟨hr, h⟩ => ⟨?_, hb.trans (h.mono hb.size)⟩
        cases hr with
        | yes v h0 ho => exact absurd h0 hE2
        | no h0 => exact ⟨none, 0, rfl, trivial⟩
      · intro w1 w2 q cq ⟨g, h⟩ hb
        exact ⟨g, h.below hb⟩
  · refine codeRound_core p p2 l.length c t.length c2 0 K E E3 (fun _ _ _ => True) (fun w' q _ => ∃ g, OSrc w' q g 0 l) (fun w' q _ => ∃ g, DSrc w' q g 0 l) AD w ?_ (fun _ h => absurd h hE) HO ?_ HSm HC2 HK0 HCk HAw
    · intro hl w1 hb
      exact (cBack_bad hm hE l.length p b off c w1 (hs.below hb) rfl hu (by omega)).mono fun e w' ⟨he, h⟩ => ⟨⟨none, 0, he, trivial⟩, hb.trans (h.mono hb.size)⟩
    · intro w1 w2 q cq ⟨g, h⟩ hb
      exact ⟨g, h.below hb⟩
end Go.Proofs.YtienedhaogjahaaGreatDoor
