/- The walk of CodeLent: its contracts. -/
import Derived.Test.YtienedhaogjahaaGreatDoorHbk
import Derived.Test.YtienedhaogjahaaGreatDoorHbl
import Derived.Test.YtienedhaogjahaaGreatDoorHbn
import Derived.Test.YtienedhaogjahaaGreatDoorHbo
import Derived.Test.YtienedhaogjahaaGreatDoorHbp
import Derived.Test.YtienedhaogjahaaGreatDoorHbi
import Derived.Test.YtienedhaogjahaaGreatDoorHbr
namespace Go.Proofs.YtienedhaogjahaaGreatDoor
open Go.RowKit

theorem trim_ex (l : List Opr) (hu : ∀ i < l.length, OpU (l.getD i opr0)) (hc : l.length * 72 ≤ 140737488355328) : ∃ (la : List Opr) (E : Int), la.length ≤ 8192 ∧
    (∀ w1 q cq, (∃ g, OSrc w1 q g 0 l) → Calls Tryz.prog 17 #[.slice q l.length cq] w1 fun e w' => (∃ q' cq', e = .returned (.tuple #[.slice q' la.length cq', .int .i64 E]) ∧ w'.ownsRow w1.heap.size 47 9 (.slice q' la.length cq') la.length (rowV opC la)) ∧ Below w1.heap.size w1 w') ∧
    (∀ w1 q cq B, w1.ownsRow B 66 9 (.slice q l.length cq) l.length (rowV opD l) → Calls Tryz.prog 18 #[.slice q l.length cq] w1 fun e w' => (∃ q' cq', e = .returned (.tuple #[.slice q' la.length cq', .int .i64 E]) ∧ ∃ g o, DSrc w' q' g o la) ∧ Below w1.heap.size w1 w') := by
  obtain ⟨M, E, A, hm⟩ := meaR_ex l
  by_cases hE : E = 0
  · obtain rfl := hE
    obtain rfl := hm.zero rfl
    have hkl := kpL_len hm
    have hl8 := (mea_fine hm rfl).1
    refine ⟨kpL l, 0, by omega, fun w1 q cq ⟨g, hs⟩ => ?_, fun w1 q cq B ho => ?_⟩
    · refine (cTrim_any hm q g 0 cq hu w1 hs).mono fun e w' ⟨v, he, ho, h⟩ => ⟨?_, h⟩
      obtain ⟨q', cq', _, rfl, _⟩ := orow_src ho
      have hn : (kpL l).length = (trF l l.length).1.length := List.length_map ..
      refine ⟨q', cq', by rw [hn]; exact he, ?_⟩
      rw [hn]; exact ho
    · obtain ⟨g, hd⟩ := dsrc_of ho rfl
      exact (r18Trim_ok hm l.length q g 0 cq w1 hd rfl hu).mono fun e w' ⟨⟨q', cq', g', o', he, hd'⟩, h⟩ => ⟨⟨q', cq', he, g', o', hd'⟩, h⟩
  · refine ⟨[], E, by decide, fun w1 q cq ⟨g, hs⟩ => ?_, fun w1 q cq B ho => ?_⟩
    · exact (cTrim_bad hm hE l.length q g 0 cq w1 hs rfl hu (by omega)).mono fun e w' ⟨he, h⟩ => ⟨⟨none, 0, he, orow_nil _ _ _ _⟩, h⟩
    · obtain ⟨g, hd⟩ := dsrc_of ho rfl
      exact (r18Trim_bad hm hE l.length q g 0 cq w1 hd rfl hu (by omega)).mono fun e w' ⟨he, h⟩ => ⟨⟨none, 0, he, 0, 0, by constructor <;> simp⟩, h⟩
theorem back_ex (l : List Opr) (hu : ∀ i < l.length, OpU (l.getD i opr0)) (hc : l.length * 72 ≤ 140737488355328) : ∃ (lb : List Trm) (E : Int), lb.length ≤ 25000 ∧
    (∀ w1 q cq, (∃ g, OSrc w1 q g 0 l) → Calls Tryz.prog 12 #[.slice q l.length cq] w1 fun e w' => (∃ q' cq', e = .returned (.tuple #[.slice q' lb.length cq', .int .i64 E]) ∧ w'.ownsRow w1.heap.size 50 11 (.slice q' lb.length cq') lb.length (rowV trC lb)) ∧ Below w1.heap.size w1 w') ∧
    (l.length ≤ 100 → ∀ w1 q cq B, w1.ownsRow B 66 9 (.slice q l.length cq) l.length (rowV opD l) → Calls Tryz.prog 13 #[.slice q l.length cq] w1 fun e w' => (∃ q' cq', e = .returned (.tuple #[.slice q' lb.length cq', .int .i64 E]) ∧ ∃ g, TDS w' q' g 0 lb) ∧ Below w1.heap.size w1 w') := by
  obtain ⟨M, E, A, hm⟩ := meaR_ex l
  by_cases hE : E = 0
  · obtain rfl := hE
    obtain rfl := hm.zero rfl
    obtain ⟨D, E', A', ht⟩ := mesR_ex (bkT l)
    have hlen := bk_len (mea_ok hm).1
    have hl8 := (mea_ok hm).1.len
    by_cases hE' : E' = 0
    · subst hE'
      refine ⟨bkT l, 0, by omega, fun w1 q cq ⟨g, hs⟩ => ?_, fun hl w1 q cq B ho => ?_⟩
      · refine (cBack_ok hm ht l.length q g 0 cq w1 hs rfl hu).mono fun e w' ⟨hr, h⟩ => ⟨?_, h⟩
        cases hr with
        | yes v _ ho =>
          obtain ⟨q', cq', _, rfl, _⟩ := orow_src ho
          exact ⟨q', cq', rfl, ho⟩
        | no h0 => exact absurd rfl h0
      · obtain ⟨g, hd⟩ := dsrc_of ho rfl
        refine (r18Back_is hm ht l.length q g 0 cq w1 hd rfl (by omega) hu).mono fun e w' ⟨hr, h⟩ => ⟨?_, h⟩
        cases hr with
        | yes v _ ho =>
          obtain ⟨q', cq', _, rfl, _⟩ := orow_src ho
          exact ⟨q', cq', rfl, tds_of ho rfl⟩
        | no h0 => exact absurd rfl h0
    · refine ⟨[], E', by decide, fun w1 q cq ⟨g, hs⟩ => ?_, fun hl w1 q cq B ho => ?_⟩
      · refine (cBack_ok hm ht l.length q g 0 cq w1 hs rfl hu).mono fun e w' ⟨hr, h⟩ => ⟨?_, h⟩
        cases hr with
        | yes v h0 ho => exact absurd h0 hE'
        | no h0 => exact ⟨none, 0, rfl, orow_nil _ _ _ _⟩
      · obtain ⟨g, hd⟩ := dsrc_of ho rfl
        refine (r18Back_is hm ht l.length q g 0 cq w1 hd rfl (by omega) hu).mono fun e w' ⟨hr, h⟩ => ⟨?_, h⟩
        cases hr with
        | yes v h0 ho => exact absurd h0 hE'
        | no h0 => exact ⟨none, 0, rfl, 0, by constructor <;> simp⟩
  · refine ⟨[], E, by decide, fun w1 q cq ⟨g, hs⟩ => ?_, fun hl w1 q cq B ho => ?_⟩
    · exact (cBack_bad hm hE l.length q g 0 cq w1 hs rfl hu (by omega)).mono fun e w' ⟨he, h⟩ => ⟨⟨none, 0, he, orow_nil _ _ _ _⟩, h⟩
    · obtain ⟨g, hd⟩ := dsrc_of ho rfl
      exact (r18Back_bad hm hE l.length q g 0 cq w1 hd rfl hu (by omega)).mono fun e w' ⟨he, h⟩ => ⟨⟨none, 0, he, 0, by constructor <;> simp⟩, h⟩
theorem comp_ex (t : List Trm) (hu : ∀ i < t.length, TrU (t.getD i trm0)) (hc : t.length * 88 ≤ 140737488355328) : ∃ (lc : List Opr) (E : Int), lc.length ≤ 5000 ∧
    (∀ w1 q b o cq, TSrc w1 q b o t → Calls Tryz.prog 8 #[.slice q t.length cq] w1 fun e w' => (∃ q' cq', e = .returned (.tuple #[.slice q' lc.length cq', .int .i64 E]) ∧ w'.ownsRow w1.heap.size 47 9 (.slice q' lc.length cq') lc.length (rowV opC lc)) ∧ Below w1.heap.size w1 w') ∧
    (∀ w1 q cq, (∃ g, TDS w1 q g 0 t) → Calls Tryz.prog 9 #[.slice q t.length cq] w1 fun e w' => (∃ q' cq', e = .returned (.tuple #[.slice q' lc.length cq', .int .i64 E]) ∧ ∃ g, DSrc w' q' g 0 lc) ∧ Below w1.heap.size w1 w') := by
  obtain ⟨D, E, A, ht⟩ := mesR_ex t
  by_cases hE : E = 0
  · subst hE
    obtain ⟨h1, h2, l, K, M, hcod, hK, _⟩ := cod_mea ht hu
    have hll := cod_len2 hcod
    refine ⟨l, 0, by omega, fun w1 q b o cq hs => ?_, fun w1 q cq ⟨g, hd⟩ => ?_⟩
    · refine (cCompile_ok ht rfl h1 h2 hcod hK q b o cq w1 hs hu).mono fun e w' ⟨⟨v, he, ho⟩, h⟩ => ⟨?_, h⟩
      obtain ⟨q', cq', _, rfl, _⟩ := orow_src ho
      exact ⟨q', cq', he, ho⟩
    · refine (r18Compile_ok ht rfl h1 h2 hcod hK q g 0 cq w1 hd hu).mono fun e w' ⟨⟨v, he, ho⟩, h⟩ => ⟨?_, h⟩
      obtain ⟨q', cq', _, rfl, _⟩ := orow_src ho
      exact ⟨q', cq', he, dsrc_of ho rfl⟩
  · refine ⟨[], E, by decide, fun w1 q b o cq hs => ?_, fun w1 q cq ⟨g, hd⟩ => ?_⟩
    · exact (cCompile_bad ht hE t.length q b o cq w1 hs rfl hu (by omega)).mono fun e w' ⟨he, h⟩ => ⟨⟨none, 0, he, orow_nil _ _ _ _⟩, h⟩
    · exact (r18Compile_bad ht hE t.length q g 0 cq w1 hd rfl hu (by omega)).mono fun e w' ⟨he, h⟩ => ⟨⟨none, 0, he, 0, by constructor <;> simp⟩, h⟩
theorem codeLent_walk (p : Option Addr) (b off c : Nat) (l : List Opr) (p2 : Option Addr) (b2 off2 c2 : Nat) (t : List Trm) (w : World) (hs : OSrc w p b off l) (hu : ∀ i < l.length, OpU (l.getD i opr0)) (hc : l.length * 72 ≤ 140737488355328) (hnil : p = none → l.length = 0 ∧ c = 0) (ht : TSrc w p2 b2 off2 t) (hut : ∀ i < t.length, TrU (t.getD i trm0)) (hct : t.length * 88 ≤ 140737488355328) {bp op cp : Nat} (hp : PfT 6 5 9 bp op cp w) :
    Calls Tryz.prog 6 #[.slice p l.length c, .slice p2 t.length c2] w fun e w' => e = .returned (.bool true) ∧ Below w.heap.size w w' := by
  obtain ⟨la, EA, ka, hA1, hA2⟩ := trim_ex l hu hc
  obtain ⟨lb, EB, kb, hB1, hB2⟩ := back_ex l hu hc
  obtain ⟨lc, EC, kc, hC1, hC2⟩ := comp_ex t hut hct
  refine codeLent_core p b off l.length c p2 t.length c2 l la.length lb.length lc.length (rowV opC la) (rowV trC lb) (rowV opC lc) (rowV opD l) EA EB EC (fun w' q _ => ∃ g o, DSrc w' q g o la) (fun w' q _ => ∃ g, TDS w' q g 0 lb) (fun w' q _ => ∃ g, DSrc w' q g 0 lc) (fun w' q _ => ∃ g, TDS w' q g 0 t) w hs rfl hnil (by omega) (by omega) (by omega)
    hA1 hB1 (fun w1 hb => hC1 w1 p2 b2 off2 c2 (ht.below hb)) (r18Of_any l l.length p b off c w hs rfl hc) (fun _ => hA2) (fun hl => hB2 hl) ?_ hC2 (fun w1 w2 q cq ⟨g, o, h⟩ hb => ⟨g, o, h.below hb⟩) (fun w1 w2 q cq ⟨g, h⟩ hb => ⟨g, h.below hb⟩) (fun w1 w2 q cq ⟨g, h⟩ hb => ⟨g, h.below hb⟩) ?_ ?_ ?_ ?_ ?_
  · exact fun w1 hb => (r17Of_any t t.length p2 b2 off2 c2 w1 (ht.below hb) rfl hct).mono fun e w' ⟨⟨q, cq, he, ho⟩, h⟩ => ⟨⟨q, cq, he, tds_of ho rfl⟩, h⟩
  · intro _ w1 q cq q' cq' B' ⟨g, hg⟩ ho
    obtain ⟨g', hd⟩ := dsrc_of ho rfl
    exact r18Same_same l l.length q q' g 0 cq g' 0 cq' w1 hg hd rfl (by omega)
  · intro w1 q cq q' cq' B ho ⟨g', o', hd⟩
    obtain ⟨g, hg⟩ := osrc_of ho rfl
    exact r18Same_same la la.length q q' g 0 cq g' o' cq' w1 hg hd rfl (by omega)
  · intro w1 q cq q' cq' B ho ⟨g', hd⟩
    obtain ⟨g, hg⟩ := tsrc_of ho rfl
    exact r17Same_same lb lb.length q q' g 0 cq g' 0 cq' w1 hg hd rfl (by omega)
  · intro w1 q cq q' cq' B ho ⟨g', hd⟩
    obtain ⟨g, hg⟩ := osrc_of ho rfl
    exact r18Same_same lc lc.length q q' g 0 cq g' 0 cq' w1 hg hd rfl (by omega)
  · exact fun w1 hb => (awake18 w1 (hp.below hb)).mono fun e w' ⟨he, h⟩ => ⟨he, hb.trans (h.mono hb.size)⟩
end Go.Proofs.YtienedhaogjahaaGreatDoor
