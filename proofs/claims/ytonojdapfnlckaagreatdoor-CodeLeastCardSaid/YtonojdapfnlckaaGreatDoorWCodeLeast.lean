/- The walk of CodeLeast. -/
import Derived.Test.YtonojdapfnlckaaGreatDoorHbe
import Derived.Test.YtonojdapfnlckaaGreatDoorHbc
import Derived.Test.YtonojdapfnlckaaGreatDoorHbf
namespace Go.Proofs.YtonojdapfnlckaaGreatDoor
open Go.RowKit

theorem lawTakes (o : Opr) (w : World) : Calls Tryz.prog 11 #[.agg (opC o)] w fun e w' => e = .returned (.bool (takO o)) ∧ Below w.heap.size w w' := by
  unfold takO opC
  by_cases h4 : 4 ≤ o.kind
  · have z4 : decide (4 ≤ o.kind) = true := decide_eq_true h4
    have HB : Hid (∀ c, Below w.heap.size w (w.alloc c)) := fun c => (Below.refl _ _).alloc (Nat.le_refl _) c
    rw [z4]
    go_enter Tryz.func11, Tryz.ntmps11
    go_wp2_with fail
    go_ret
    exact ⟨rfl, HB.out _⟩
  · have z4 : decide (4 ≤ o.kind) = false := decide_eq_false h4
    have HB : Hid (∀ c, Below w.heap.size w (w.alloc c)) := fun c => (Below.refl _ _).alloc (Nat.le_refl _) c
    rw [z4]
    go_enter Tryz.func11, Tryz.ntmps11
    go_wp2_with fail
    go_ret
    exact ⟨rfl, HB.out _⟩
set_option maxRecDepth 20000 in
set_option maxHeartbeats 12800000 in
theorem codeLeast_core (p : Option Addr) (N c : Nat) (E : Int) (kl : List Opr) (w : World) (hN0 : N * 72 ≤ 140737488355328)
    (HTr : Hid (E ≠ 0 → ∀ w1, Below w.heap.size w w1 → Calls Tryz.prog 6 #[.slice p N c] w1 fun e w' => e = .returned (.tuple #[.slice none 0 0, .int .i64 E]) ∧ Below w.heap.size w w'))
    (HTo : Hid (E = 0 → ∀ w1, Below w.heap.size w w1 → Calls Tryz.prog 6 #[.slice p N c] w1 fun e w' => (∃ q cq g, e = .returned (.tuple #[.slice q kl.length cq, .int .i64 0]) ∧ OSrc w' q g 0 kl) ∧ Below w.heap.size w w'))
    (HT2 : Hid (E = 0 → ∀ w1 q cq g, Below w.heap.size w w1 → OSrc w1 q g 0 kl → Calls Tryz.prog 6 #[.slice q kl.length cq] w1 fun e w' => (∃ q' cq' g', e = .returned (.tuple #[.slice q' kl.length cq', .int .i64 0]) ∧ OSrc w' q' g' 0 kl) ∧ Below w.heap.size w w' ∧ Below w1.heap.size w1 w'))
    (HO : Hid (N ≤ 300 → E = 0 → ∀ w1 q cq g, Below w.heap.size w w1 → OSrc w1 q g 0 kl → Calls Tryz.prog 8 #[.slice q kl.length cq] w1 fun e w' => (∃ q' cq' g', e = .returned (.slice q' kl.length cq') ∧ DSrc w' q' g' 0 kl) ∧ Below w.heap.size w w' ∧ Below w1.heap.size w1 w'))
    (HSm : Hid (N ≤ 300 → E = 0 → ∀ w1 q cq g q' cq' g', Below w.heap.size w w1 → OSrc w1 q g 0 kl → DSrc w1 q' g' 0 kl → Calls Tryz.prog 9 #[.slice q kl.length cq, .slice q' kl.length cq'] w1 fun e w' => e = .returned (.bool true) ∧ Below w.heap.size w w' ∧ Below w1.heap.size w1 w'))
    (HF : Hid (E = 0 → kl.length ≤ N ∧ (∀ i < kl.length, (kl.getD i opr0).kind = 5 → (kl.getD i opr0).x ≠ 4607182418800017408) ∧ (∀ i < kl.length, (kl.getD i opr0).kind = 7 → (kl.getD i opr0).n ≠ 1) ∧ (∀ i, i + 1 < kl.length → takO (kl.getD (i + 1) opr0) = true → (kl.getD i opr0).kind ≠ 1)))
    (HAw : Hid (∀ w1, Below w.heap.size w w1 → Calls Tryz.prog 5 #[] w1 fun e w' => e = .returned (.bool true) ∧ Below w.heap.size w w')) :
    Calls Tryz.prog 4 #[.slice p N c] w fun e w' => e = .returned (.bool true) ∧ Below w.heap.size w w' := by
  have H0 := hidD (Below.refl w.heap.size w)
  go_enter Tryz.func4, Tryz.ntmps4
  by_cases hl : N ≤ 300
  rotate_left
  · have i1 : (300 : Int) < (N : Int) := by omega
    clear hl
    go_wp2_with fail
    refine (HAw.out _ H0.out).mono ?_
    rintro e w1 ⟨rfl, hb⟩
    have H1 := hidD hb
    clear hb
    go_wp2_with fail
    go_ret
    exact ⟨rfl, H1.out⟩
  have i1 : ¬ (300 : Int) < (N : Int) := by omega
  by_cases hE : E = 0
  rotate_left
  · have HT' := hidD (HTr.out hE)
    have z1 : (E != 0) = true := bne_iff_ne.2 hE
    clear hE HTr HTo HT2 HO HSm HF hl
    go_wp2_with fail
    refine (HT'.out _ H0.out).mono ?_
    rintro e w1 ⟨rfl, hb⟩
    have H1 := hidD hb
    clear hb
    go_wp2_with fail
    refine (HAw.out _ H1.out).mono ?_
    rintro e w2 ⟨rfl, hb⟩
    have H2 := hidD hb
    clear hb
    go_wp2_with fail
    go_ret
    exact ⟨rfl, H2.out⟩
  have HTo' := hidD (HTo.out hE)
  have HT2' := hidD (HT2.out hE)
  have HO' := hidD (HO.out hl hE)
  have HSm' := hidD (HSm.out hl hE)
  obtain ⟨hkl, hf5, hf7, hf1⟩ := HF.out hE
  have HF5 := hidD hf5
  have HF7 := hidD hf7
  have HF1 := hidD hf1
  have i2 : ¬ (N : Int) < (kl.length : Int) := by omega
  have hK : kl.length ≤ 300 := by omega
  clear HTr HTo HT2 HO HSm HF hE hf5 hf7 hf1
  generalize hKl : kl.length = K at *
  have HKl := hidD hKl
  clear hKl
  go_wp2_with fail
  refine (HTo'.out _ H0.out).mono ?_
  rintro e w1 ⟨⟨q, cq, g, rfl, hg⟩, hb⟩
  have H1 := hidD (And.intro hb hg)
  clear hb hg
  go_wp2_with fail
  refine (HT2'.out _ _ _ _ H1.out.1 H1.out.2).mono ?_
  rintro e w2 ⟨⟨q2, cq2, g2, rfl, hg⟩, hb, hb'⟩
  have H2 := hidD (And.intro hb (And.intro hg (H1.out.2.below hb')))
  clear hb hb' hg
  go_wp2_with fail
  refine (HO'.out _ _ _ _ H2.out.1 H2.out.2.2).mono ?_
  rintro e w3 ⟨⟨q3, cq3, g3, rfl, hg⟩, hb, hb'⟩
  have H3 := hidD (And.intro hb (And.intro hg (And.intro (H2.out.2.1.below hb') (H2.out.2.2.below hb'))))
  clear hb hb' hg
  go_wp2_with fail
  refine (HSm'.out _ _ _ _ _ _ _ H3.out.1 H3.out.2.2.1 H3.out.2.1).mono ?_
  rintro e w4 ⟨rfl, hb, hb'⟩
  have H4 := hidD (And.intro hb (H3.out.2.2.2.below hb'))
  clear hb hb'
  go_wp2_with fail
  have hnk : decide (N < K) = false := decide_eq_false (by omega)
  rw [hnk]
  go_loopw [7] (fun i wr => ∃ k : Nat, k ≤ K ∧ i = .int .i64 k ∧ Hid (Below w.heap.size w wr) ∧ Hid (OSrc wr q g 0 kl)) (fun i _ => K - (intOf i).toNat)
  case atStart => exact ⟨0, Nat.zero_le _, rfl, H4.out.1, H4.out.2⟩
  case round =>
    obtain ⟨k, hk, rfl, HB, HD⟩ := hrel
    by_cases hlt : k < K
    rotate_left
    · obtain rfl : k = K := by omega
      go_wp2_with fail
      refine (HAw.out _ HB.out).mono ?_
      rintro e w5 ⟨rfl, hb⟩
      have H5 := hidD hb
      clear hb
      go_wp2_with fail
      go_ret
      exact ⟨rfl, H5.out⟩
    have hlt' : k < kl.length := by rw [HKl.out]; exact hlt
    obtain rfl := HD.out.at_ (by omega)
    have i3 : (k : Int) < (K : Int) := by omega
    have HCk : Hid (∀ w', Below wr.heap.size wr w' → ∀ j < kl.length, w'.cell? ⟨g, j * 9, none⟩ = some (.int .i64 (kl.getD j opr0).kind) ∧ w'.cell? ⟨g, j * 9 + 1, none⟩ = some (.float .f64 (kl.getD j opr0).x) ∧ w'.cell? ⟨g, j * 9 + 2, none⟩ = some (.float .f64 (kl.getD j opr0).y) ∧ w'.cell? ⟨g, j * 9 + 3, none⟩ = some (.int .i64 (kl.getD j opr0).day) ∧ w'.cell? ⟨g, j * 9 + 4, none⟩ = some (.int .i64 (kl.getD j opr0).to) ∧ w'.cell? ⟨g, j * 9 + 5, none⟩ = some (.int .i64 (kl.getD j opr0).cur) ∧ w'.cell? ⟨g, j * 9 + 6, none⟩ = some (.int .i64 (kl.getD j opr0).count) ∧ w'.cell? ⟨g, j * 9 + 7, none⟩ = some (.int .i64 (kl.getD j opr0).n) ∧ w'.cell? ⟨g, j * 9 + 8, none⟩ = some (.int .i64 (kl.getD j opr0).months)) := fun w' hb j hj => by
      have h := HD.out.below hb
      have e : ∀ m, 0 + j * 9 + m = j * 9 + m := fun m => by omega
      have e0 : 0 + j * 9 = j * 9 := by omega
      exact ⟨e0 ▸ h.c0 j hj, e 1 ▸ h.c1 j hj, e 2 ▸ h.c2 j hj, e 3 ▸ h.c3 j hj, e 4 ▸ h.c4 j hj, e 5 ▸ h.c5 j hj, e 6 ▸ h.c6 j hj, e 7 ▸ h.c7 j hj, e 8 ▸ h.c8 j hj⟩
    obtain ⟨c0, c1, c2, c3, c4, c5, c6, c7, c8⟩ := HCk.out wr (Below.refl _ _) k hlt'
    have HTk := hidD (lawTakes (kl.getD k opr0))
    have h5 := HF5.out k hlt
    have h7 := HF7.out k hlt
    have HPv : Hid (∀ j, k = j + 1 → takO (kl.getD k opr0) = true → ((kl.getD j opr0).kind == 1) = false) := fun j e ht => by
      subst e
      exact beq_eq_false_iff_ne.2 (HF1.out j hlt ht)
    have HCp : Hid (∀ w', Below wr.heap.size wr w' → ∀ j, k = j + 1 → w'.cell? ⟨g, j * 9, none⟩ = some (.int .i64 (kl.getD j opr0).kind)) := fun w' hb j e => (HCk.out w' hb j (by omega)).1
    have HDb : Hid (∀ w', Below wr.heap.size wr w' → OSrc w' (some ⟨g, 0, none⟩) g 0 kl) := fun w' hb => HD.out.below hb
    clear HCk HF5 HF7 HF1 HD HTo' HT2' HO' HSm' H0 H1 H2 H3 H4 hlt'
    generalize hT : takO (kl.getD k opr0) = T at HTk HPv
    generalize kl.getD k opr0 = o at *
    clear hT
    unfold opC at HTk
    by_cases k5 : o.kind = 5
    · have z5 : (o.kind == 5) = true := by rw [k5]; rfl
      have z7 : (o.kind == 7) = false := by rw [k5]; rfl
      have zx : ((o.x : Int) == 4607182418800017408) = false := beq_eq_false_iff_ne.2 (by have := h5 k5; omega)
      clear h5 h7 k5
      by_cases hk0 : k = 0
      · have z0 : ¬ (0 : Int) < (k : Int) := by omega
        clear hk0
        go_wp2_with fail
        refine (bits_any _ _).mono ?_
        rintro e w5 ⟨rfl, rfl⟩
        go_wp2_with fail
        refine (bits_any _ _).mono ?_
        rintro e w5 ⟨rfl, rfl⟩
        go_wp2_with fail
        go_roundw
        case rel => exact ⟨k + 1, by omega, by simp, HB, HDb.out _ (Below.refl _ _)⟩
        case measure => simp [intOf]; omega
      · obtain ⟨j, HKj⟩ : ∃ j, Hid (k = j + 1) := ⟨k - 1, by show k = _; omega⟩
        have z0 : (0 : Int) < (k : Int) := by omega
        clear hk0
        go_wp2_with fail
        refine (bits_any _ _).mono ?_
        rintro e w5 ⟨rfl, rfl⟩
        go_wp2_with fail
        refine (bits_any _ _).mono ?_
        rintro e w5 ⟨rfl, rfl⟩
        go_wp2_with fail
        refine (HTk.out _).mono ?_
        rintro e w6 ⟨rfl, hb⟩
        have H6 := hidD hb
        have d0 : w6.cell? ⟨g, (k - 1) * 9, none⟩ = some (.int .i64 (kl.getD j opr0).kind) := (show k - 1 = j by have := HKj.out; omega) ▸ HCp.out _ hb j HKj.out
        clear hb c0 c1 c2 c3 c4 c5 c6 c7 c8
        cases T
        · go_wp2_with fail
          go_roundw
          case rel => exact ⟨k + 1, by omega, by simp, HB.out.trans (H6.out.mono HB.out.size), HDb.out _ H6.out⟩
          case measure => simp [intOf]; omega
        · have z1 := HPv.out j HKj.out rfl
          generalize (kl.getD j opr0).kind = X at d0 z1
          have hj0 : (0 : Int) ≤ (k : Int) - 1 := by omega
          have hj : (k : Int) - 1 < (K : Int) := by omega
          go_wp2_with fail
          go_roundw
          case rel => exact ⟨k + 1, by omega, by simp, HB.out.trans (H6.out.mono HB.out.size), HDb.out _ H6.out⟩
          case measure => simp [intOf]; omega
    have z5 : (o.kind == 5) = false := beq_eq_false_iff_ne.2 k5
    by_cases k7 : o.kind = 7
    · have z7 : (o.kind == 7) = true := by rw [k7]; rfl
      have zn : (o.n == 1) = false := beq_eq_false_iff_ne.2 (h7 k7)
      clear h5 h7 k5 k7
      by_cases hk0 : k = 0
      · have z0 : ¬ (0 : Int) < (k : Int) := by omega
        clear hk0
        go_wp2_with fail
        go_roundw
        case rel => exact ⟨k + 1, by omega, by simp, HB, HDb.out _ (Below.refl _ _)⟩
        case measure => simp [intOf]; omega
      · obtain ⟨j, HKj⟩ : ∃ j, Hid (k = j + 1) := ⟨k - 1, by show k = _; omega⟩
        have z0 : (0 : Int) < (k : Int) := by omega
        clear hk0
        go_wp2_with fail
        refine (HTk.out _).mono ?_
        rintro e w6 ⟨rfl, hb⟩
        have H6 := hidD hb
        have d0 : w6.cell? ⟨g, (k - 1) * 9, none⟩ = some (.int .i64 (kl.getD j opr0).kind) := (show k - 1 = j by have := HKj.out; omega) ▸ HCp.out _ hb j HKj.out
        clear hb c0 c1 c2 c3 c4 c5 c6 c7 c8
        cases T
        · go_wp2_with fail
          go_roundw
          case rel => exact ⟨k + 1, by omega, by simp, HB.out.trans (H6.out.mono HB.out.size), HDb.out _ H6.out⟩
          case measure => simp [intOf]; omega
        · have z1 := HPv.out j HKj.out rfl
          generalize (kl.getD j opr0).kind = X at d0 z1
          have hj0 : (0 : Int) ≤ (k : Int) - 1 := by omega
          have hj : (k : Int) - 1 < (K : Int) := by omega
          go_wp2_with fail
          go_roundw
          case rel => exact ⟨k + 1, by omega, by simp, HB.out.trans (H6.out.mono HB.out.size), HDb.out _ H6.out⟩
          case measure => simp [intOf]; omega
    have z7 : (o.kind == 7) = false := beq_eq_false_iff_ne.2 k7
    clear h5 h7 k5 k7
    by_cases hk0 : k = 0
    · have z0 : ¬ (0 : Int) < (k : Int) := by omega
      clear hk0
      go_wp2_with fail
      go_roundw
      case rel => exact ⟨k + 1, by omega, by simp, HB, HDb.out _ (Below.refl _ _)⟩
      case measure => simp [intOf]; omega
    · obtain ⟨j, HKj⟩ : ∃ j, Hid (k = j + 1) := ⟨k - 1, by show k = _; omega⟩
      have z0 : (0 : Int) < (k : Int) := by omega
      clear hk0
      go_wp2_with fail
      refine (HTk.out _).mono ?_
      rintro e w6 ⟨rfl, hb⟩
      have H6 := hidD hb
      have d0 : w6.cell? ⟨g, (k - 1) * 9, none⟩ = some (.int .i64 (kl.getD j opr0).kind) := (show k - 1 = j by have := HKj.out; omega) ▸ HCp.out _ hb j HKj.out
      clear hb c0 c1 c2 c3 c4 c5 c6 c7 c8
      cases T
      · go_wp2_with fail
        go_roundw
        case rel => exact ⟨k + 1, by omega, by simp, HB.out.trans (H6.out.mono HB.out.size), HDb.out _ H6.out⟩
        case measure => simp [intOf]; omega
      · have z1 := HPv.out j HKj.out rfl
        generalize (kl.getD j opr0).kind = X at d0 z1
        have hj0 : (0 : Int) ≤ (k : Int) - 1 := by omega
        have hj : (k : Int) - 1 < (K : Int) := by omega
        go_wp2_with fail
        go_roundw
        case rel => exact ⟨k + 1, by omega, by simp, HB.out.trans (H6.out.mono HB.out.size), HDb.out _ H6.out⟩
        case measure => simp [intOf]; omega
theorem codeLeast_walk (p : Option Addr) (b off c : Nat) (l : List Opr) (w : World) (hs : OSrc w p b off l) (hu : ∀ i < l.length, OpU (l.getD i opr0)) (hc : l.length * 72 ≤ 140737488355328) {bp op cp : Nat} (hp : PfT 6 5 9 bp op cp w) :
    Calls Tryz.prog 4 #[.slice p l.length c] w fun e w' => e = .returned (.bool true) ∧ Below w.heap.size w w' := by
  obtain ⟨M, E, A, hm⟩ := meaR_ex l
  have HTr : Hid (E ≠ 0 → ∀ w1, Below w.heap.size w w1 → Calls Tryz.prog 6 #[.slice p l.length c] w1 fun e w' => e = .returned (.tuple #[.slice none 0 0, .int .i64 E]) ∧ Below w.heap.size w w') := fun hE w1 hb => (cTrim_bad hm hE l.length p b off c w1 (hs.below hb) rfl hu (by omega)).mono fun e w' ⟨he, h⟩ => ⟨he, hb.trans (h.mono hb.size)⟩
  have HTo : Hid (E = 0 → ∀ w1, Below w.heap.size w w1 → Calls Tryz.prog 6 #[.slice p l.length c] w1 fun e w' => (∃ q cq g, e = .returned (.tuple #[.slice q (kpL l).length cq, .int .i64 0]) ∧ OSrc w' q g 0 (kpL l)) ∧ Below w.heap.size w w') := fun hE w1 hb => by
    obtain rfl := hE
    obtain rfl := hm.zero rfl
    refine (cTrim_any hm p b off c hu w1 (hs.below hb)).mono fun e w' ⟨v, he, ho, h⟩ => ⟨?_, hb.trans (h.mono hb.size)⟩
    obtain ⟨q, cq, g, rfl, _⟩ := orow_src ho
    have hn : (kpL l).length = (trF l l.length).1.length := List.length_map ..
    obtain ⟨g', hg⟩ := osrc_of ho hn
    exact ⟨q, cq, g', by rw [hn]; exact he, hg⟩
  have HT2 : Hid (E = 0 → ∀ w1 q cq g, Below w.heap.size w w1 → OSrc w1 q g 0 (kpL l) → Calls Tryz.prog 6 #[.slice q (kpL l).length cq] w1 fun e w' => (∃ q' cq' g', e = .returned (.tuple #[.slice q' (kpL l).length cq', .int .i64 0]) ∧ OSrc w' q' g' 0 (kpL l)) ∧ Below w.heap.size w w' ∧ Below w1.heap.size w1 w') := fun hE w1 q cq g hb hg => by
    obtain rfl := hE
    obtain rfl := hm.zero rfl
    refine (cTrim_any (kpL_mea hm) q g 0 cq (kpL_opU hu) w1 hg).mono fun e w' ⟨v, he, ho, h⟩ => ⟨?_, hb.trans (h.mono hb.size), h⟩
    obtain ⟨q', cq', g', rfl, _⟩ := orow_src ho
    have hn : (kpL (kpL l)).length = (trF (kpL l) (kpL l).length).1.length := List.length_map ..
    obtain ⟨g2, hg2⟩ := osrc_of (l := kpL (kpL l)) ho hn
    rw [← hn, kpL_still hm] at he
    rw [kpL_still hm] at hg2
    exact ⟨q', cq', g2, he, hg2⟩
  have HO : Hid (l.length ≤ 300 → E = 0 → ∀ w1 q cq g, Below w.heap.size w w1 → OSrc w1 q g 0 (kpL l) → Calls Tryz.prog 8 #[.slice q (kpL l).length cq] w1 fun e w' => (∃ q' cq' g', e = .returned (.slice q' (kpL l).length cq') ∧ DSrc w' q' g' 0 (kpL l)) ∧ Below w.heap.size w w' ∧ Below w1.heap.size w1 w') := fun hl hE w1 q cq g hb hg => by
    obtain rfl := hE
    obtain rfl := hm.zero rfl
    have := kpL_len hm
    refine (r18Of_any (kpL l) (kpL l).length q g 0 cq w1 hg rfl (by omega)).mono fun e w' ⟨⟨q', cq', he, ho⟩, h⟩ => ⟨?_, hb.trans (h.mono hb.size), h⟩
    obtain ⟨g2, hg2⟩ := dsrc_of ho rfl
    exact ⟨q', cq', g2, he, hg2⟩
  have HSm : Hid (l.length ≤ 300 → E = 0 → ∀ w1 q cq g q' cq' g', Below w.heap.size w w1 → OSrc w1 q g 0 (kpL l) → DSrc w1 q' g' 0 (kpL l) → Calls Tryz.prog 9 #[.slice q (kpL l).length cq, .slice q' (kpL l).length cq'] w1 fun e w' => e = .returned (.bool true) ∧ Below w.heap.size w w' ∧ Below w1.heap.size w1 w') := fun hl hE w1 q cq g q' cq' g' hb hg hd => by
    obtain rfl := hE
    obtain rfl := hm.zero rfl
    have := kpL_len hm
    exact (r18Same_same (kpL l) (kpL l).length q q' g 0 cq g' 0 cq' w1 hg hd rfl (by omega)).mono fun e w' ⟨he, h⟩ => ⟨he, hb.trans (h.mono hb.size), h⟩
  have HF : Hid (E = 0 → (kpL l).length ≤ l.length ∧ (∀ i < (kpL l).length, ((kpL l).getD i opr0).kind = 5 → ((kpL l).getD i opr0).x ≠ 4607182418800017408) ∧ (∀ i < (kpL l).length, ((kpL l).getD i opr0).kind = 7 → ((kpL l).getD i opr0).n ≠ 1) ∧ (∀ i, i + 1 < (kpL l).length → takO ((kpL l).getD (i + 1) opr0) = true → ((kpL l).getD i opr0).kind ≠ 1)) := fun hE => by
    obtain rfl := hE
    obtain rfl := hm.zero rfl
    exact ⟨kpL_len hm, kpL_turns hm, kpL_once hm, kpL_mark hm⟩
  have HAw : Hid (∀ w1, Below w.heap.size w w1 → Calls Tryz.prog 5 #[] w1 fun e w' => e = .returned (.bool true) ∧ Below w.heap.size w w') := fun w1 hb => (awake18 w1 (hp.below hb)).mono fun e w' ⟨he, h⟩ => ⟨he, hb.trans (h.mono hb.size)⟩
  exact codeLeast_core p l.length c E (kpL l) w hc HTr HTo HT2 HO HSm HF HAw
end Go.Proofs.YtonojdapfnlckaaGreatDoor
