/- Package deal: (kind).fits of any kind and term. -/
import Derived.Test.YtienedhaogjahaaGreatDoorHba
namespace Go.Proofs.YtienedhaogjahaaGreatDoor
open Go.RowKit

set_option maxRecDepth 20000 in
set_option maxHeartbeats 12800000 in
theorem kFits_any (k : Kd) (u : Value) (ps : List Nat) (t : Trm) (w : World) (hu : TrU t) (hs : SlcAt k.ds u w) (hl : ps.length = k.ds.length) (hp : ∀ j (hj : j < k.ds.length), fdI k.ds[j] (ps.getD j 0)) (h3 : ∀ j < ps.length, 3 ≤ ps.getD j 0 ∧ ps.getD j 0 ≤ 10) (h7 : k.ds.length ≤ 7) :
    Calls Tryz.prog 82 #[kV k u, .agg (trC t)] w fun e w' => e = .returned (.bool (fitK k ps t)) ∧ Below w.heap.size w w' := by
  obtain ⟨p, n, g, rfl, rfl, hg, hc⟩ := flds_cell hs
  have HC := hidD hc
  have HG := hidD hg
  have HH := hidD (And.intro hu (And.intro hl (And.intro hp h3)))
  obtain ⟨RR, hRR⟩ : ∃ RR, fitK k ps t = RR := ⟨_, rfl⟩
  rw [hRR]
  have HR := hidD hRR
  have HB0 := hidD (ftB_at w k (.slice p k.ds.length k.ds.length) t)
  have HEq := hidD (eqF_run (restT k ps t) (numT k.num))
  clear hs hu hl hp h3 hc hg hRR
  unfold kV
  obtain ⟨m, hm⟩ : ∃ m, k.ds.length = m := ⟨_, rfl⟩
  have HM := hidD hm
  rw [hm] at h7 HB0 ⊢
  clear hm
  unfold fnB trC at HB0
  unfold fnB trC
  have hst := store_fltD
  go_enter Tryz.func82, Tryz.ntmps82
  go_wp2_with fail
  generalize hw3 : World.alloc _ _ = w3 at HB0 ⊢
  clear hw3
  go_loopw [12] (fun i wr => ∃ j : Nat, j ≤ m ∧ i = .int .i64 j ∧ Hid (∀ i (hi : i < k.ds.length), i < j → fdFit k.ds[i] (ps.getD i 0) t = true) ∧ Hid (FtB w k (.slice p m m) t (clrL t (ps.take j)) wr)) (fun i _ => m - (intOf i).toNat)
  case atStart => exact ⟨0, Nat.zero_le _, rfl, (fun i _ h => by omega), HB0⟩
  case round =>
    clear HB0
    obtain ⟨j, hj, rfl, HA, HI⟩ := hrel
    by_cases hlt : j < m
    · have hlt' : j < k.ds.length := by rw [HM.out]; exact hlt
      obtain ⟨x0, x1, x2, x3, HF⟩ := HC.out j hlt'
      obtain ⟨rfl, hgl⟩ := HG.out (by omega)
      obtain ⟨hu, hl, hp, h3⟩ := HH.out
      have h3j := h3 j (by omega)
      obtain ⟨F1, C1, rfl, en1, HF1⟩ := fd_fit HF.fd (hp j hlt') t hu
      obtain ⟨F3, C3, rfl, en3, HF3⟩ := fd_clear HF.fd (hp j hlt')
      obtain ⟨F0, C0, F2, C2, rfl, rfl⟩ := fd_shape HF.fd
      obtain ⟨c0, c1, c2, c3, _⟩ := HF.below hgl HI.out.bl
      have HF1' := hidD (fun wx hb => HF1 wx hb)
      have HF3' := hidD HF3
      have HX := hidD (And.intro h3j (And.intro hl hlt'))
      have HY : Hid (fdFit k.ds[j] (ps.getD j 0) t = false → RR = false) := fun h => by rw [← HR.out]; exact fitK_no hlt' h
      have HZ : Hid (fdFit k.ds[j] (ps.getD j 0) t = true → ∀ i (hi : i < k.ds.length), i < j + 1 → fdFit k.ds[i] (ps.getD i 0) t = true) := fun h i hi hij => by
        by_cases e : i = j
        · subst e; exact h
        · exact HA.out i hi (by omega)
      have i1 : (j : Int) < (m : Int) := by omega
      have kb := HI.out.kb
      obtain ⟨d0, d1, d2, d3, d4, d5, d6, d7, d8, d9, d10⟩ := trm_cells HI.out.tb
      have hs1 := lt_of_blk HI.out.tb
      have hs2 := Nat.ne_of_lt hs1
      generalize hV : fdFit k.ds[j] (ps.getD j 0) t = V at HF1' HY HZ
      clear hV hu hl hp h3 HF1 HF3 HF h3j hgl kb HA
      unfold trC at HF1'
      obtain ⟨ij, hij⟩ : ∃ ij, ps.getD j 0 = ij := ⟨_, rfl⟩
      rw [hij] at HF3' HX
      have HIJ := hidD hij
      clear hij
      go_wp2_with fail
      refine (HF1'.out _ (HI.out.step (al_bel _ _)).bl).mono ?_
      rintro e w2 ⟨rfl, hb⟩
      have HI2 := hidD ((HI.out.step (al_bel _ _)).step hb)
      have q3 := (cellF_of ((hb.block wr.heap.size (by simp)).trans (heap_alloc_new wr _))).2.2.2
      clear hb HF1' HI c0 c1 c2 c3 d0 d1 d2 d3 d4 d5 d6 d7 d8 d9 d10
      cases V
      · go_wp2_with fail
        go_ret
        exact ⟨by rw [HY.out (by trivial)]; rfl, HI2.out.bl⟩
      · go_wp2_with fail
        refine (HF3'.out _ _ _ HI2.out.bl HI2.out.rb).mono ?_
        rintro e w4 ⟨rfl, hw4⟩
        have HI3 : Hid (FtB w k (.slice (some ⟨g, 0, none⟩) m m) t (clrL t (ps.take (j + 1))) w4) := by
          show FtB _ _ _ _ _ _
          have e : ps.take (j + 1) = ps.take j ++ [ij] := by
            have hj' : j < ps.length := by rw [HX.out.2.1]; exact HX.out.2.2
            rw [List.take_add_one, ← HIJ.out, List.getD_eq_getElem?_getD, List.getElem?_eq_getElem hj']; rfl
          rw [e, clrL_snoc, hw4]
          exact HI2.out.clr HX.out.1.1 HX.out.1.2
        clear hw4 q3 HF3' HI2
        go_wp2_with fail
        go_roundw
        case rel => exact ⟨j + 1, by omega, by simp, HZ.out (by trivial), HI3⟩
        case measure => simp [intOf]; omega
    · have hjm : j = m := by omega
      have e : ps.take j = ps := by
        have := HH.out.2.1
        rw [HM.out] at this
        rw [hjm, ← this, List.take_length]
      rw [e] at HI
      have HRR : Hid (RR = restB (restT k ps t) k.num) := by
        show _ = _
        rw [← HR.out]
        exact fitK_yes fun i hi => HA.out i hi (by rw [HM.out] at hi; omega)
      have i1 : ¬ (j : Int) < (m : Int) := by omega
      obtain ⟨q0, q1, q2, q3, q4⟩ := cellK_of HI.out.kb
      have hs1 := lt_of_blk HI.out.rb
      clear HA HC HH e
      by_cases p1 : 1 < k.parts
      · have p0 : 0 < k.parts := by omega
        have HA := hidD (HI.out.seta)
        have HA2 := hidD (HA.out.setb)
        have hc1 := (trm_cells HI.out.rb).2.1
        have hf1 := HI.out.rb.frozen 1
        obtain ⟨wA, hwA⟩ : ∃ wA, wr.setCell ⟨w.heap.size + 1 + 1, 1, none⟩ (.int .i64 0) = wA := ⟨_, rfl⟩
        rw [hwA] at HA HA2
        have hc2 := (trm_cells HA.out.rb).2.2.1
        have hf2 := HA.out.rb.frozen 2
        obtain ⟨a0, a1, a2, a3, a4⟩ := cellK_of HA.out.kb
        obtain ⟨wB, hwB⟩ : ∃ wB, wA.setCell ⟨w.heap.size + 1 + 1, 2, none⟩ (.int .i64 0) = wB := ⟨_, rfl⟩
        rw [hwB] at HA2
        have hrt : { { clrL t ps with a := 0 } with b := 0 } = restT k ps t := by unfold restT; rw [if_pos p0, if_pos p1]
        rw [hrt] at HA2
        clear hrt HA HI
        obtain ⟨d0, d1, d2, d3, d4, d5, d6, d7, d8, d9, d10⟩ := trm_cells HA2.out.rb
        obtain ⟨b0, b1, b2, b3, b4⟩ := cellK_of HA2.out.kb
        have HBl := hidD HA2.out.bl
        have heq0 := HEq.out
        unfold restB at HRR
        clear HA2 HEq
        generalize hE : eqF (restT k ps t) (numT k.num) = E at HRR heq0
        generalize restT k ps t = r at *
        unfold trC numT at heq0
        simp only at heq0
        obtain ⟨X, hX⟩ : ∃ X, ((r.x : Int) == (0 : Int)) = X := ⟨_, rfl⟩
        obtain ⟨Y, hY⟩ : ∃ Y, ((r.y : Int) == (0 : Int)) = Y := ⟨_, rfl⟩
        rw [hX, hY] at HRR
        clear hE
        cases E <;> cases X <;> cases Y
        all_goals
          go_wp2_with (go_at_call 25; refine (bits_any _ _).mono ?_; rintro e wq ⟨rfl, rfl⟩)
          go_ret
          exact ⟨by rw [HRR.out]; rfl, HBl.out⟩
      · by_cases p0 : 0 < k.parts
        · have HA := hidD (HI.out.seta)
          have hc1 := (trm_cells HI.out.rb).2.1
          have hf1 := HI.out.rb.frozen 1
          obtain ⟨wA, hwA⟩ : ∃ wA, wr.setCell ⟨w.heap.size + 1 + 1, 1, none⟩ (.int .i64 0) = wA := ⟨_, rfl⟩
          rw [hwA] at HA
          have hrt : { clrL t ps with a := 0 } = restT k ps t := by unfold restT; rw [if_pos p0, if_neg p1]
          rw [hrt] at HA
          clear hrt HI
          obtain ⟨d0, d1, d2, d3, d4, d5, d6, d7, d8, d9, d10⟩ := trm_cells HA.out.rb
          obtain ⟨b0, b1, b2, b3, b4⟩ := cellK_of HA.out.kb
          have HBl := hidD HA.out.bl
          have heq0 := HEq.out
          unfold restB at HRR
          clear HA HEq
          generalize hE : eqF (restT k ps t) (numT k.num) = E at HRR heq0
          generalize restT k ps t = r at *
          unfold trC numT at heq0
          simp only at heq0
          obtain ⟨X, hX⟩ : ∃ X, ((r.x : Int) == (0 : Int)) = X := ⟨_, rfl⟩
          obtain ⟨Y, hY⟩ : ∃ Y, ((r.y : Int) == (0 : Int)) = Y := ⟨_, rfl⟩
          rw [hX, hY] at HRR
          clear hE
          cases E <;> cases X <;> cases Y
          all_goals
            go_wp2_with (go_at_call 25; refine (bits_any _ _).mono ?_; rintro e wq ⟨rfl, rfl⟩)
            go_ret
            exact ⟨by rw [HRR.out]; rfl, HBl.out⟩
        · have hrt : clrL t ps = restT k ps t := by unfold restT; rw [if_neg p0, if_neg p1]
          rw [hrt] at HI
          clear hrt q0 q1 q2 q3 q4
          obtain ⟨d0, d1, d2, d3, d4, d5, d6, d7, d8, d9, d10⟩ := trm_cells HI.out.rb
          obtain ⟨b0, b1, b2, b3, b4⟩ := cellK_of HI.out.kb
          have HBl := hidD HI.out.bl
          have heq0 := HEq.out
          unfold restB at HRR
          clear HI HEq
          generalize hE : eqF (restT k ps t) (numT k.num) = E at HRR heq0
          generalize restT k ps t = r at *
          unfold trC numT at heq0
          simp only at heq0
          obtain ⟨X, hX⟩ : ∃ X, ((r.x : Int) == (0 : Int)) = X := ⟨_, rfl⟩
          obtain ⟨Y, hY⟩ : ∃ Y, ((r.y : Int) == (0 : Int)) = Y := ⟨_, rfl⟩
          rw [hX, hY] at HRR
          clear hE
          cases E <;> cases X <;> cases Y
          all_goals
            go_wp2_with (go_at_call 25; refine (bits_any _ _).mono ?_; rintro e wq ⟨rfl, rfl⟩)
            go_ret
            exact ⟨by rw [HRR.out]; rfl, HBl.out⟩
end Go.Proofs.YtienedhaogjahaaGreatDoor
