/- The contract of sched's Periods. -/
import Derived.Test.YtpcgbcdldkmibaaGreatSpI
import Derived.Deep.RegionHeld3
namespace Go.Proofs.YtpcgbcdldkmibaaGreat
open Go.RowKit

theorem make_list (w : World) (N : Nat) (hN : N ≤ 100000) : ∃ z, (Instr.makeSlice 51 (.int .i64 (N : Int)) (.int .i64 (N : Int))).run Tryz.prog w = .ok (.slice (some ⟨w.heap.size, 0, none⟩) N N) (w.alloc (.cells (madeCells z (N * 5)) 56)) := by
  obtain ⟨i0, hi, hz0, hz1, hz2⟩ := info_parts info_per
  have := run_make (P := Tryz.prog) w 51 56 i0 _ Tryz.underlying51 hi hz0 .i64 .i64 (N : Int) (N : Int) (by omega) (by omega) (by rw [hz2]; omega) (by omega)
  rw [hz1] at this
  exact ⟨_, this⟩
theorem per_ways (op : Int → Bool) (s : Spc) (a b x : Int) (hx : adjO op a s.conv = some x) :
    (adjO op b s.conv = none ∧ perO op s a b = none) ∨ (∃ y, adjO op b s.conv = some y ∧ ((if 0 < s.lag then addO op 1 s.lag.toNat y else some y) = none ∧ perO op s a b = none ∨ ∃ z, (if 0 < s.lag then addO op 1 s.lag.toNat y else some y) = some z ∧ perO op s a b = some ⟨a, b, x, y, z⟩)) := by
  unfold perO
  rw [hx]
  cases hb : adjO op b s.conv with
  | none => exact Or.inl ⟨rfl, rfl⟩
  | some y =>
    refine Or.inr ⟨y, rfl, ?_⟩
    by_cases hl : 0 < s.lag
    · simp only [if_pos hl]
      cases hz : addO op 1 s.lag.toNat y with
      | none => exact Or.inl ⟨rfl, rfl⟩
      | some z => exact Or.inr ⟨z, rfl, rfl⟩
    · simp only [if_neg hl]
      exact Or.inr ⟨y, rfl, rfl⟩

set_option maxRecDepth 10000 in
set_option maxHeartbeats 16000000 in
theorem schPeriods_go (op : Int → Bool) (s : Spc) (W : Int) (v : Value) (l : List Int) (N : Nat) (w : World) (hN : l.length = N + 1) (hN2 : N ≤ 100000) (hN3 : 0 < N) (H : Hid (PerP op s W v l w)) :
    Calls Tryz.prog 33 #[.agg #[.int .i64 s.st, .int .i64 s.en, .int .i64 s.n, .int .i64 s.unit, .int .i64 s.stub, .int .i64 s.roll, .int .i64 s.conv, .int .i64 s.lag, .int .i64 W, v]] w fun e w' => PerOut op s l N w e w' ∧ Below w.heap.size w w' := by
  have HB0 := hideS (SBox.zero w s W v)
  have HDt := hideS H.out.dat
  rw [hN] at HDt
  have HAd : Hid (∀ j, j ≤ N → ∀ o, adjO op (l.getD j 0) s.conv = o → ∀ wx, Below w.heap.size w wx → Calls Tryz.prog 60 #[.agg #[.int .i64 W, v], .int .i64 (l.getD j 0), .int .i64 s.conv] wx fun e w' => e = .returned (.tuple #[.int .i64 (o.getD 0), .int .i64 (ansE o)]) ∧ Below wx.heap.size wx w') := fun j hj o ho wx hb => by
    have := H.out.adj j (by omega) wx hb
    rw [ho] at this; exact this
  have HPa : Hid (∀ j, j ≤ N → ∀ y o, adjO op (l.getD j 0) s.conv = some y → (if 0 < s.lag then addO op 1 s.lag.toNat y else some y) = o → ∀ wx, Below w.heap.size w wx → Calls Tryz.prog 61 #[.agg #[.int .i64 s.st, .int .i64 s.en, .int .i64 s.n, .int .i64 s.unit, .int .i64 s.stub, .int .i64 s.roll, .int .i64 s.conv, .int .i64 s.lag, .int .i64 W, v], .int .i64 y] wx fun e w' => e = .returned (.tuple #[.int .i64 (o.getD 0), .int .i64 (ansE o)]) ∧ Below wx.heap.size wx w') := fun j hj y o hy ho wx hb => by
    have := H.out.pay j (by omega) y hy wx hb
    rw [ho] at this; exact this
  have HWy : Hid (∀ j x, adjO op (l.getD j 0) s.conv = some x → (adjO op (l.getD (j + 1) 0) s.conv = none ∧ perI op s l j = none) ∨ (∃ y, adjO op (l.getD (j + 1) 0) s.conv = some y ∧ ((if 0 < s.lag then addO op 1 s.lag.toNat y else some y) = none ∧ perI op s l j = none ∨ ∃ z, (if 0 < s.lag then addO op 1 s.lag.toNat y else some y) = some z ∧ perI op s l j = some ⟨l.getD j 0, l.getD (j + 1) 0, x, y, z⟩))) := fun j x hx => per_ways op s _ _ x hx
  have HF := hideS H.out.fst
  have HLn := hideS hN
  have H0n : Hid (adjO op (l.getD 0 0) s.conv = none → perI op s l 0 = none) := fun h => by
    show perI op s l 0 = none
    unfold perI perO
    rw [h]
  clear H hN
  -- the periods by letters
  obtain ⟨pI, hpI⟩ : ∃ pI : Nat → Option Per, pI = perI op s l := ⟨_, rfl⟩
  obtain ⟨pL, hpL⟩ : ∃ pL : Nat → List Per, pL = perL op s l := ⟨_, rfl⟩
  have HLs : Hid (∀ m, pL (m + 1) = pL m ++ [(pI m).getD per0]) := fun m => by rw [hpL, hpI]; exact perL_succ op s l m
  have HLe : Hid (∀ m, (pL m).length = m) := fun m => by rw [hpL]; exact perL_len op s l m
  have HL0 : Hid (pL 0 = []) := by show pL 0 = []; rw [hpL]; rfl
  have HPost : Hid (∀ e w', (((∃ j < N, pI j = none) ∧ e = .returned (.tuple #[.slice none 0 0, .int .i64 51])) ∨ ((∀ j < N, (pI j).isSome = true) ∧ ∃ u, e = .returned (.tuple #[u, .int .i64 0]) ∧ w'.ownsRow w.heap.size 56 5 u N (rowP (pL N)))) → PerOut op s l N w e w') := fun e w' a => by rw [hpL, hpI] at a; exact a
  rw [← hpI] at HWy H0n
  refine Calls.mono (R := fun e w' => (((∃ j < N, pI j = none) ∧ e = .returned (.tuple #[.slice none 0 0, .int .i64 51])) ∨ ((∀ j < N, (pI j).isSome = true) ∧ ∃ u, e = .returned (.tuple #[u, .int .i64 0]) ∧ w'.ownsRow w.heap.size 56 5 u N (rowP (pL N)))) ∧ Below w.heap.size w w') ?_ (fun e w' ⟨a, b⟩ => ⟨HPost.out e w' a, b⟩)
  clear HPost hpI hpL
  obtain ⟨aj, haj⟩ : ∃ aj : Nat → Option Int, aj = fun j => adjO op (l.getD j 0) s.conv := ⟨_, rfl⟩
  obtain ⟨py, hpy⟩ : ∃ py : Int → Option Int, py = fun y => if 0 < s.lag then addO op 1 s.lag.toNat y else some y := ⟨_, rfl⟩
  replace HAd : Hid (∀ j, j ≤ N → ∀ o, aj j = o → ∀ wx, Below w.heap.size w wx → Calls Tryz.prog 60 #[.agg #[.int .i64 W, v], .int .i64 (l.getD j 0), .int .i64 s.conv] wx fun e w' => e = .returned (.tuple #[.int .i64 (o.getD 0), .int .i64 (ansE o)]) ∧ Below wx.heap.size wx w') := fun j hj o ho => HAd.out j hj o (by rw [haj] at ho; exact ho)
  replace HPa : Hid (∀ j, j ≤ N → ∀ y o, aj j = some y → py y = o → ∀ wx, Below w.heap.size w wx → Calls Tryz.prog 61 #[.agg #[.int .i64 s.st, .int .i64 s.en, .int .i64 s.n, .int .i64 s.unit, .int .i64 s.stub, .int .i64 s.roll, .int .i64 s.conv, .int .i64 s.lag, .int .i64 W, v], .int .i64 y] wx fun e w' => e = .returned (.tuple #[.int .i64 (o.getD 0), .int .i64 (ansE o)]) ∧ Below wx.heap.size wx w') := fun j hj y o hy ho => HPa.out j hj y o (by rw [haj] at hy; exact hy) (by rw [hpy] at ho; exact ho)
  replace HWy : Hid (∀ j x, aj j = some x → (aj (j + 1) = none ∧ pI j = none) ∨ (∃ y, aj (j + 1) = some y ∧ (py y = none ∧ pI j = none ∨ ∃ z, py y = some z ∧ pI j = some ⟨l.getD j 0, l.getD (j + 1) 0, x, y, z⟩))) := fun j x hx => by
    rw [haj, hpy]; rw [haj] at hx; exact HWy.out j x hx
  replace H0n : Hid (aj 0 = none → pI 0 = none) := fun h => H0n.out (by rw [haj] at h; exact h)
  clear haj hpy
  obtain ⟨st, en, n, unit, stub, roll, conv, lag⟩ := s
  dsimp only at *
  go_enter Tryz.func33, Tryz.ntmps33
  go_wp2_with fail
  refine (HDt.out _ HB0.out.below).mono ?_
  rintro e w1 ⟨⟨u, rfl, ho⟩, hb1⟩
  have HB1 := hideS (HB0.out.step hb1)
  obtain ⟨q, g, c, hv, hsrc, hg0, hnc, hcm⟩ := iown_src ho HLn.out
  subst hv
  have hq := hsrc.at_ (by have := HLn.out; omega)
  subst hq
  have hg1 := hsrc.lt (by have := HLn.out; omega)
  have HR1 := hideS hsrc
  have hs0 : w.heap.size + 1 ≤ g := by simpa using hg0
  clear ho hb1 hsrc HB0 HDt hg0
  obtain ⟨c0, c1, c2, c3, c4, c5, c6, c7, c8, c9⟩ := HB1.out.cells
  have hcl : c ≤ 9223372036854775807 := by unfold maxLen at hcm; omega
  clear hcm
  cases ha : aj 0 with
  | none =>
    have HA0 := hideS (fun wx => HAd.out 0 (by omega) none ha wx)
    rw [HF.out] at HA0
    dsimp only [Option.getD] at HA0
    rw [ansE_none] at HA0
    have HP0 := hideS (H0n.out ha)
    go_wp2_with (go_at_call 60; refine (HA0.out _ HB1.out.below).mono ?_; rintro e w2 ⟨rfl, hb2⟩)
    go_ret2
    exact ⟨Or.inl ⟨⟨0, hN3, HP0.out⟩, rfl⟩, (HB1.out.step hb2).below⟩
  | some x0 =>
    have HA0 := hideS (fun wx => HAd.out 0 (by omega) (some x0) ha wx)
    rw [HF.out] at HA0
    dsimp only [Option.getD] at HA0
    rw [ansE_some] at HA0
    go_wp2_with fail
    refine (HA0.out _ HB1.out.below).mono ?_
    rintro e w2 ⟨rfl, hb2⟩
    have HB2 := hideS (HB1.out.step hb2)
    have HR2 := hideS (HR1.out.below hb2)
    have hz2 := hb2.size
    have hsub : ((N + 1 : Nat) : Int) - 1 = (N : Int) := by omega
    obtain ⟨z, hmk⟩ := make_list w2 N hN2
    have HQ0 : Hid (RowQ (w2.alloc (.cells (madeCells z (N * 5)) 56)) w2.heap.size N (pL 0)) := by show RowQ _ _ _ _; rw [HL0.out]; exact row_made w2 N z
    have HB3 := hideS (HB2.out.step ((Below.refl _ w2).alloc (Nat.le_refl _) (.cells (madeCells z (N * 5)) 56)))
    have HR3 := hideS (HR2.out.below ((Below.refl _ w2).alloc (Nat.le_refl _) (.cells (madeCells z (N * 5)) 56)))
    have hg2 : g < w2.heap.size := by omega
    have hs2 : w.heap.size + 1 ≤ w2.heap.size := by omega
    clear hb2 hz2 HB1 HR1 HB2 HR2 c0 c1 c2 c3 c4 c5 c6 c7 c8 c9 HA0
    go_wp2_with fail
    go_loopw [6, 39] (fun vs i wr => ∃ (m : Nat) (x : Int), m ≤ N ∧ i = .int .i64 (m : Int) ∧ vs = .int .i64 x ∧ Hid (aj m = some x) ∧ Hid (∀ j < m, (pI j).isSome = true) ∧ Hid (RowQ wr w2.heap.size N (pL m)) ∧ Hid (SBox w ⟨st, en, n, unit, stub, roll, conv, lag⟩ W v wr) ∧ Hid (ISrc wr (some ⟨g, 0, none⟩) g 0 l)) (fun _ i _ => N - (intOf i).toNat)
    case atStart => exact ⟨0, x0, by omega, rfl, rfl, ha, fun j hj => by omega, HQ0, HB3, HR3⟩
    case round =>
      clear HQ0 HB3 HR3 hmk ha
      obtain ⟨m, x, hm, rfl, rfl, HX, HI, HQ, HB, HR⟩ := hrel
      obtain ⟨c0, c1, c2, c3, c4, c5, c6, c7, c8, c9⟩ := HB.out.cells
      have hsz := HB.out.below.size
      by_cases hlt : m < N
      · have hi : decide ((m : Int) < (N : Int)) = true := decide_eq_true (by omega)
        have hq0 := HR.out.cell m (by have := HLn.out; omega)
        have hq1 := HR.out.cell (m + 1) (by have := HLn.out; omega)
        rw [Nat.zero_add] at hq0 hq1
        have HA1 := hideS (HAd.out (m + 1) (by omega))
        have HP1 := hideS (HPa.out (m + 1) (by omega))
        have HW1 := hideS (HWy.out m x HX.out)
        obtain ⟨a, hla⟩ : ∃ a, l.getD m 0 = a := ⟨_, rfl⟩
        obtain ⟨b, hlb⟩ : ∃ b, l.getD (m + 1) 0 = b := ⟨_, rfl⟩
        rw [hla] at hq0 HW1
        rw [hlb] at hq1 HA1 HW1
        have HLa := hideS hla
        have HLb := hideS hlb
        clear hla hlb
        have hi0 : (m : Int) < ((N + 1 : Nat) : Int) := by omega
        have hi1 : (m : Int) + 1 < ((N + 1 : Nat) : Int) := by omega
        have HBw := hideS HB.out.below
        have HKp : Hid (∀ w', Below wr.heap.size wr.drew w' → w'.cell? ⟨w.heap.size, 6, none⟩ = some (.int .i64 conv) ∧ w'.cell? ⟨w.heap.size, 8, none⟩ = some (.int .i64 W) ∧ w'.cell? ⟨w.heap.size, 9, none⟩ = some v ∧ w'.cell? ⟨g, m + 1, none⟩ = some (.int .i64 b)) := fun w' hb => by
          have hS := ((HB.out.step (Below.refl _ wr).drew).step hb).cells
          have hL := ((HR.out.below (Below.refl _ wr).drew).below hb).cell (m + 1) (by have := HLn.out; omega)
          rw [Nat.zero_add, HLb.out] at hL
          exact ⟨hS.c6, hS.c8, hS.c9, hL⟩
        have hwr : IntKind.i64.wrap ((m : Int) + 1) = (m : Int) + 1 := by rw [IntKind.wrap_i64]; omega
        have htn : ((m : Int) + 1).toNat = m + 1 := by omega
        have hi3 : (0 : Int) ≤ (m : Int) + 1 := by omega
        have hi2 : (m : Int) + 1 < (N : Int) + 1 := by omega
        have hi5 : (m : Int) < (N : Int) := by omega
        have hi6 : (0 : Int) ≤ (m : Int) := by omega
        rcases HW1.out with ⟨hy, hp⟩ | ⟨y, hy, hyz⟩
        · have HA2 := hideS (HA1.out none hy)
          dsimp only [Option.getD] at HA2
          rw [ansE_none] at HA2
          have HPn := hideS hp
          clear hp hy
          go_wp2_with fail
          go_region_held3 (fun w' => w'.cell? ⟨w.heap.size, 6, none⟩ = some (.int .i64 conv) ∧ w'.cell? ⟨w.heap.size, 8, none⟩ = some (.int .i64 W) ∧ w'.cell? ⟨w.heap.size, 9, none⟩ = some v ∧ w'.cell? ⟨g, m + 1, none⟩ = some (.int .i64 b)) (first | exact ⟨c6, c8, c9, hq1⟩ | exact HK3.out | go_keep) ((go_at_call 60; refine (HA2.out _ (by first | exact HBw.out | exact HBw.out.drew | exact HBw.out.drew.drew)).mono ?_; rintro e w3 ⟨rfl, hb3⟩; have HK3 := hideS (HKp.out w3 hb3)))
          have HB3 := hideS ((HB.out.step (Below.refl _ wr).drew).step hb3)
          clear c0 c1 c2 c3 c4 c5 c6 c7 c8 c9
          go_wp2_with fail
          go_ret2
          exact ⟨Or.inl ⟨⟨m, hlt, HPn.out⟩, rfl⟩, HB3.out.below⟩
        · have HA2 := hideS (HA1.out (some y) hy)
          dsimp only [Option.getD] at HA2
          rw [ansE_some] at HA2
          have HP2 := hideS (fun o ho => HP1.out y o hy ho)
          have HYm := hideS hy
          clear hy
          go_wp2_with fail
          go_region_held3 (fun w' => w'.cell? ⟨w.heap.size, 6, none⟩ = some (.int .i64 conv) ∧ w'.cell? ⟨w.heap.size, 8, none⟩ = some (.int .i64 W) ∧ w'.cell? ⟨w.heap.size, 9, none⟩ = some v ∧ w'.cell? ⟨g, m + 1, none⟩ = some (.int .i64 b)) (first | exact ⟨c6, c8, c9, hq1⟩ | exact HK3.out | go_keep) ((go_at_call 60; refine (HA2.out _ (by first | exact HBw.out | exact HBw.out.drew | exact HBw.out.drew.drew)).mono ?_; rintro e w3 ⟨rfl, hb3⟩; have HK3 := hideS (HKp.out w3 hb3)))
          have HB3 := hideS ((HB.out.step (Below.refl _ wr).drew).step hb3)
          have HQ3 := hideS ((HQ.out.stay (Below.refl wr.heap.size wr).drew HQ.out.lt).stay hb3 (by have := HQ.out.lt; simpa using this))
          have HR3 := hideS ((HR.out.below (Below.refl _ wr).drew).below hb3)
          clear c0 c1 c2 c3 c4 c5 c6 c7 c8 c9 hb3 hq0 hq1
          obtain ⟨c0, c1, c2, c3, c4, c5, c6, c7, c8, c9⟩ := HB3.out.cells
          rcases hyz with ⟨hz, hp⟩ | ⟨z1, hz, hp⟩
          · have HP3 := hideS (HP2.out none hz)
            dsimp only [Option.getD] at HP3
            rw [ansE_none] at HP3
            have HPn := hideS hp
            clear hp hz
            go_wp2_with (go_at_call 61; refine (HP3.out _ HB3.out.below).mono ?_; rintro e w4 ⟨rfl, hb4⟩)
            go_ret2
            exact ⟨Or.inl ⟨⟨m, hlt, HPn.out⟩, rfl⟩, (HB3.out.step hb4).below⟩
          · have HP3 := hideS (HP2.out (some z1) hz)
            dsimp only [Option.getD] at HP3
            rw [ansE_some] at HP3
            have HPm := hideS hp
            clear hp hz
            go_wp2_with fail
            refine (HP3.out _ HB3.out.below).mono ?_
            rintro e w4 ⟨rfl, hb4⟩
            have HB4 := hideS (HB3.out.step hb4)
            have HQ4 := hideS (HQ3.out.stay hb4 HQ3.out.lt)
            have HR4 := hideS (HR3.out.below hb4)
            clear c0 c1 c2 c3 c4 c5 c6 c7 c8 c9 hb4
            have hq0 := HR4.out.cell m (by have := HLn.out; omega)
            have hq1 := HR4.out.cell (m + 1) (by have := HLn.out; omega)
            rw [Nat.zero_add, HLa.out] at hq0
            rw [Nat.zero_add, HLb.out] at hq1
            obtain ⟨u0, p0⟩ := HQ4.out.cell (k := m * 5) (by omega)
            obtain ⟨u1, p1⟩ := HQ4.out.cell (k := m * 5 + 1) (by omega)
            obtain ⟨u2, p2⟩ := HQ4.out.cell (k := m * 5 + 2) (by omega)
            obtain ⟨u3, p3⟩ := HQ4.out.cell (k := m * 5 + 3) (by omega)
            obtain ⟨u4, p4⟩ := HQ4.out.cell (k := m * 5 + 4) (by omega)
            have f0 := HQ4.out.frozen (m * 5)
            have f1 := HQ4.out.frozen (m * 5 + 1)
            have f2 := HQ4.out.frozen (m * 5 + 2)
            have f3 := HQ4.out.frozen (m * 5 + 3)
            have f4 := HQ4.out.frozen (m * 5 + 4)
            have hne : g ≠ w2.heap.size := Nat.ne_of_lt hg2
            go_wp2_with fail
            go_region
            have HS5 : Hid (RowQ (set5 w4 w2.heap.size (m * 5) ⟨a, b, x, y, z1⟩) w2.heap.size N (pL (m + 1))) := by
              show RowQ _ _ _ _
              have := set5_row ⟨a, b, x, y, z1⟩ HQ4.out (by rw [HLe.out]; exact hlt)
              rw [HLe.out] at this
              rw [HLs.out, HPm.out]
              exact this
            have hbl := set5_below w4 w2.heap.size (m * 5) w2.heap.size ⟨a, b, x, y, z1⟩ (Nat.le_refl _)
            have HB5 := hideS ((HB4.out.stay hbl hs2).step (Below.refl _ _).drew)
            have HR5 := hideS ((HR4.out.stay hbl (fun _ => hg2)).below (Below.refl _ _).drew)
            have HQ5 := hideS (HS5.out.stay (Below.refl _ _).drew HS5.out.lt)
            unfold set5 at HB5 HR5 HQ5
            dsimp only at HB5 HR5 HQ5
            clear hbl HS5 p0 p1 p2 p3 p4 f0 f1 f2 f3 f4 hq0 hq1
            go_wp2_with fail
            go_roundw
            case rel => exact ⟨m + 1, y, by omega, by go_num, rfl, HYm, fun j hj => by
              rcases (show j < m ∨ j = m by omega) with e | rfl
              · exact HI.out j e
              · rw [HPm.out]; rfl, HQ5, HB5, HR5⟩
            case measure => simp [intOf]; omega
      · obtain rfl : m = N := by omega
        have hi : decide ((m : Int) < (m : Int)) = false := decide_eq_false (by omega)
        have HO : Hid (wr.ownsRow w.heap.size 56 5 (.slice (some ⟨w2.heap.size, 0, none⟩) m m) m (rowP (pL m))) := HQ.out.own (HLe.out m) (by omega) hN2
        go_wp2_with fail
        go_ret2
        exact ⟨Or.inr ⟨HI.out, _, rfl, HO.out⟩, HB.out.below⟩
end Go.Proofs.YtpcgbcdldkmibaaGreat
