/- The contract of the document's Periods. The contracts of the document's Point, SameInts and SamePeriods. The contract of the document's Dates, from the start on. The document's schedules, for any schedule and any calendar. -/
import Derived.Test.YtpcgbcdldkmibaaGreatHaq
import Derived.RegionTactic
import Derived.Test.YtpcgbcdldkmibaaGreatHao
namespace Go.Proofs.YtpcgbcdldkmibaaGreat
open Go.RowKit

noncomputable def perI (op : Int → Bool) (s : Spc) (l : List Int) (i : Nat) : Option Per := perO op s (l.getD i 0) (l.getD (i + 1) 0)
noncomputable def perL (op : Int → Bool) (s : Spc) (l : List Int) (m : Nat) : List Per := (List.range m).map fun i => (perI op s l i).getD per0
theorem perL_len (op : Int → Bool) (s : Spc) (l : List Int) (m : Nat) : (perL op s l m).length = m := by unfold perL; simp
theorem perL_succ (op : Int → Bool) (s : Spc) (l : List Int) (m : Nat) : perL op s l (m + 1) = perL op s l m ++ [(perI op s l m).getD per0] := by
  unfold perL; rw [List.range_succ, List.map_append]; rfl
theorem perO_cases (op : Int → Bool) (s : Spc) (a b : Int) :
    (adjO op a s.conv = none ∧ perO op s a b = none) ∨
    (∃ x, adjO op a s.conv = some x ∧ adjO op b s.conv = none ∧ perO op s a b = none) ∨
    (∃ x y, adjO op a s.conv = some x ∧ adjO op b s.conv = some y ∧ ¬ 0 < s.lag ∧ perO op s a b = some ⟨a, b, x, y, y⟩) ∨
    (∃ x y, adjO op a s.conv = some x ∧ adjO op b s.conv = some y ∧ 0 < s.lag ∧ addO op 1 s.lag.toNat y = none ∧ perO op s a b = none) ∨
    (∃ x y z, adjO op a s.conv = some x ∧ adjO op b s.conv = some y ∧ 0 < s.lag ∧ addO op 1 s.lag.toNat y = some z ∧ perO op s a b = some ⟨a, b, x, y, z⟩) := by
  unfold perO
  cases ha : adjO op a s.conv with
  | none => exact Or.inl ⟨rfl, rfl⟩
  | some x =>
    cases hb : adjO op b s.conv with
    | none => exact Or.inr (Or.inl ⟨x, rfl, rfl, rfl⟩)
    | some y =>
      by_cases hl : 0 < s.lag
      · cases hc : addO op 1 s.lag.toNat y with
        | none => exact Or.inr (Or.inr (Or.inr (Or.inl ⟨x, y, rfl, rfl, hl, hc, by simp only [if_pos hl, hc]⟩)))
        | some z => exact Or.inr (Or.inr (Or.inr (Or.inr ⟨x, y, z, rfl, rfl, hl, hc, by simp only [if_pos hl, hc]⟩)))
      · exact Or.inr (Or.inr (Or.inl ⟨x, y, rfl, rfl, hl, by simp only [if_neg hl]⟩))
structure PerH (op : Int → Bool) (s : Spc) (W : Int) (v : Value) (l : List Int) (w : World) : Prop where
  dat : ∀ wx, Below w.heap.size w wx → Calls Tryz.prog 63 #[.agg #[.int .i64 s.st, .int .i64 s.en, .int .i64 s.n, .int .i64 s.unit, .int .i64 s.stub, .int .i64 s.roll, .int .i64 s.conv, .int .i64 s.lag, .int .i64 W, v]] wx fun e w' => (∃ u, e = .returned (.tuple #[u, .int .i64 0]) ∧ w'.ownsRow wx.heap.size 3 1 u l.length (l.map iV)) ∧ Below wx.heap.size wx w'
  adj : ∀ j < l.length, ∀ wx, Below w.heap.size w wx → Calls Tryz.prog 64 #[.agg #[.int .i64 W, v], .int .i64 (l.getD j 0), .int .i64 s.conv] wx fun e w' => e = .returned (.tuple #[.int .i64 ((adjO op (l.getD j 0) s.conv).getD 0), .int .i64 (ansE (adjO op (l.getD j 0) s.conv))]) ∧ Below wx.heap.size wx w'
  add : 0 < s.lag → ∀ j < l.length, ∀ y, adjO op (l.getD j 0) s.conv = some y → ∀ wx, Below w.heap.size w wx → Calls Tryz.prog 65 #[.agg #[.int .i64 W, v], .int .i64 y, .int .i64 s.lag] wx fun e w' => e = .returned (.tuple #[.int .i64 ((addO op 1 s.lag.toNat y).getD 0), .int .i64 (ansE (addO op 1 s.lag.toNat y))]) ∧ Below wx.heap.size wx w'
def PerOut (op : Int → Bool) (s : Spc) (l : List Int) (N : Nat) (w : World) (e : Ending) (w' : World) : Prop :=
  ((∃ j < N, perI op s l j = none) ∧ e = .returned (.tuple #[.slice none 0 0, .int .i64 51])) ∨ ((∀ j < N, (perI op s l j).isSome = true) ∧ ∃ u, e = .returned (.tuple #[u, .int .i64 0]) ∧ w'.ownsRow w.heap.size 56 5 u N (rowP (perL op s l N)))

structure PBoxS (wr : World) (r : Per) (w : World) : Prop where
  at_ : PerAt w wr.heap.size 0 r
  fr : ∀ k, w.frozen? ⟨wr.heap.size, k, none⟩ = false
  bl : Below wr.heap.size wr w
  lt : wr.heap.size < w.heap.size
theorem PBoxS.cells {wr w : World} {r : Per} (h : PBoxS wr r w) : w.cell? ⟨wr.heap.size, 0, none⟩ = some (.int .i64 r.fr) ∧ w.cell? ⟨wr.heap.size, 1, none⟩ = some (.int .i64 r.to) ∧ w.cell? ⟨wr.heap.size, 2, none⟩ = some (.int .i64 r.st) ∧ w.cell? ⟨wr.heap.size, 3, none⟩ = some (.int .i64 r.en) ∧ w.cell? ⟨wr.heap.size, 4, none⟩ = some (.int .i64 r.pay) :=
  ⟨h.at_.c0, h.at_.c1, h.at_.c2, h.at_.c3, h.at_.c4⟩
theorem PBoxS.step {wr w w' : World} {r : Per} (h : PBoxS wr r w) (hb : Below w.heap.size w w') : PBoxS wr r w' :=
  ⟨h.at_.below hb h.lt, fun k => (hb.frozen (p := ⟨wr.heap.size, k, none⟩) h.lt).trans (h.fr k), h.bl.trans (hb.mono (Nat.le_of_lt h.lt)), Nat.lt_of_lt_of_le h.lt hb.size⟩
theorem perAt_new (w : World) (r : Per) : PerAt (w.alloc (.cells #[.int .i64 r.fr, .int .i64 r.to, .int .i64 r.st, .int .i64 r.en, .int .i64 r.pay] 56)) w.heap.size 0 r :=
  ⟨by simp, by simp, by simp, by simp, by simp⟩
theorem PBoxS.first (w : World) (r : Per) : PBoxS w r (w.alloc (.cells #[.int .i64 r.fr, .int .i64 r.to, .int .i64 r.st, .int .i64 r.en, .int .i64 r.pay] 56)).drew :=
  (⟨perAt_new w r, fun k => World.frozen?_alloc_new _ _ _ _, (Below.refl _ w).alloc (Nat.le_refl _) _, by simp⟩ : PBoxS w r (w.alloc (.cells #[.int .i64 r.fr, .int .i64 r.to, .int .i64 r.st, .int .i64 r.en, .int .i64 r.pay] 56))).step (Below.refl _ _).drew
def set3 (w : World) (B : Nat) (x y z : Int) : World := ((w.setCell ⟨B, 2, none⟩ (.int .i64 x)).setCell ⟨B, 3, none⟩ (.int .i64 y)).setCell ⟨B, 4, none⟩ (.int .i64 z)
theorem set3_below {wr w : World} {r : Per} (h : PBoxS wr r w) (x y z : Int) : Below wr.heap.size wr (set3 w wr.heap.size x y z) :=
  ((h.bl.setCell (p := ⟨wr.heap.size, 2, none⟩) (Nat.le_refl _) _).setCell (p := ⟨wr.heap.size, 3, none⟩) (Nat.le_refl _) _).setCell (p := ⟨wr.heap.size, 4, none⟩) (Nat.le_refl _) _
theorem set3_size (w : World) (B : Nat) (x y z : Int) : (set3 w B x y z).heap.size = w.heap.size := by unfold set3; simp
theorem ansE_none : ansE none = 51 := rfl
theorem ansE_some (x : Int) : ansE (some x) = 0 := rfl

set_option maxHeartbeats 1600000 in
theorem ref8Periods_bad (s : Spc) (W E : Int) (v : Value) (w : World) (hE : E ≠ 0) (HC : Hid (∀ wx, Below w.heap.size w wx → Calls Tryz.prog 63 #[.agg #[.int .i64 s.st, .int .i64 s.en, .int .i64 s.n, .int .i64 s.unit, .int .i64 s.stub, .int .i64 s.roll, .int .i64 s.conv, .int .i64 s.lag, .int .i64 W, v]] wx fun e w' => e = .returned (.tuple #[.slice none 0 0, .int .i64 E]) ∧ Below wx.heap.size wx w')) :
    Calls Tryz.prog 36 #[.agg #[.int .i64 s.st, .int .i64 s.en, .int .i64 s.n, .int .i64 s.unit, .int .i64 s.stub, .int .i64 s.roll, .int .i64 s.conv, .int .i64 s.lag, .int .i64 W, v]] w fun e w' => e = .returned (.tuple #[.slice none 0 0, .int .i64 E]) ∧ Below w.heap.size w w' := by
  have HB := hideS (SBox.zero w s W v).below
  obtain ⟨st, en, n, unit, stub, roll, conv, lag⟩ := s
  dsimp only at *
  have hE' : (E != 0) = true := bne_iff_ne.2 hE
  clear hE
  go_enter Tryz.func36, Tryz.ntmps36
  go_wp2_with (go_at_call 63; refine (HC.out _ HB.out).mono ?_; rintro e w1 ⟨rfl, hb1⟩)
  go_ret2
  exact ⟨rfl, HB.out.trans (hb1.mono HB.out.size)⟩

set_option maxRecDepth 10000 in
set_option maxHeartbeats 16000000 in
theorem ref8Periods_go (op : Int → Bool) (s : Spc) (W : Int) (v : Value) (l : List Int) (N : Nat) (w : World) (hN : l.length = N + 1) (hN2 : N ≤ 100000) (H : Hid (PerH op s W v l w)) :
    Calls Tryz.prog 36 #[.agg #[.int .i64 s.st, .int .i64 s.en, .int .i64 s.n, .int .i64 s.unit, .int .i64 s.stub, .int .i64 s.roll, .int .i64 s.conv, .int .i64 s.lag, .int .i64 W, v]] w fun e w' => PerOut op s l N w e w' ∧ Below w.heap.size w w' := by
  have HB0 := hideS (SBox.zero w s W v)
  have HDt := hideS H.out.dat
  rw [hN] at HDt
  have HAd := hideS H.out.adj
  rw [hN] at HAd
  have HAa := hideS H.out.add
  rw [hN] at HAa
  have HPc := hideS (fun a b => perO_cases op s a b)
  obtain ⟨s', hs'⟩ : ∃ s', s' = s := ⟨s, rfl⟩
  have HPi : Hid (∀ i, perI op s' l i = perO op s (l.getD i 0) (l.getD (i + 1) 0)) := fun i => by rw [hs']; rfl
  have HPost : Hid (∀ e w', PerOut op s' l N w e w' → PerOut op s l N w e w') := fun e w' a => by rw [← hs']; exact a
  refine Calls.mono (R := fun e w' => PerOut op s' l N w e w' ∧ Below w.heap.size w w') ?_ (fun e w' ⟨a, b⟩ => ⟨HPost.out e w' a, b⟩)
  clear HPost H hs'
  obtain ⟨P0, hP0⟩ : ∃ P0 : Int → Int → Option Per, P0 = perO op s := ⟨_, rfl⟩
  rw [← hP0] at HPi HPc
  clear hP0
  obtain ⟨st, en, n, unit, stub, roll, conv, lag⟩ := s
  dsimp only at *
  go_enter Tryz.func36, Tryz.ntmps36
  go_wp2_with fail
  refine (HDt.out _ HB0.out.below).mono ?_
  rintro e w1 ⟨⟨u, rfl, ho1⟩, hb1⟩
  obtain ⟨pl, g, cl, rfl, hsrc, hlo, hlc, hcm⟩ := iown_src ho1 hN
  have HB1 := hideS (HB0.out.step hb1)
  have HS1 := hideS hsrc
  obtain rfl := hsrc.at_ (by omega)
  have HG1 : Hid (g < w1.heap.size) := hsrc.lt (by omega)
  have hw1 : w.heap.size + 1 ≤ w1.heap.size := by have := hb1.size; simp at this; omega
  clear hb1 HB0 HDt ho1 hsrc hlo hcm hlc
  go_wp2_with fail
  have HZ0 := hideS (Below.refl w1.heap.size w1)
  have HO0 := hideS (pown_nil w1 w1.heap.size)
  go_loopw [6, 7] (fun vo i wr => ∃ (m : Nat) (q : Option Addr) (c : Nat), m ≤ N ∧ i = .int .i64 m ∧ vo = .slice q m c ∧ Hid (wr.ownsRow w1.heap.size 56 5 (.slice q m c) m (rowP (perL op s' l m))) ∧ Hid (Below w1.heap.size w1 wr) ∧ Hid (∀ j < m, (perI op s' l j).isSome = true)) (fun _ i _ => N - (intOf i).toNat)
  case atStart => exact ⟨0, none, 0, by omega, rfl, rfl, HO0, HZ0, fun j hj => by omega⟩
  case round =>
    clear HZ0 HO0
    obtain ⟨m, q, c, hm, rfl, rfl, HO, HZ, HY⟩ := hrel
    have HB := hideS (HB1.out.stay HZ.out hw1)
    obtain ⟨c0, c1, c2, c3, c4, c5, c6, c7, c8, c9⟩ := HB.out.cells
    by_cases hlt : m < N
    · have hR := HS1.out.stay HZ.out (fun _ => HG1.out)
      have k0 := hR.cell m (by omega)
      have k1 := hR.cell (m + 1) (by omega)
      rw [Nat.zero_add] at k0 k1
      have HAa0 := hideS (fun wx h => HAd.out m (by omega) wx h)
      have HAb0 := hideS (fun wx h => HAd.out (m + 1) (by omega) wx h)
      have HAc0 := hideS (fun h0 y hy wx h => HAa.out h0 (m + 1) (by omega) y hy wx h)
      have hc := HPc.out (l.getD m 0) (l.getD (m + 1) 0)
      have HPm := hideS (HPi.out m)
      have HPs := hideS (perL_succ op s' l m)
      generalize l.getD m 0 = a at *
      generalize l.getD (m + 1) 0 = b at *
      clear hR
      have hi0 : (m : Int) < ((N + 1 : Nat) : Int) := by omega
      have hi1 : (m : Int) + 1 < ((N + 1 : Nat) : Int) := by omega
      have hsz := HZ.out.size
      have hgl : g < wr.heap.size := Nat.lt_of_lt_of_le HG1.out hsz
      have hgn : g ≠ wr.heap.size := Nat.ne_of_lt hgl
      go_wp2_with fail
      go_region
      have HP0 := hideS (PBoxS.first wr ⟨a, b, 0, 0, 0⟩)
      dsimp only at HP0
      generalize (wr.alloc (Obj.cells #[Value.int IntKind.i64 a, Value.int IntKind.i64 b, Value.int IntKind.i64 0, Value.int IntKind.i64 0, Value.int IntKind.i64 0] 56)).drew = wP at *
      have hBr : w.heap.size + 1 ≤ wr.heap.size := by omega
      have HBp := hideS (HB.out.stay HP0.out.bl hBr)
      have HZp := hideS (HZ.out.trans (HP0.out.bl.mono hsz))
      clear c0 c1 c2 c3 c4 c5 c6 c7 c8 c9 k0 k1 hgl hgn
      have HA1 : Hid (∀ o, adjO op a conv = o → ∀ wx, Below w1.heap.size w1 wx → Calls Tryz.prog 64 #[.agg #[.int .i64 W, v], .int .i64 a, .int .i64 conv] wx fun e w' => e = .returned (.tuple #[.int .i64 (o.getD 0), .int .i64 (ansE o)]) ∧ Below wx.heap.size wx w') := fun o ho wx h => by
        rw [← ho]; exact HAa0.out wx (HB1.out.below.trans (h.mono HB1.out.below.size))
      have HA2 : Hid (∀ o, adjO op b conv = o → ∀ wx, Below w1.heap.size w1 wx → Calls Tryz.prog 64 #[.agg #[.int .i64 W, v], .int .i64 b, .int .i64 conv] wx fun e w' => e = .returned (.tuple #[.int .i64 (o.getD 0), .int .i64 (ansE o)]) ∧ Below wx.heap.size wx w') := fun o ho wx h => by
        rw [← ho]; exact HAb0.out wx (HB1.out.below.trans (h.mono HB1.out.below.size))
      have HA3 : Hid (0 < lag → ∀ y o, adjO op b conv = some y → addO op 1 lag.toNat y = o → ∀ wx, Below w1.heap.size w1 wx → Calls Tryz.prog 65 #[.agg #[.int .i64 W, v], .int .i64 y, .int .i64 lag] wx fun e w' => e = .returned (.tuple #[.int .i64 (o.getD 0), .int .i64 (ansE o)]) ∧ Below wx.heap.size wx w') := fun h0 y o hy ho wx h => by
        rw [← ho]; exact HAc0.out h0 y hy wx (HB1.out.below.trans (h.mono HB1.out.below.size))
      clear HAa0 HAb0 HAc0 HAd HAa HPc
      have HNo : Hid (P0 a b = none → ∀ wx, Below wr.heap.size wr wx → PerOut op s' l N w (.returned (.tuple #[.slice none 0 0, .int .i64 51])) wx ∧ Below w.heap.size w wx) := fun hp wx h => ⟨Or.inl ⟨⟨m, hlt, by rw [HPm.out]; exact hp⟩, rfl⟩, HB.out.below.trans (h.mono HB.out.below.size)⟩
      have HYs : Hid (∀ r, P0 a b = some r → (∀ j < m + 1, (perI op s' l j).isSome = true) ∧ perL op s' l (m + 1) = perL op s' l m ++ [r]) := fun r hp => by
        refine ⟨fun j hj => ?_, by rw [HPs.out, HPm.out, hp]; rfl⟩
        by_cases e : j < m
        · exact HY.out j e
        · obtain rfl : j = m := by omega
          rw [HPm.out, hp]; rfl
      clear HY HPi HPm HPs HB HS1 HG1
      rcases hc with ⟨ha, hp⟩ | ⟨x, ha, hb, hp⟩ | ⟨x, y, ha, hb, hlag, hp⟩ | ⟨x, y, ha, hb, hlag, hz, hp⟩ | ⟨x, y, z, ha, hb, hlag, hz, hp⟩
      · replace HA1 := hideS (HA1.out _ ha)
        rw [ansE_none] at HA1
        clear HA2 HA3 HYs
        replace HNo := hideS (HNo.out hp)
        clear hp ha
        obtain ⟨c0, c1, c2, c3, c4, c5, c6, c7, c8, c9⟩ := HBp.out.cells
        obtain ⟨p0, p1, p2, p3, p4⟩ := HP0.out.cells
        go_wp2_with fail
        refine (HA1.out _ HZp.out).mono ?_
        rintro e w2 ⟨rfl, hb2⟩
        clear c0 c1 c2 c3 c4 c5 c6 c7 c8 c9 p0 p1 p2 p3 p4
        go_wp2_with fail
        go_ret2
        exact HNo.out _ (HP0.out.step hb2).bl
      · replace HA1 := hideS (HA1.out _ ha)
        rw [ansE_some] at HA1
        replace HA2 := hideS (HA2.out _ hb)
        rw [ansE_none] at HA2
        clear HA3 HYs
        replace HNo := hideS (HNo.out hp)
        clear hp ha hb
        dsimp only [Option.getD] at HA1 HA2
        obtain ⟨c0, c1, c2, c3, c4, c5, c6, c7, c8, c9⟩ := HBp.out.cells
        obtain ⟨p0, p1, p2, p3, p4⟩ := HP0.out.cells
        go_wp2_with fail
        refine (HA1.out _ HZp.out).mono ?_
        rintro e w2 ⟨rfl, hb2⟩
        have HP2 := hideS (HP0.out.step hb2)
        have HB2 := hideS (HBp.out.step hb2)
        have HZ2 := hideS (HZ.out.trans (HP2.out.bl.mono hsz))
        clear HP0 HBp HZp hb2 HA1
        clear c0 c1 c2 c3 c4 c5 c6 c7 c8 c9 p0 p1 p2 p3 p4
        obtain ⟨c0, c1, c2, c3, c4, c5, c6, c7, c8, c9⟩ := HB2.out.cells
        obtain ⟨p0, p1, p2, p3, p4⟩ := HP2.out.cells
        go_wp2_with fail
        refine (HA2.out _ HZ2.out).mono ?_
        rintro e w3 ⟨rfl, hb3⟩
        have HP3 := hideS (HP2.out.step hb3)
        have HB3 := hideS (HB2.out.step hb3)
        have HZ3 := hideS (HZ.out.trans (HP3.out.bl.mono hsz))
        clear HP2 HB2 HZ2 hb3 HA2
        clear c0 c1 c2 c3 c4 c5 c6 c7 c8 c9 p0 p1 p2 p3 p4
        go_wp2_with fail
        go_ret2
        exact HNo.out _ HP3.out.bl
      · replace HA1 := hideS (HA1.out _ ha)
        rw [ansE_some] at HA1
        replace HA2 := hideS (HA2.out _ hb)
        rw [ansE_some] at HA2
        clear HA3 HNo
        replace HYs := hideS (HYs.out _ hp)
        clear hp ha hb
        dsimp only [Option.getD] at HA1 HA2
        obtain ⟨c0, c1, c2, c3, c4, c5, c6, c7, c8, c9⟩ := HBp.out.cells
        obtain ⟨p0, p1, p2, p3, p4⟩ := HP0.out.cells
        go_wp2_with fail
        refine (HA1.out _ HZp.out).mono ?_
        rintro e w2 ⟨rfl, hb2⟩
        have HP2 := hideS (HP0.out.step hb2)
        have HB2 := hideS (HBp.out.step hb2)
        have HZ2 := hideS (HZ.out.trans (HP2.out.bl.mono hsz))
        clear HP0 HBp HZp hb2 HA1
        clear c0 c1 c2 c3 c4 c5 c6 c7 c8 c9 p0 p1 p2 p3 p4
        obtain ⟨c0, c1, c2, c3, c4, c5, c6, c7, c8, c9⟩ := HB2.out.cells
        obtain ⟨p0, p1, p2, p3, p4⟩ := HP2.out.cells
        go_wp2_with fail
        refine (HA2.out _ HZ2.out).mono ?_
        rintro e w3 ⟨rfl, hb3⟩
        have HP3 := hideS (HP2.out.step hb3)
        have HB3 := hideS (HB2.out.step hb3)
        have HZ3 := hideS (HZ.out.trans (HP3.out.bl.mono hsz))
        clear HP2 HB2 HZ2 hb3 HA2
        clear c0 c1 c2 c3 c4 c5 c6 c7 c8 c9 p0 p1 p2 p3 p4
        obtain ⟨c0, c1, c2, c3, c4, c5, c6, c7, c8, c9⟩ := HB3.out.cells
        obtain ⟨p0, p1, p2, p3, p4⟩ := HP3.out.cells
        have f2 := HP3.out.fr 2
        have f3 := HP3.out.fr 3
        have f4 := HP3.out.fr 4
        have HW : Hid (∀ o, Below wr.heap.size wr ((set3 w3 wr.heap.size x y y).alloc o)) := fun o => (set3_below HP3.out x y y).alloc (Nat.le_trans (Nat.le_of_lt HP3.out.lt) (Nat.le_of_eq (set3_size _ _ _ _ _).symm)) o
        have HOa : Hid (∀ o, ((set3 w3 wr.heap.size x y y).alloc o).ownsRow w1.heap.size 56 5 (.slice q m c) m (rowP (perL op s' l m))) := fun o => pown_below HO.out (HW.out o)
        have HZa : Hid (∀ o, w1.heap.size ≤ ((set3 w3 wr.heap.size x y y).alloc o).heap.size) := fun o => Nat.le_trans hsz (HW.out o).size
        have HPn : Hid (PerAt ((set3 w3 wr.heap.size x y y).alloc (.cells #[.int .i64 a, .int .i64 b, .int .i64 x, .int .i64 y, .int .i64 y] 56)) w3.heap.size 0 ⟨a, b, x, y, y⟩) := by
          have := perAt_new (set3 w3 wr.heap.size x y y) ⟨a, b, x, y, y⟩
          rw [set3_size] at this
          exact this
        go_wp2_with (at_builtin; refine wpList_append_per _ rfl (.tmp 89) (.tmp 91) rfl w1.heap.size (.slice q m c) m (perL op s' l m) rfl (HOa.out _) w3.heap.size ⟨a, b, x, y, y⟩ rfl HPn.out (by omega) (HZa.out _) ?_; intro v5 w5 ho5 hg5; have HZ5 := hideS ((HZ.out.trans ((HW.out _).mono hsz)).trans (pgrown_below (HOa.out _) hg5 (HZa.out _))); rw [← HYs.out.2] at ho5; obtain ⟨q5, g5, k5, hv5, _, _, _, hm5⟩ := pown_src ho5 (perL_len _ _ _ _); subst hv5; have HO5 := hideS ho5; clear ho5 hg5)
        go_roundw
        case rel => exact ⟨m + 1, q5, k5, by omega, by go_num, rfl, HO5, HZ5, hideS HYs.out.1⟩
        case measure => simp [intOf]; omega
      · replace HA1 := hideS (HA1.out _ ha)
        rw [ansE_some] at HA1
        replace HA3 := hideS (HA3.out hlag _ _ hb hz)
        rw [ansE_none] at HA3
        replace HA2 := hideS (HA2.out _ hb)
        rw [ansE_some] at HA2
        clear HYs
        replace HNo := hideS (HNo.out hp)
        clear hp ha hb hz
        dsimp only [Option.getD] at HA1 HA2 HA3
        obtain ⟨c0, c1, c2, c3, c4, c5, c6, c7, c8, c9⟩ := HBp.out.cells
        obtain ⟨p0, p1, p2, p3, p4⟩ := HP0.out.cells
        go_wp2_with fail
        refine (HA1.out _ HZp.out).mono ?_
        rintro e w2 ⟨rfl, hb2⟩
        have HP2 := hideS (HP0.out.step hb2)
        have HB2 := hideS (HBp.out.step hb2)
        have HZ2 := hideS (HZ.out.trans (HP2.out.bl.mono hsz))
        clear HP0 HBp HZp hb2 HA1
        clear c0 c1 c2 c3 c4 c5 c6 c7 c8 c9 p0 p1 p2 p3 p4
        obtain ⟨c0, c1, c2, c3, c4, c5, c6, c7, c8, c9⟩ := HB2.out.cells
        obtain ⟨p0, p1, p2, p3, p4⟩ := HP2.out.cells
        go_wp2_with fail
        refine (HA2.out _ HZ2.out).mono ?_
        rintro e w3 ⟨rfl, hb3⟩
        have HP3 := hideS (HP2.out.step hb3)
        have HB3 := hideS (HB2.out.step hb3)
        have HZ3 := hideS (HZ.out.trans (HP3.out.bl.mono hsz))
        clear HP2 HB2 HZ2 hb3 HA2
        clear c0 c1 c2 c3 c4 c5 c6 c7 c8 c9 p0 p1 p2 p3 p4
        obtain ⟨c0, c1, c2, c3, c4, c5, c6, c7, c8, c9⟩ := HB3.out.cells
        obtain ⟨p0, p1, p2, p3, p4⟩ := HP3.out.cells
        go_wp2_with fail
        refine (HA3.out _ HZ3.out).mono ?_
        rintro e w4 ⟨rfl, hb4⟩
        have HP4 := hideS (HP3.out.step hb4)
        have HB4 := hideS (HB3.out.step hb4)
        clear HP3 HB3 HZ3 hb4 HA3
        clear c0 c1 c2 c3 c4 c5 c6 c7 c8 c9 p0 p1 p2 p3 p4
        go_wp2_with fail
        go_ret2
        exact HNo.out _ HP4.out.bl
      · replace HA1 := hideS (HA1.out _ ha)
        rw [ansE_some] at HA1
        replace HA3 := hideS (HA3.out hlag _ _ hb hz)
        rw [ansE_some] at HA3
        replace HA2 := hideS (HA2.out _ hb)
        rw [ansE_some] at HA2
        clear HNo
        replace HYs := hideS (HYs.out _ hp)
        clear hp ha hb hz
        dsimp only [Option.getD] at HA1 HA2 HA3
        obtain ⟨c0, c1, c2, c3, c4, c5, c6, c7, c8, c9⟩ := HBp.out.cells
        obtain ⟨p0, p1, p2, p3, p4⟩ := HP0.out.cells
        go_wp2_with fail
        refine (HA1.out _ HZp.out).mono ?_
        rintro e w2 ⟨rfl, hb2⟩
        have HP2 := hideS (HP0.out.step hb2)
        have HB2 := hideS (HBp.out.step hb2)
        have HZ2 := hideS (HZ.out.trans (HP2.out.bl.mono hsz))
        clear HP0 HBp HZp hb2 HA1
        clear c0 c1 c2 c3 c4 c5 c6 c7 c8 c9 p0 p1 p2 p3 p4
        obtain ⟨c0, c1, c2, c3, c4, c5, c6, c7, c8, c9⟩ := HB2.out.cells
        obtain ⟨p0, p1, p2, p3, p4⟩ := HP2.out.cells
        go_wp2_with fail
        refine (HA2.out _ HZ2.out).mono ?_
        rintro e w3 ⟨rfl, hb3⟩
        have HP3 := hideS (HP2.out.step hb3)
        have HB3 := hideS (HB2.out.step hb3)
        have HZ3 := hideS (HZ.out.trans (HP3.out.bl.mono hsz))
        clear HP2 HB2 HZ2 hb3 HA2
        clear c0 c1 c2 c3 c4 c5 c6 c7 c8 c9 p0 p1 p2 p3 p4
        obtain ⟨c0, c1, c2, c3, c4, c5, c6, c7, c8, c9⟩ := HB3.out.cells
        obtain ⟨p0, p1, p2, p3, p4⟩ := HP3.out.cells
        go_wp2_with fail
        refine (HA3.out _ HZ3.out).mono ?_
        rintro e w4 ⟨rfl, hb4⟩
        have HP4 := hideS (HP3.out.step hb4)
        have HB4 := hideS (HB3.out.step hb4)
        clear HP3 HB3 HZ3 hb4 HA3
        clear c0 c1 c2 c3 c4 c5 c6 c7 c8 c9 p0 p1 p2 p3 p4
        obtain ⟨c0, c1, c2, c3, c4, c5, c6, c7, c8, c9⟩ := HB4.out.cells
        obtain ⟨p0, p1, p2, p3, p4⟩ := HP4.out.cells
        have f2 := HP4.out.fr 2
        have f3 := HP4.out.fr 3
        have f4 := HP4.out.fr 4
        have HW : Hid (∀ o, Below wr.heap.size wr ((set3 w4 wr.heap.size x y z).alloc o)) := fun o => (set3_below HP4.out x y z).alloc (Nat.le_trans (Nat.le_of_lt HP4.out.lt) (Nat.le_of_eq (set3_size _ _ _ _ _).symm)) o
        have HOa : Hid (∀ o, ((set3 w4 wr.heap.size x y z).alloc o).ownsRow w1.heap.size 56 5 (.slice q m c) m (rowP (perL op s' l m))) := fun o => pown_below HO.out (HW.out o)
        have HZa : Hid (∀ o, w1.heap.size ≤ ((set3 w4 wr.heap.size x y z).alloc o).heap.size) := fun o => Nat.le_trans hsz (HW.out o).size
        have HPn : Hid (PerAt ((set3 w4 wr.heap.size x y z).alloc (.cells #[.int .i64 a, .int .i64 b, .int .i64 x, .int .i64 y, .int .i64 z] 56)) w4.heap.size 0 ⟨a, b, x, y, z⟩) := by
          have := perAt_new (set3 w4 wr.heap.size x y z) ⟨a, b, x, y, z⟩
          rw [set3_size] at this
          exact this
        go_wp2_with (at_builtin; refine wpList_append_per _ rfl (.tmp 89) (.tmp 91) rfl w1.heap.size (.slice q m c) m (perL op s' l m) rfl (HOa.out _) w4.heap.size ⟨a, b, x, y, z⟩ rfl HPn.out (by omega) (HZa.out _) ?_; intro v5 w5 ho5 hg5; have HZ5 := hideS ((HZ.out.trans ((HW.out _).mono hsz)).trans (pgrown_below (HOa.out _) hg5 (HZa.out _))); rw [← HYs.out.2] at ho5; obtain ⟨q5, g5, k5, hv5, _, _, _, hm5⟩ := pown_src ho5 (perL_len _ _ _ _); subst hv5; have HO5 := hideS ho5; clear ho5 hg5)
        go_roundw
        case rel => exact ⟨m + 1, q5, k5, by omega, by go_num, rfl, HO5, HZ5, hideS HYs.out.1⟩
        case measure => simp [intOf]; omega
    · obtain rfl : m = N := by omega
      have hge : ¬ (m : Int) + 1 < ((m + 1 : Nat) : Int) := by omega
      go_wp2_with fail
      go_ret2
      exact ⟨Or.inr ⟨HY.out, _, rfl, pown_mono HO.out (by omega)⟩, HB.out.below⟩
end Go.Proofs.YtpcgbcdldkmibaaGreat
namespace Go.Proofs.YtpcgbcdldkmibaaGreat
open Go.RowKit

end Go.Proofs.YtpcgbcdldkmibaaGreat
namespace Go.Proofs.YtpcgbcdldkmibaaGreat
open Go.RowKit

set_option maxRecDepth 10000 in
set_option maxHeartbeats 16000000 in
theorem ref8Dates_fore (s : Spc) (W : Int) (v : Value) (K : Nat) (w : World) (h : SpcOk s) (hK : DatR s K) (H : Hid (DatH s W v w)) (hb : ¬ s.stub ≤ 2) :
    Calls Tryz.prog 63 #[.agg #[.int .i64 s.st, .int .i64 s.en, .int .i64 s.n, .int .i64 s.unit, .int .i64 s.stub, .int .i64 s.roll, .int .i64 s.conv, .int .i64 s.lag, .int .i64 W, v]] w fun e w' => DatO s K w e w' ∧ Below w.heap.size w w' := by
  have HB0 := hideS (SBox.zero w s W v)
  have HKr := hideS hK
  have HT := hideS (tail_cases hK h.t1 h.t2)
  have t1 := h.t2
  have hpk : ∀ k : Nat, pkO s k = ptO s s.st (k : Int) := fun k => by
    unfold pkO ancI sgnI
    rw [if_neg hb, if_neg hb, Int.mul_one]
  have HPk := hideS hpk
  have HIn : Hid (∀ j < K, ∃ x, pkO s (j + 1) = some x ∧ x < s.en) := fun j hj => by
    obtain ⟨x, e, hx⟩ := inn_some hK hj
    rw [if_neg hb] at hx
    exact ⟨x, e, hx⟩
  have hoth : othI s = s.en := by unfold othI; rw [if_neg hb]
  have HOth := hideS hoth
  have HCut : Hid (∀ C i, C ≤ K → i < C → (innL s K).getD i 0 = cutI s C i) := fun C i hC hi => by
    have := inn_cut (s := s) hC hi
    rw [if_neg hb] at this
    exact this
  have HS2 := hideS hb
  clear hK h hpk hoth
  obtain ⟨s', hs'⟩ : ∃ s', s' = s := ⟨s, rfl⟩
  rw [← hs'] at HKr HT HPk HIn HOth HCut HS2
  have HSp := hideS hs'
  have HPost : Hid (∀ e w', DatO s' K w e w' → DatO s K w e w') := fun e w' a => by rw [← hs']; exact a
  have hstub : s'.stub = s.stub ∧ s'.st = s.st := by rw [hs']; exact ⟨rfl, rfl⟩
  have HStub := hideS hstub
  have HEn : Hid (s'.en = s.en) := by show _ = _; rw [hs']
  clear hs' hstub
  have HPt : Hid (∀ (k : Nat) (o : Option Int) wx, pkO s' k = o → Calls Tryz.prog 113 #[.agg #[.int .i64 s.st, .int .i64 s.en, .int .i64 s.n, .int .i64 s.unit, .int .i64 s.stub, .int .i64 s.roll, .int .i64 s.conv, .int .i64 s.lag, .int .i64 W, v], .int .i64 s.st, .int .i64 (k : Int)] wx fun e w' => e = .returned (.tuple #[.int .i64 (o.getD 0), .bool o.isSome]) ∧ Below wx.heap.size wx w') := fun k o wx ho => by
    have := H.out.pt s.st (k : Int) wx
    rw [HPk.out] at ho
    rw [HSp.out] at ho
    rw [ho] at this
    exact this
  have HCh := hideS H.out.chk
  refine Calls.mono (R := fun e w' => DatO s' K w e w' ∧ Below w.heap.size w w') ?_ (fun e w' ⟨a, b⟩ => ⟨HPost.out e w' a, b⟩)
  clear HPost HSp HPk H
  obtain ⟨st, en, n, unit, stub, roll, conv, lag⟩ := s
  dsimp only at *
  go_enter Tryz.func63, Tryz.ntmps63
  go_wp2_with fail
  refine (HCh.out _ HB0.out.below).mono ?_
  rintro e w1 ⟨rfl, hb1⟩
  have HB1 := hideS (HB0.out.step hb1)
  clear hb1 HB0
  obtain ⟨c0, c1, c2, c3, c4, c5, c6, c7, c8, c9⟩ := HB1.out.cells
  go_wp2_with fail
  clear c0 c1 c2 c3 c4 c5 c6 c7 c8 c9
  have hK0 : ∀ q : Nat, q ≤ 1200 → True := fun _ _ => trivial
  clear hK0
  go_loopw [9, 11] (fun vi i wr => ∃ (k : Nat) (I : Int) (q : Option Addr) (c : Nat), k ≤ K ∧ k < 1200 ∧ 1 ≤ I ∧ I ≤ 1200 ∧ i = .int .i64 I ∧ vi = .slice q k c ∧ Hid (I = (k : Int) + 1) ∧ Hid (wr.ownsRow (w.heap.size + 1) 3 1 (.slice q k c) k ((innL s' k).map iV)) ∧ Hid (SBox w ⟨st, en, n, unit, stub, roll, conv, lag⟩ W v wr)) (fun _ i _ => (1201 - intOf i).toNat)
  case atStart => exact ⟨0, 1, none, 0, by omega, by omega, by omega, by omega, rfl, rfl, rfl, iown_nil _ _, HB1⟩
  case round =>
    clear HB1
    obtain ⟨k, I, q, c, hk, hk2, I0, I1, rfl, rfl, HI, HO, HB⟩ := hrel
    obtain ⟨c0, c1, c2, c3, c4, c5, c6, c7, c8, c9⟩ := HB.out.cells
    have HJ : Hid (I = ((k + 1 : Nat) : Int)) := by have := HI.out; show _ = _; omega
    by_cases hlt : k < K
    · obtain ⟨x, hx, hxs⟩ := HIn.out k hlt
      have HP := hideS (fun wx => HPt.out (k + 1) (some x) wx hx)
      rw [← HJ.out] at HP
      dsimp only [Option.getD, Option.isSome] at HP
      have hxs' : ¬ en ≤ x := by have := HEn.out; omega
      have HNx : Hid (innL s' (k + 1) = innL s' k ++ [x]) := by show _ = _; rw [inn_succ, hx]; rfl
      have hsz := HB.out.below.size
      have hb0 : ¬ stub ≤ 2 := by omega
      by_cases hmany : k + 1 < 1200
      · have hlen : ¬ (1200 : Int) < ((k + 1 : Nat) : Int) + 1 := by omega
        go_wp2_with (first | (go_at_call 113; refine (HP.out _).mono ?_; rintro e w2 ⟨rfl, hb2⟩; have HB2 := hideS (HB.out.step hb2); have HO2 := hideS (iown_below HO.out hb2); have HOa : Hid (∀ o, (w2.alloc o).ownsRow (w.heap.size + 1) 3 1 (.slice q k c) k ((innL s' k).map iV)) := fun o => iown_below HO2.out ((Below.refl _ w2).alloc (Nat.le_refl _) o); have HBa : Hid (∀ o, SBox w ⟨st, en, n, unit, stub, roll, conv, lag⟩ W v (w2.alloc o)) := fun o => HB2.out.step ((Below.refl _ w2).alloc (Nat.le_refl _) o); have hz2 : Hid (∀ o, w.heap.size + 1 ≤ (w2.alloc o).heap.size) := fun o => by have := Below.size (HBa.out o); simp at this ⊢; omega) | (at_builtin; refine wpList_append_int _ rfl (.tmp 69) (.tmp 71) rfl (w.heap.size + 1) (.slice q k c) k (innL s' k) rfl (HOa.out _) w2.heap.size x rfl (by simp) (by omega) (hz2.out _) ?_; intro v5 w5 ho5 hg5; have HB5 := hideS ((HBa.out _).stay (igrown_below (HOa.out _) hg5 (hz2.out _)) (Nat.le_refl _)); rw [← HNx.out] at ho5; obtain ⟨q5, g5, k5, hv5, _, _, _, hm5⟩ := iown_src ho5 (inn_len _ _); subst hv5; have HO5 := hideS ho5; clear ho5 hg5))
        go_roundw
        case rel =>
          have h1 : Hid (I + 1 = ((k + 1 : Nat) : Int) + 1) := by have := HI.out; show _ = _; omega
          have h2 : I + 1 ≤ 1200 := by have := HI.out; omega
          first
          | exact ⟨k + 1, I + 1, q5, k5, by omega, by omega, by omega, h2, rfl, rfl, h1, HO5, HB5⟩
          | exact ⟨_, _, _, _, _, ⟨k + 1, by omega, by omega, I + 1, by omega, h2, rfl, q5, k5, rfl, h1, HO5⟩, rfl, rfl, rfl, rfl, rfl⟩
        case measure => simp [intOf]; omega
      · have hlen : (1200 : Int) < ((k + 1 : Nat) : Int) + 1 := by omega
        have HKm : Hid (1200 ≤ K) := by show _ ≤ _; omega
        go_wp2_with (first | (go_at_call 113; refine (HP.out _).mono ?_; rintro e w2 ⟨rfl, hb2⟩; have HB2 := hideS (HB.out.step hb2); have HO2 := hideS (iown_below HO.out hb2); have HOa : Hid (∀ o, (w2.alloc o).ownsRow (w.heap.size + 1) 3 1 (.slice q k c) k ((innL s' k).map iV)) := fun o => iown_below HO2.out ((Below.refl _ w2).alloc (Nat.le_refl _) o); have HBa : Hid (∀ o, SBox w ⟨st, en, n, unit, stub, roll, conv, lag⟩ W v (w2.alloc o)) := fun o => HB2.out.step ((Below.refl _ w2).alloc (Nat.le_refl _) o); have hz2 : Hid (∀ o, w.heap.size + 1 ≤ (w2.alloc o).heap.size) := fun o => by have := Below.size (HBa.out o); simp at this ⊢; omega) | (at_builtin; refine wpList_append_int _ rfl (.tmp 69) (.tmp 71) rfl (w.heap.size + 1) (.slice q k c) k (innL s' k) rfl (HOa.out _) w2.heap.size x rfl (by simp) (by omega) (hz2.out _) ?_; intro v5 w5 ho5 hg5; have HB5 := hideS ((HBa.out _).stay (igrown_below (HOa.out _) hg5 (hz2.out _)) (Nat.le_refl _)); rw [← HNx.out] at ho5; obtain ⟨q5, g5, k5, hv5, _, _, _, hm5⟩ := iown_src ho5 (inn_len _ _); subst hv5; have HO5 := hideS ho5; clear ho5 hg5))
        go_ret2
        exact ⟨Or.inl ⟨HKm.out, rfl⟩, HB5.out.below⟩
    · obtain rfl : k = K := by omega
      obtain ⟨C, hC, hCK, hend, hst⟩ := HT.out
      have HCe := hideS hC
      have hs1 := HStub.out.1
      have ho1 := HOth.out
      have ho2 := HEn.out
      rw [hs1] at hst hend
      rw [ho1, ho2] at hend
      clear hC hs1 ho1 ho2
      obtain ⟨p6, g6, c6, hv6, hsrc6, hlo6, hnc6, hcm6⟩ := iown_src HO.out (inn_len _ _)
      have e6 : q = p6 ∧ c = c6 := by cases hv6; exact ⟨rfl, rfl⟩
      obtain ⟨rfl, rfl⟩ := e6
      have hcl : c ≤ 9223372036854775807 := by unfold maxLen at hcm6; omega
      have HSr := hideS hsrc6
      clear hv6 hsrc6 hcm6 HIn HO
      have hk3 : k ≤ 1199 := by omega
      have hb0 : ¬ stub ≤ 2 := by omega
      generalize evenB s' k = ev at hend hst
      have hcase : (∃ o b, pkO s' (k + 1) = o ∧ ((o = none ∧ b = true) ∨ (∃ x, o = some x ∧ b = false ∧ en ≤ x)) ∧ ev = (o == some en)) := by
        rcases hend with ⟨a, a2⟩ | ⟨x, a, a2, a3⟩
        · exact ⟨none, true, a, Or.inl ⟨rfl, rfl⟩, by rw [a2]; rfl⟩
        · rw [if_neg hb0] at a2
          refine ⟨some x, false, a, Or.inr ⟨x, rfl, rfl, a2⟩, ?_⟩
          rcases a3 with ⟨e, e2⟩ | ⟨e, e2⟩
          · rw [e2, e]; exact (beq_self_eq_true _).symm
          · rw [e2]; exact (beq_eq_false_iff_ne.2 (fun f => e (Option.some.inj f))).symm
      clear hend
      obtain ⟨o, bn, ho, hob, hev⟩ := hcase
      have HP := hideS (fun wx => HPt.out (k + 1) o wx ho)
      rw [← HJ.out] at HP
      clear ho HJ HI HPt
      have hst' : (stub = 3 ∧ C = k) ∨ (stub = 4 ∧ ev = true ∧ C = k) ∨ (stub = 4 ∧ ev = false ∧ ¬ (0 : Int) < k ∧ C = k) ∨ (stub = 4 ∧ ev = false ∧ (0 : Int) < k ∧ k = C + 1) := by
        rcases hst with ⟨a, a2⟩ | ⟨a, a2, a3⟩ | ⟨a, a2, a3, a4⟩ | ⟨a, a2, a3, a4⟩
        · exact Or.inl ⟨by omega, a2⟩
        · exact Or.inr (Or.inl ⟨by omega, a2, a3⟩)
        · exact Or.inr (Or.inr (Or.inl ⟨by omega, a2, by omega, by omega⟩))
        · exact Or.inr (Or.inr (Or.inr ⟨by omega, a2, by omega, a4⟩))
      clear hst
      have hob' : (o = none ∧ ev = false) ∨ (o = some en ∧ ev = true) ∨ (∃ x, o = some x ∧ en ≤ x ∧ (x == en) = false ∧ ev = false) := by
        rcases hob with ⟨a, _⟩ | ⟨x, a, _, a2⟩
        · exact Or.inl ⟨a, by rw [hev, a]; rfl⟩
        · by_cases e : x = en
          · exact Or.inr (Or.inl ⟨by rw [a, e], by rw [hev, a, e]; exact beq_self_eq_true _⟩)
          · refine Or.inr (Or.inr ⟨x, a, a2, beq_eq_false_iff_ne.2 e, ?_⟩)
            rw [hev, a]; exact beq_eq_false_iff_ne.2 (fun f => e (Option.some.inj f))
      clear hob hev
      have HTail : Hid (∀ (wE : World) (b0 : Nat) (v2 : Value), wE.ownsRow b0 3 1 v2 (C + 2) ((datL s' C).map iV) → w.heap.size ≤ b0 → DatO s' k w (.returned (.tuple #[v2, .int .i64 0])) wE) := fun wE b0 v2 ho hb => Or.inr ⟨by omega, _, rfl, by rw [HCe.out]; exact iown_mono ho hb⟩
      have HC2 : Hid (∀ m, m < C → (innL s' k).getD m 0 = cutI s' C m) := fun m hm => HCut.out C m hCK hm
      have HD0 : Hid ([st] = datP s' C 0) := by show _ = _; unfold datP; rw [HStub.out.2]; rfl
      have HD1 : Hid (datP s' C C ++ [en] = datL s' C) := by show _ = _; rw [← datP_end, HEn.out]
      have hsz := HB.out.below.size
      have HG6 : Hid (0 < k → g6 < wr.heap.size) := fun h => HSr.out.lt (by rw [inn_len]; exact h)
      clear HCe HCut HStub HEn HOth HS2 HKr c0 c1 c2 c3 c4 c5 c6 c7 c8 c9 hlo6
      rcases hst' with ⟨rfl, hCk⟩ | ⟨rfl, hev, hCk⟩ | ⟨rfl, hev, hk0, hCk⟩ | ⟨rfl, hev, hk0, hCk⟩
      all_goals rcases hob' with ⟨rfl, he2⟩ | ⟨rfl, he2⟩ | ⟨x, rfl, hx, hx2, he2⟩
      all_goals first | (exfalso; rw [hev] at he2; exact Bool.noConfusion he2) | skip
      all_goals
        dsimp only [Option.getD, Option.isSome] at HP
        subst hCk
        obtain ⟨c0, c1, c2, c3, c4, c5, c6, c7, c8, c9⟩ := HB.out.cells
        go_wp2_with (go_at_call 113; refine (HP.out _).mono ?_; rintro e w2 ⟨rfl, hb2⟩; have HB2 := hideS (HB.out.step hb2); have HR2 := hideS (HSr.out.below hb2); have hz2 := hb2.size; clear hb2 c0 c1 c2 c3 c4 c5 c6 c7 c8 c9; obtain ⟨c0, c1, c2, c3, c4, c5, c6, c7, c8, c9⟩ := HB2.out.cells)
        clear c0 c1 c2 c3 c4 c5 c6 c7 c8 c9
        try clear hk0
        have HO0 := hideS (iown_one w2 st)
        rw [HD0.out] at HO0
        have HB3 := hideS (HB2.out.step ((Below.refl _ w2).alloc (Nat.le_refl _) (.cells #[.int .i64 st] 3)))
        have HR3 := hideS (HR2.out.below ((Below.refl _ w2).alloc (Nat.le_refl _) (.cells #[.int .i64 st] 3)))
        have HZ3 : Hid (w2.heap.size ≤ (w2.alloc (.cells #[.int .i64 st] 3)).heap.size) := by show _ ≤ _; simp
        have hw2 : w.heap.size + 1 ≤ w2.heap.size := by have := Below.size HB2.out; simp at this; omega
        have HG2 := hideS (fun h => Nat.lt_of_lt_of_le (HG6.out h) hz2)
        clear HG6 hz2
        clear HB2 HR2 HP HD0
        go_loopw [14, 15] (fun vo i wx => ∃ (m : Nat) (q2 : Option Addr) (k2 : Nat), m ≤ C ∧ i = .int .i64 m ∧ vo = .slice q2 (m + 1) k2 ∧ Hid (wx.ownsRow w2.heap.size 3 1 (.slice q2 (m + 1) k2) (m + 1) ((datP s' C m).map iV)) ∧ Hid (SBox w ⟨st, en, n, unit, _, roll, conv, lag⟩ W v wx) ∧ Hid (ISrc wx q g6 0 (innL s' _)) ∧ Hid (w2.heap.size ≤ wx.heap.size)) (fun _ i _ => C - (intOf i).toNat)
        case atStart => exact ⟨0, _, 1, by omega, rfl, rfl, HO0, HB3, HR3, HZ3⟩
        case round =>
          clear HO0 HB3 HR3 HZ3
          obtain ⟨m, q2, k2, hm, rfl, rfl, HO2, HB2, HR2, HZ2⟩ := hrel
          obtain ⟨c0, c1, c2, c3, c4, c5, c6, c7, c8, c9⟩ := HB2.out.cells
          have HOa : Hid (∀ o, (wr.alloc o).ownsRow w2.heap.size 3 1 (.slice q2 (m + 1) k2) (m + 1) ((datP s' C m).map iV)) := fun o => iown_below HO2.out ((Below.refl _ wr).alloc (Nat.le_refl _) o)
          have HBa := hideS (fun o => HB2.out.step ((Below.refl _ wr).alloc (Nat.le_refl _) o))
          have HRa := hideS (fun o => HR2.out.below ((Below.refl _ wr).alloc (Nat.le_refl _) o))
          have HZa : Hid (∀ o, w2.heap.size ≤ (wr.alloc o).heap.size) := fun o => by have := HZ2.out; simp; omega
          by_cases hlt : m < C
          · try (exfalso; omega)
            all_goals
              have hq := HR2.out.at_ (by rw [inn_len]; omega)
              subst hq
              have hcell := HR2.out.cell m (by rw [inn_len]; omega)
              rw [HC2.out m hlt, Nat.zero_add] at hcell
              have hjC : (m : Int) < (C : Int) := by omega
              have HDn : Hid (datP s' C m ++ [cutI s' C m] = datP s' C (m + 1)) := (datP_succ _ _ _).symm
              generalize cutI s' C m = z at *
              go_wp2_with (at_builtin; refine wpList_append_int _ rfl (.tmp 120) (.tmp 125) rfl w2.heap.size (.slice q2 (m + 1) k2) (m + 1) (datP s' C m) rfl (HOa.out _) wr.heap.size z rfl (by simp) (by omega) (HZa.out _) ?_; intro v5 w5 ho5 hg5; have hbl := igrown_below (HOa.out _) hg5 (HZa.out _); have HB5 := hideS ((HBa.out _).stay hbl hw2); have HR5 := hideS ((HRa.out _).stay hbl (fun h => HG2.out (by rw [inn_len] at h; exact h))); have HZ5 := hideS (Nat.le_trans (HZa.out _) hbl.size); rw [HDn.out] at ho5; obtain ⟨q5, g5, k5, hv5, _, _, _, hm5⟩ := iown_src ho5 (datP_len _ _ _); subst hv5; have HO5 := hideS ho5; clear ho5 hg5 hbl)
              go_roundw
              case rel => exact ⟨m + 1, q5, k5, by omega, by go_num, rfl, HO5, HB5, HR5, HZ5⟩
              case measure => simp [intOf]; omega
          · obtain rfl : m = C := by omega
            have hge : ¬ (m : Int) < (m : Int) := by omega
            go_wp2_with (at_builtin; refine wpList_append_int _ rfl (.tmp 127) (.tmp 130) rfl w2.heap.size (.slice q2 (m + 1) k2) (m + 1) (datP s' m m) rfl (HOa.out _) wr.heap.size en rfl (by simp) (by omega) (HZa.out _) ?_; intro v5 w5 ho5 hg5; have hbl := igrown_below (HOa.out _) hg5 (HZa.out _); have HB5 := hideS ((HBa.out _).stay hbl hw2); rw [HD1.out] at ho5; have HO5 := hideS ho5; clear ho5 hg5 hbl)
            go_ret2
            exact ⟨HTail.out _ w2.heap.size _ HO5.out (by omega), HB5.out.below⟩

theorem ref8Dates_any (s : Spc) (W : Int) (v : Value) (K : Nat) (w : World) (h : SpcOk s) (hK : DatR s K) (H : DatH s W v w) :
    Calls Tryz.prog 63 #[.agg #[.int .i64 s.st, .int .i64 s.en, .int .i64 s.n, .int .i64 s.unit, .int .i64 s.stub, .int .i64 s.roll, .int .i64 s.conv, .int .i64 s.lag, .int .i64 W, v]] w fun e w' => DatO s K w e w' ∧ Below w.heap.size w w' := by
  by_cases hb : s.stub ≤ 2
  · exact ref8Dates_back s W v K w h hK H hb
  · exact ref8Dates_fore s W v K w h hK H hb
end Go.Proofs.YtpcgbcdldkmibaaGreat
namespace Go.Proofs.YtpcgbcdldkmibaaGreat
open Go.RowKit

theorem srch_day' {op : Int → Bool} {n s x : Int} (hs : s = 1 ∨ s = -1) (hn : isDayP n) (h : srch op n s = some x) : isDayP x := by
  have := srch_is op n s hs (by have := hn.1; omega) (by have := hn.2; omega)
  rw [h] at this
  exact (srch_day this).1
theorem adj_day {op : Int → Bool} {n way x : Int} (hn : isDayP n) (h : adjO op n way = some x) : isDayP x := by
  have hs := step_or way
  unfold adjO at h
  split at h
  · rw [← Option.some.inj h]; exact hn
  · split at h
    · exact srch_day' (by omega) hn h
    · exact srch_day' hs hn h

theorem ref8Check_any (s : Spc) (W A B E : Int) (p : Option Addr) (b off c : Nat) (rs : List Rul) (w : World) (hA : ChkR W rs A B) (h : SpcR s A E) (hs : RSrc w p b off rs) (hl : rs.length ≤ 1000000) :
    Calls Tryz.prog 112 #[.agg #[.int .i64 s.st, .int .i64 s.en, .int .i64 s.n, .int .i64 s.unit, .int .i64 s.stub, .int .i64 s.roll, .int .i64 s.conv, .int .i64 s.lag, .int .i64 W, .slice p rs.length c]] w fun e w' => e = .returned (.int .i64 E) ∧ Below w.heap.size w w' := by
  cases h with
  | range h => exact ref8Check_range s W _ w h
  | spec h0 h1 h => exact ref8Check_spec s W _ w h0 h1 h
  | cal h => exact ref8Check_cal s W A B _ w h (fun wx hb => refCheck_any W p b off c rs A B wx hA (hs.below hb) hl)

theorem ref8_datH (s : Spc) (W : Int) (p : Option Addr) (b off c : Nat) (rs : List Rul) (w : World) (h : SpcOk s) (hC : OkC W rs) (hs : RSrc w p b off rs) : DatH s W (.slice p rs.length c) w := by
  have := hC.len
  exact ⟨fun wx hb => ref8Check_any s W 0 0 0 p b off c rs wx (.ok hC) (.cal h) (hs.below hb) (by omega), fun a k wx => ref8Point_any s W a k _ wx h⟩

theorem ref8Dates_no (s : Spc) (W A B E : Int) (p : Option Addr) (b off c : Nat) (rs : List Rul) (w : World) (hA : ChkR W rs A B) (h : SpcR s A E) (hE : E ≠ 0) (hs : RSrc w p b off rs) (hl : rs.length ≤ 1000000) :
    Calls Tryz.prog 63 #[.agg #[.int .i64 s.st, .int .i64 s.en, .int .i64 s.n, .int .i64 s.unit, .int .i64 s.stub, .int .i64 s.roll, .int .i64 s.conv, .int .i64 s.lag, .int .i64 W, .slice p rs.length c]] w fun e w' => e = .returned (.tuple #[.slice none 0 0, .int .i64 E]) ∧ Below w.heap.size w w' :=
  ref8Dates_bad s W E _ w hE (fun wx hb => ref8Check_any s W A B E p b off c rs wx hA h (hs.below hb) hl)

theorem ref8Dates_ok (s : Spc) (W : Int) (K : Nat) (p : Option Addr) (b off c : Nat) (rs : List Rul) (w : World) (h : SpcOk s) (hC : OkC W rs) (hK : DatR s K) (hs : RSrc w p b off rs) :
    Calls Tryz.prog 63 #[.agg #[.int .i64 s.st, .int .i64 s.en, .int .i64 s.n, .int .i64 s.unit, .int .i64 s.stub, .int .i64 s.roll, .int .i64 s.conv, .int .i64 s.lag, .int .i64 W, .slice p rs.length c]] w fun e w' => DatO s K w e w' ∧ Below w.heap.size w w' :=
  ref8Dates_any s W _ K w h hK (ref8_datH s W p b off c rs w h hC hs)

theorem ref8Periods_no (s : Spc) (W A B E : Int) (p : Option Addr) (b off c : Nat) (rs : List Rul) (w : World) (hA : ChkR W rs A B) (h : SpcR s A E) (hE : E ≠ 0) (hs : RSrc w p b off rs) (hl : rs.length ≤ 1000000) :
    Calls Tryz.prog 36 #[.agg #[.int .i64 s.st, .int .i64 s.en, .int .i64 s.n, .int .i64 s.unit, .int .i64 s.stub, .int .i64 s.roll, .int .i64 s.conv, .int .i64 s.lag, .int .i64 W, .slice p rs.length c]] w fun e w' => e = .returned (.tuple #[.slice none 0 0, .int .i64 E]) ∧ Below w.heap.size w w' :=
  ref8Periods_bad s W E _ w hE (fun wx hb => ref8Dates_no s W A B E p b off c rs wx hA h hE (hs.below hb) hl)

def PerZ (op : Int → Bool) (s : Spc) (K : Nat) (w : World) (e : Ending) (w' : World) : Prop :=
  (1200 ≤ K ∧ e = .returned (.tuple #[.slice none 0 0, .int .i64 81])) ∨ (K < 1200 ∧ PerOut op s (datL s (cutN s K)) (cutN s K + 1) w e w')

theorem ref8Periods_ok (s : Spc) (W : Int) (K : Nat) (p : Option Addr) (b off c : Nat) (rs : List Rul) (w : World) (h : SpcOk s) (hC : OkC W rs) (hK : DatR s K) (hs : RSrc w p b off rs) :
    Calls Tryz.prog 36 #[.agg #[.int .i64 s.st, .int .i64 s.en, .int .i64 s.n, .int .i64 s.unit, .int .i64 s.stub, .int .i64 s.roll, .int .i64 s.conv, .int .i64 s.lag, .int .i64 W, .slice p rs.length c]] w fun e w' => PerZ (opB W rs) s K w e w' ∧ Below w.heap.size w w' := by
  by_cases hm : 1200 ≤ K
  · refine (ref8Periods_bad s W 81 _ w (by decide) (fun wx hb => (ref8Dates_ok s W K p b off c rs wx h hC hK (hs.below hb)).mono ?_)).mono ?_
    · rintro e w' ⟨⟨_, he⟩ | ⟨hlt, _⟩, hb'⟩
      · exact ⟨he, hb'⟩
      · omega
    · rintro e w' ⟨he, hb'⟩
      exact ⟨Or.inl ⟨hm, he⟩, hb'⟩
  · have hcu := cut_le s K
    have hlen := dat_len s (cutN s K)
    refine (ref8Periods_go (opB W rs) s W _ (datL s (cutN s K)) (cutN s K + 1) w hlen (by omega) ⟨fun wx hb => ?_, fun j hj wx hb => ?_, fun hl j hj y hy wx hb => ?_⟩).mono ?_
    · refine (ref8Dates_ok s W K p b off c rs wx h hC hK (hs.below hb)).mono ?_
      rintro e w' ⟨⟨h1, _⟩ | ⟨_, v, he, ho⟩, hb'⟩
      · omega
      · exact ⟨⟨v, he, by rw [hlen]; exact ho⟩, hb'⟩
    · exact refAdjust_ok W _ s.conv p b off c rs wx hC (hs.below hb) ⟨h.c1, h.c2⟩ (dat_day h hK hcu (by omega))
    · have l2 := h.l2
      have hd := adj_day (dat_day h hK hcu (by omega)) hy
      have := refAdd_ok W y s.lag p b off c rs wx hC (hs.below hb) hd (by omega) (by omega) (by omega)
      rw [if_neg (by omega), show s.lag.natAbs = s.lag.toNat by omega] at this
      exact this
    · rintro e w' ⟨ho, hb'⟩
      exact ⟨Or.inr ⟨by omega, ho⟩, hb'⟩
end Go.Proofs.YtpcgbcdldkmibaaGreat
