/- The contract of the document's Periods. The contracts of the document's Point, SameInts and SamePeriods. -/
import Derived.Test.YtelghkhcplmnmaaHan
import Derived.RegionTactic
namespace Go.Proofs.Ytelghkhcplmnmaa
open Go.RowKit

/-- The i-th period of a list of days. -/
noncomputable def perI (op : Int → Bool) (s : Spc) (l : List Int) (i : Nat) : Option Per := perO op s (l.getD i 0) (l.getD (i + 1) 0)
noncomputable def perL (op : Int → Bool) (s : Spc) (l : List Int) (m : Nat) : List Per := (List.range m).map fun i => (perI op s l i).getD per0
theorem perL_len (op : Int → Bool) (s : Spc) (l : List Int) (m : Nat) : (perL op s l m).length = m := by unfold perL; simp
theorem perL_succ (op : Int → Bool) (s : Spc) (l : List Int) (m : Nat) : perL op s l (m + 1) = perL op s l m ++ [(perI op s l m).getD per0] := by
  unfold perL; rw [List.range_succ, List.map_append]; rfl
/-- The ways that a period comes out. -/
theorem perO_cases (op : Int → Bool) (s : Spc) (a b : Int) :
    (adjO op a s.conv = none ∧ perO op s a b = none) ∨
    (∃ x, adjO op a s.conv = some x ∧ adjO op b s.conv = none ∧ perO op s a b = none) ∨
    (∃ x y, adjO op a s.conv = some x ∧ adjO op b s.conv = some y ∧ ¬ 0 < s.lag ∧ perO op s a b = some ⟨a, b, x, y, y⟩) ∨
    (∃ x y, adjO op a s.conv = some x ∧ adjO op b s.conv = some y ∧ 0 < s.lag ∧ addO op 1 s.lag.toNat y = none ∧ perO op s a b = none) ∨
    (∃ x y z, adjO op a s.conv = some x ∧ adjO op b s.conv = some y ∧ 0 < s.lag ∧ addO op 1 s.lag.toNat y = some z ∧ perO op s a b = some ⟨a, b, x, y, z⟩) := by
  unfold perO
  cases ha : adjO op a s.conv with
  | none => exact Or.inl ⟨rfl, rfl⟩
  | some x =>
    cases hb : adjO op b s.conv with
    | none => exact Or.inr (Or.inl ⟨x, rfl, rfl, rfl⟩)
    | some y =>
      by_cases hl : 0 < s.lag
      · cases hc : addO op 1 s.lag.toNat y with
        | none => exact Or.inr (Or.inr (Or.inr (Or.inl ⟨x, y, rfl, rfl, hl, hc, by simp only [if_pos hl, hc]⟩)))
        | some z => exact Or.inr (Or.inr (Or.inr (Or.inr ⟨x, y, z, rfl, rfl, hl, hc, by simp only [if_pos hl, hc]⟩)))
      · exact Or.inr (Or.inr (Or.inl ⟨x, y, rfl, rfl, hl, by simp only [if_neg hl]⟩))
/-- What the document's Periods has at hand. -/
structure PerH (op : Int → Bool) (s : Spc) (W : Int) (v : Value) (l : List Int) (w : World) : Prop where
  dat : ∀ wx, Below w.heap.size w wx → Calls Try.prog 11 #[.agg #[.int .i64 s.st, .int .i64 s.en, .int .i64 s.n, .int .i64 s.unit, .int .i64 s.stub, .int .i64 s.roll, .int .i64 s.conv, .int .i64 s.lag, .int .i64 W, v]] wx fun e w' => (∃ u, e = .returned (.tuple #[u, .int .i64 0]) ∧ w'.ownsRow wx.heap.size 3 1 u l.length (l.map iV)) ∧ Below wx.heap.size wx w'
  adj : ∀ j < l.length, ∀ wx, Below w.heap.size w wx → Calls Try.prog 27 #[.agg #[.int .i64 W, v], .int .i64 (l.getD j 0), .int .i64 s.conv] wx fun e w' => e = .returned (.tuple #[.int .i64 ((adjO op (l.getD j 0) s.conv).getD 0), .int .i64 (ansE (adjO op (l.getD j 0) s.conv))]) ∧ Below wx.heap.size wx w'
  add : 0 < s.lag → ∀ j < l.length, ∀ y, adjO op (l.getD j 0) s.conv = some y → ∀ wx, Below w.heap.size w wx → Calls Try.prog 28 #[.agg #[.int .i64 W, v], .int .i64 y, .int .i64 s.lag] wx fun e w' => e = .returned (.tuple #[.int .i64 ((addO op 1 s.lag.toNat y).getD 0), .int .i64 (ansE (addO op 1 s.lag.toNat y))]) ∧ Below wx.heap.size wx w'
/-- What Periods tells. -/
def PerOut (op : Int → Bool) (s : Spc) (l : List Int) (N : Nat) (w : World) (e : Ending) (w' : World) : Prop :=
  ((∃ j < N, perI op s l j = none) ∧ e = .returned (.tuple #[.slice none 0 0, .int .i64 51])) ∨ ((∀ j < N, (perI op s l j).isSome = true) ∧ ∃ u, e = .returned (.tuple #[u, .int .i64 0]) ∧ w'.ownsRow w.heap.size 37 5 u N (rowP (perL op s l N)))

/-- The box of the period under way. -/
structure PBox (wr : World) (r : Per) (w : World) : Prop where
  at_ : PerAt w wr.heap.size 0 r
  fr : ∀ k, w.frozen? ⟨wr.heap.size, k, none⟩ = false
  bl : Below wr.heap.size wr w
  lt : wr.heap.size < w.heap.size
theorem PBox.cells {wr w : World} {r : Per} (h : PBox wr r w) : w.cell? ⟨wr.heap.size, 0, none⟩ = some (.int .i64 r.fr) ∧ w.cell? ⟨wr.heap.size, 1, none⟩ = some (.int .i64 r.to) ∧ w.cell? ⟨wr.heap.size, 2, none⟩ = some (.int .i64 r.st) ∧ w.cell? ⟨wr.heap.size, 3, none⟩ = some (.int .i64 r.en) ∧ w.cell? ⟨wr.heap.size, 4, none⟩ = some (.int .i64 r.pay) :=
  ⟨h.at_.c0, h.at_.c1, h.at_.c2, h.at_.c3, h.at_.c4⟩
theorem PBox.step {wr w w' : World} {r : Per} (h : PBox wr r w) (hb : Below w.heap.size w w') : PBox wr r w' :=
  ⟨h.at_.below hb h.lt, fun k => (hb.frozen (p := ⟨wr.heap.size, k, none⟩) h.lt).trans (h.fr k), h.bl.trans (hb.mono (Nat.le_of_lt h.lt)), Nat.lt_of_lt_of_le h.lt hb.size⟩
theorem perAt_new (w : World) (r : Per) : PerAt (w.alloc (.cells #[.int .i64 r.fr, .int .i64 r.to, .int .i64 r.st, .int .i64 r.en, .int .i64 r.pay] 37)) w.heap.size 0 r :=
  ⟨by simp, by simp, by simp, by simp, by simp⟩
theorem PBox.first (w : World) (r : Per) : PBox w r (w.alloc (.cells #[.int .i64 r.fr, .int .i64 r.to, .int .i64 r.st, .int .i64 r.en, .int .i64 r.pay] 37)).drew :=
  (⟨perAt_new w r, fun k => World.frozen?_alloc_new _ _ _ _, (Below.refl _ w).alloc (Nat.le_refl _) _, by simp⟩ : PBox w r (w.alloc (.cells #[.int .i64 r.fr, .int .i64 r.to, .int .i64 r.st, .int .i64 r.en, .int .i64 r.pay] 37))).step (Below.refl _ _).drew
/-- The box's last three fields written. -/
def set3 (w : World) (B : Nat) (x y z : Int) : World := ((w.setCell ⟨B, 2, none⟩ (.int .i64 x)).setCell ⟨B, 3, none⟩ (.int .i64 y)).setCell ⟨B, 4, none⟩ (.int .i64 z)
theorem set3_below {wr w : World} {r : Per} (h : PBox wr r w) (x y z : Int) : Below wr.heap.size wr (set3 w wr.heap.size x y z) :=
  ((h.bl.setCell (p := ⟨wr.heap.size, 2, none⟩) (Nat.le_refl _) _).setCell (p := ⟨wr.heap.size, 3, none⟩) (Nat.le_refl _) _).setCell (p := ⟨wr.heap.size, 4, none⟩) (Nat.le_refl _) _
theorem set3_size (w : World) (B : Nat) (x y z : Int) : (set3 w B x y z).heap.size = w.heap.size := by unfold set3; simp
theorem ansE_none : ansE none = 51 := rfl
theorem ansE_some (x : Int) : ansE (some x) = 0 := rfl

set_option maxHeartbeats 1600000 in
theorem ref8Periods_bad (s : Spc) (W E : Int) (v : Value) (w : World) (hE : E ≠ 0) (HC : Hid (∀ wx, Below w.heap.size w wx → Calls Try.prog 11 #[.agg #[.int .i64 s.st, .int .i64 s.en, .int .i64 s.n, .int .i64 s.unit, .int .i64 s.stub, .int .i64 s.roll, .int .i64 s.conv, .int .i64 s.lag, .int .i64 W, v]] wx fun e w' => e = .returned (.tuple #[.slice none 0 0, .int .i64 E]) ∧ Below wx.heap.size wx w')) :
    Calls Try.prog 12 #[.agg #[.int .i64 s.st, .int .i64 s.en, .int .i64 s.n, .int .i64 s.unit, .int .i64 s.stub, .int .i64 s.roll, .int .i64 s.conv, .int .i64 s.lag, .int .i64 W, v]] w fun e w' => e = .returned (.tuple #[.slice none 0 0, .int .i64 E]) ∧ Below w.heap.size w w' := by
  have HB := hideS (SBox.zero w s W v).below
  obtain ⟨st, en, n, unit, stub, roll, conv, lag⟩ := s
  dsimp only at *
  have hE' : (E != 0) = true := bne_iff_ne.2 hE
  clear hE
  go_enter Try.func12, Try.ntmps12
  go_wp2_with (go_at_call 11; refine (HC.out _ HB.out).mono ?_; rintro e w1 ⟨rfl, hb1⟩)
  go_ret2
  exact ⟨rfl, HB.out.trans (hb1.mono HB.out.size)⟩

set_option maxRecDepth 10000 in
set_option maxHeartbeats 16000000 in
theorem ref8Periods_go (op : Int → Bool) (s : Spc) (W : Int) (v : Value) (l : List Int) (N : Nat) (w : World) (hN : l.length = N + 1) (hN2 : N ≤ 100000) (H : Hid (PerH op s W v l w)) :
    Calls Try.prog 12 #[.agg #[.int .i64 s.st, .int .i64 s.en, .int .i64 s.n, .int .i64 s.unit, .int .i64 s.stub, .int .i64 s.roll, .int .i64 s.conv, .int .i64 s.lag, .int .i64 W, v]] w fun e w' => PerOut op s l N w e w' ∧ Below w.heap.size w w' := by
  have HB0 := hideS (SBox.zero w s W v)
  have HDt := hideS H.out.dat
  rw [hN] at HDt
  have HAd := hideS H.out.adj
  rw [hN] at HAd
  have HAa := hideS H.out.add
  rw [hN] at HAa
  have HPc := hideS (fun a b => perO_cases op s a b)
  obtain ⟨s', hs'⟩ : ∃ s', s' = s := ⟨s, rfl⟩
  have HPi : Hid (∀ i, perI op s' l i = perO op s (l.getD i 0) (l.getD (i + 1) 0)) := fun i => by rw [hs']; rfl
  have HPost : Hid (∀ e w', PerOut op s' l N w e w' → PerOut op s l N w e w') := fun e w' a => by rw [← hs']; exact a
  refine Calls.mono (R := fun e w' => PerOut op s' l N w e w' ∧ Below w.heap.size w w') ?_ (fun e w' ⟨a, b⟩ => ⟨HPost.out e w' a, b⟩)
  clear HPost H hs'
  obtain ⟨P0, hP0⟩ : ∃ P0 : Int → Int → Option Per, P0 = perO op s := ⟨_, rfl⟩
  rw [← hP0] at HPi HPc
  clear hP0
  obtain ⟨st, en, n, unit, stub, roll, conv, lag⟩ := s
  dsimp only at *
  go_enter Try.func12, Try.ntmps12
  go_wp2_with fail
  refine (HDt.out _ HB0.out.below).mono ?_
  rintro e w1 ⟨⟨u, rfl, ho1⟩, hb1⟩
  obtain ⟨pl, g, cl, rfl, hsrc, hlo, hlc, hcm⟩ := iown_src ho1 hN
  have HB1 := hideS (HB0.out.step hb1)
  have HS1 := hideS hsrc
  obtain rfl := hsrc.at_ (by omega)
  have HG1 : Hid (g < w1.heap.size) := hsrc.lt (by omega)
  have hw1 : w.heap.size + 1 ≤ w1.heap.size := by have := hb1.size; simp at this; omega
  clear hb1 HB0 HDt ho1 hsrc hlo hcm hlc
  go_wp2_with fail
  have HZ0 := hideS (Below.refl w1.heap.size w1)
  have HO0 := hideS (pown_nil w1 w1.heap.size)
  go_loopw [6, 7] (fun vo i wr => ∃ (m : Nat) (q : Option Addr) (c : Nat), m ≤ N ∧ i = .int .i64 m ∧ vo = .slice q m c ∧ Hid (wr.ownsRow w1.heap.size 37 5 (.slice q m c) m (rowP (perL op s' l m))) ∧ Hid (Below w1.heap.size w1 wr) ∧ Hid (∀ j < m, (perI op s' l j).isSome = true)) (fun _ i _ => N - (intOf i).toNat)
  case atStart => exact ⟨0, none, 0, by omega, rfl, rfl, HO0, HZ0, fun j hj => by omega⟩
  case round =>
    clear HZ0 HO0
    obtain ⟨m, q, c, hm, rfl, rfl, HO, HZ, HY⟩ := hrel
    have HB := hideS (HB1.out.stay HZ.out hw1)
    obtain ⟨c0, c1, c2, c3, c4, c5, c6, c7, c8, c9⟩ := HB.out.cells
    by_cases hlt : m < N
    · have hR := HS1.out.stay HZ.out (fun _ => HG1.out)
      have k0 := hR.cell m (by omega)
      have k1 := hR.cell (m + 1) (by omega)
      rw [Nat.zero_add] at k0 k1
      have HAa0 := hideS (fun wx h => HAd.out m (by omega) wx h)
      have HAb0 := hideS (fun wx h => HAd.out (m + 1) (by omega) wx h)
      have HAc0 := hideS (fun h0 y hy wx h => HAa.out h0 (m + 1) (by omega) y hy wx h)
      have hc := HPc.out (l.getD m 0) (l.getD (m + 1) 0)
      have HPm := hideS (HPi.out m)
      have HPs := hideS (perL_succ op s' l m)
      generalize l.getD m 0 = a at *
      generalize l.getD (m + 1) 0 = b at *
      clear hR
      have hi0 : (m : Int) < ((N + 1 : Nat) : Int) := by omega
      have hi1 : (m : Int) + 1 < ((N + 1 : Nat) : Int) := by omega
      have hsz := HZ.out.size
      have hgl : g < wr.heap.size := Nat.lt_of_lt_of_le HG1.out hsz
      have hgn : g ≠ wr.heap.size := Nat.ne_of_lt hgl
      go_wp2_with fail
      go_region
      have HP0 := hideS (PBox.first wr ⟨a, b, 0, 0, 0⟩)
      dsimp only at HP0
      generalize (wr.alloc (Obj.cells #[Value.int IntKind.i64 a, Value.int IntKind.i64 b, Value.int IntKind.i64 0, Value.int IntKind.i64 0, Value.int IntKind.i64 0] 37)).drew = wP at *
      have hBr : w.heap.size + 1 ≤ wr.heap.size := by omega
      have HBp := hideS (HB.out.stay HP0.out.bl hBr)
      have HZp := hideS (HZ.out.trans (HP0.out.bl.mono hsz))
      clear c0 c1 c2 c3 c4 c5 c6 c7 c8 c9 k0 k1 hgl hgn
      have HA1 : Hid (∀ o, adjO op a conv = o → ∀ wx, Below w1.heap.size w1 wx → Calls Try.prog 27 #[.agg #[.int .i64 W, v], .int .i64 a, .int .i64 conv] wx fun e w' => e = .returned (.tuple #[.int .i64 (o.getD 0), .int .i64 (ansE o)]) ∧ Below wx.heap.size wx w') := fun o ho wx h => by
        rw [← ho]; exact HAa0.out wx (HB1.out.below.trans (h.mono HB1.out.below.size))
      have HA2 : Hid (∀ o, adjO op b conv = o → ∀ wx, Below w1.heap.size w1 wx → Calls Try.prog 27 #[.agg #[.int .i64 W, v], .int .i64 b, .int .i64 conv] wx fun e w' => e = .returned (.tuple #[.int .i64 (o.getD 0), .int .i64 (ansE o)]) ∧ Below wx.heap.size wx w') := fun o ho wx h => by
        rw [← ho]; exact HAb0.out wx (HB1.out.below.trans (h.mono HB1.out.below.size))
      have HA3 : Hid (0 < lag → ∀ y o, adjO op b conv = some y → addO op 1 lag.toNat y = o → ∀ wx, Below w1.heap.size w1 wx → Calls Try.prog 28 #[.agg #[.int .i64 W, v], .int .i64 y, .int .i64 lag] wx fun e w' => e = .returned (.tuple #[.int .i64 (o.getD 0), .int .i64 (ansE o)]) ∧ Below wx.heap.size wx w') := fun h0 y o hy ho wx h => by
        rw [← ho]; exact HAc0.out h0 y hy wx (HB1.out.below.trans (h.mono HB1.out.below.size))
      clear HAa0 HAb0 HAc0 HAd HAa HPc
      have HNo : Hid (P0 a b = none → ∀ wx, Below wr.heap.size wr wx → PerOut op s' l N w (.returned (.tuple #[.slice none 0 0, .int .i64 51])) wx ∧ Below w.heap.size w wx) := fun hp wx h => ⟨Or.inl ⟨⟨m, hlt, by rw [HPm.out]; exact hp⟩, rfl⟩, HB.out.below.trans (h.mono HB.out.below.size)⟩
      have HYs : Hid (∀ r, P0 a b = some r → (∀ j < m + 1, (perI op s' l j).isSome = true) ∧ perL op s' l (m + 1) = perL op s' l m ++ [r]) := fun r hp => by
        refine ⟨fun j hj => ?_, by rw [HPs.out, HPm.out, hp]; rfl⟩
        by_cases e : j < m
        · exact HY.out j e
        · obtain rfl : j = m := by omega
          rw [HPm.out, hp]; rfl
      clear HY HPi HPm HPs HB HS1 HG1
      rcases hc with ⟨ha, hp⟩ | ⟨x, ha, hb, hp⟩ | ⟨x, y, ha, hb, hlag, hp⟩ | ⟨x, y, ha, hb, hlag, hz, hp⟩ | ⟨x, y, z, ha, hb, hlag, hz, hp⟩
      · replace HA1 := hideS (HA1.out _ ha)
        rw [ansE_none] at HA1
        clear HA2 HA3 HYs
        replace HNo := hideS (HNo.out hp)
        clear hp ha
        obtain ⟨c0, c1, c2, c3, c4, c5, c6, c7, c8, c9⟩ := HBp.out.cells
        obtain ⟨p0, p1, p2, p3, p4⟩ := HP0.out.cells
        go_wp2_with fail
        refine (HA1.out _ HZp.out).mono ?_
        rintro e w2 ⟨rfl, hb2⟩
        clear c0 c1 c2 c3 c4 c5 c6 c7 c8 c9 p0 p1 p2 p3 p4
        go_wp2_with fail
        go_ret2
        exact HNo.out _ (HP0.out.step hb2).bl
      · replace HA1 := hideS (HA1.out _ ha)
        rw [ansE_some] at HA1
        replace HA2 := hideS (HA2.out _ hb)
        rw [ansE_none] at HA2
        clear HA3 HYs
        replace HNo := hideS (HNo.out hp)
        clear hp ha hb
        dsimp only [Option.getD] at HA1 HA2
        obtain ⟨c0, c1, c2, c3, c4, c5, c6, c7, c8, c9⟩ := HBp.out.cells
        obtain ⟨p0, p1, p2, p3, p4⟩ := HP0.out.cells
        go_wp2_with fail
        refine (HA1.out _ HZp.out).mono ?_
        rintro e w2 ⟨rfl, hb2⟩
        have HP2 := hideS (HP0.out.step hb2)
        have HB2 := hideS (HBp.out.step hb2)
        have HZ2 := hideS (HZ.out.trans (HP2.out.bl.mono hsz))
        clear HP0 HBp HZp hb2 HA1
        clear c0 c1 c2 c3 c4 c5 c6 c7 c8 c9 p0 p1 p2 p3 p4
        obtain ⟨c0, c1, c2, c3, c4, c5, c6, c7, c8, c9⟩ := HB2.out.cells
        obtain ⟨p0, p1, p2, p3, p4⟩ := HP2.out.cells
        go_wp2_with fail
        refine (HA2.out _ HZ2.out).mono ?_
        rintro e w3 ⟨rfl, hb3⟩
        have HP3 := hideS (HP2.out.step hb3)
        have HB3 := hideS (HB2.out.step hb3)
        have HZ3 := hideS (HZ.out.trans (HP3.out.bl.mono hsz))
        clear HP2 HB2 HZ2 hb3 HA2
        clear c0 c1 c2 c3 c4 c5 c6 c7 c8 c9 p0 p1 p2 p3 p4
        go_wp2_with fail
        go_ret2
        exact HNo.out _ HP3.out.bl
      · replace HA1 := hideS (HA1.out _ ha)
        rw [ansE_some] at HA1
        replace HA2 := hideS (HA2.out _ hb)
        rw [ansE_some] at HA2
        clear HA3 HNo
        replace HYs := hideS (HYs.out _ hp)
        clear hp ha hb
        dsimp only [Option.getD] at HA1 HA2
        obtain ⟨c0, c1, c2, c3, c4, c5, c6, c7, c8, c9⟩ := HBp.out.cells
        obtain ⟨p0, p1, p2, p3, p4⟩ := HP0.out.cells
        go_wp2_with fail
        refine (HA1.out _ HZp.out).mono ?_
        rintro e w2 ⟨rfl, hb2⟩
        have HP2 := hideS (HP0.out.step hb2)
        have HB2 := hideS (HBp.out.step hb2)
        have HZ2 := hideS (HZ.out.trans (HP2.out.bl.mono hsz))
        clear HP0 HBp HZp hb2 HA1
        clear c0 c1 c2 c3 c4 c5 c6 c7 c8 c9 p0 p1 p2 p3 p4
        obtain ⟨c0, c1, c2, c3, c4, c5, c6, c7, c8, c9⟩ := HB2.out.cells
        obtain ⟨p0, p1, p2, p3, p4⟩ := HP2.out.cells
        go_wp2_with fail
        refine (HA2.out _ HZ2.out).mono ?_
        rintro e w3 ⟨rfl, hb3⟩
        have HP3 := hideS (HP2.out.step hb3)
        have HB3 := hideS (HB2.out.step hb3)
        have HZ3 := hideS (HZ.out.trans (HP3.out.bl.mono hsz))
        clear HP2 HB2 HZ2 hb3 HA2
        clear c0 c1 c2 c3 c4 c5 c6 c7 c8 c9 p0 p1 p2 p3 p4
        obtain ⟨c0, c1, c2, c3, c4, c5, c6, c7, c8, c9⟩ := HB3.out.cells
        obtain ⟨p0, p1, p2, p3, p4⟩ := HP3.out.cells
        have f2 := HP3.out.fr 2
        have f3 := HP3.out.fr 3
        have f4 := HP3.out.fr 4
        have HW : Hid (∀ o, Below wr.heap.size wr ((set3 w3 wr.heap.size x y y).alloc o)) := fun o => (set3_below HP3.out x y y).alloc (Nat.le_trans (Nat.le_of_lt HP3.out.lt) (Nat.le_of_eq (set3_size _ _ _ _ _).symm)) o
        have HOa : Hid (∀ o, ((set3 w3 wr.heap.size x y y).alloc o).ownsRow w1.heap.size 37 5 (.slice q m c) m (rowP (perL op s' l m))) := fun o => pown_below HO.out (HW.out o)
        have HZa : Hid (∀ o, w1.heap.size ≤ ((set3 w3 wr.heap.size x y y).alloc o).heap.size) := fun o => Nat.le_trans hsz (HW.out o).size
        have HPn : Hid (PerAt ((set3 w3 wr.heap.size x y y).alloc (.cells #[.int .i64 a, .int .i64 b, .int .i64 x, .int .i64 y, .int .i64 y] 37)) w3.heap.size 0 ⟨a, b, x, y, y⟩) := by
          have := perAt_new (set3 w3 wr.heap.size x y y) ⟨a, b, x, y, y⟩
          rw [set3_size] at this
          exact this
        go_wp2_with (at_builtin; refine wpList_append_per _ rfl (.tmp 89) (.tmp 91) rfl w1.heap.size (.slice q m c) m (perL op s' l m) rfl (HOa.out _) w3.heap.size ⟨a, b, x, y, y⟩ rfl HPn.out (by omega) (HZa.out _) ?_; intro v5 w5 ho5 hg5; have HZ5 := hideS ((HZ.out.trans ((HW.out _).mono hsz)).trans (pgrown_below (HOa.out _) hg5 (HZa.out _))); rw [← HYs.out.2] at ho5; obtain ⟨q5, g5, k5, hv5, _, _, _, hm5⟩ := pown_src ho5 (perL_len _ _ _ _); subst hv5; have HO5 := hideS ho5; clear ho5 hg5)
        go_roundw
        case rel => exact ⟨m + 1, q5, k5, by omega, by go_num, rfl, HO5, HZ5, hideS HYs.out.1⟩
        case measure => simp [intOf]; omega
      · replace HA1 := hideS (HA1.out _ ha)
        rw [ansE_some] at HA1
        replace HA3 := hideS (HA3.out hlag _ _ hb hz)
        rw [ansE_none] at HA3
        replace HA2 := hideS (HA2.out _ hb)
        rw [ansE_some] at HA2
        clear HYs
        replace HNo := hideS (HNo.out hp)
        clear hp ha hb hz
        dsimp only [Option.getD] at HA1 HA2 HA3
        obtain ⟨c0, c1, c2, c3, c4, c5, c6, c7, c8, c9⟩ := HBp.out.cells
        obtain ⟨p0, p1, p2, p3, p4⟩ := HP0.out.cells
        go_wp2_with fail
        refine (HA1.out _ HZp.out).mono ?_
        rintro e w2 ⟨rfl, hb2⟩
        have HP2 := hideS (HP0.out.step hb2)
        have HB2 := hideS (HBp.out.step hb2)
        have HZ2 := hideS (HZ.out.trans (HP2.out.bl.mono hsz))
        clear HP0 HBp HZp hb2 HA1
        clear c0 c1 c2 c3 c4 c5 c6 c7 c8 c9 p0 p1 p2 p3 p4
        obtain ⟨c0, c1, c2, c3, c4, c5, c6, c7, c8, c9⟩ := HB2.out.cells
        obtain ⟨p0, p1, p2, p3, p4⟩ := HP2.out.cells
        go_wp2_with fail
        refine (HA2.out _ HZ2.out).mono ?_
        rintro e w3 ⟨rfl, hb3⟩
        have HP3 := hideS (HP2.out.step hb3)
        have HB3 := hideS (HB2.out.step hb3)
        have HZ3 := hideS (HZ.out.trans (HP3.out.bl.mono hsz))
        clear HP2 HB2 HZ2 hb3 HA2
        clear c0 c1 c2 c3 c4 c5 c6 c7 c8 c9 p0 p1 p2 p3 p4
        obtain ⟨c0, c1, c2, c3, c4, c5, c6, c7, c8, c9⟩ := HB3.out.cells
        obtain ⟨p0, p1, p2, p3, p4⟩ := HP3.out.cells
        go_wp2_with fail
        refine (HA3.out _ HZ3.out).mono ?_
        rintro e w4 ⟨rfl, hb4⟩
        have HP4 := hideS (HP3.out.step hb4)
        have HB4 := hideS (HB3.out.step hb4)
        clear HP3 HB3 HZ3 hb4 HA3
        clear c0 c1 c2 c3 c4 c5 c6 c7 c8 c9 p0 p1 p2 p3 p4
        go_wp2_with fail
        go_ret2
        exact HNo.out _ HP4.out.bl
      · replace HA1 := hideS (HA1.out _ ha)
        rw [ansE_some] at HA1
        replace HA3 := hideS (HA3.out hlag _ _ hb hz)
        rw [ansE_some] at HA3
        replace HA2 := hideS (HA2.out _ hb)
        rw [ansE_some] at HA2
        clear HNo
        replace HYs := hideS (HYs.out _ hp)
        clear hp ha hb hz
        dsimp only [Option.getD] at HA1 HA2 HA3
        obtain ⟨c0, c1, c2, c3, c4, c5, c6, c7, c8, c9⟩ := HBp.out.cells
        obtain ⟨p0, p1, p2, p3, p4⟩ := HP0.out.cells
        go_wp2_with fail
        refine (HA1.out _ HZp.out).mono ?_
        rintro e w2 ⟨rfl, hb2⟩
        have HP2 := hideS (HP0.out.step hb2)
        have HB2 := hideS (HBp.out.step hb2)
        have HZ2 := hideS (HZ.out.trans (HP2.out.bl.mono hsz))
        clear HP0 HBp HZp hb2 HA1
        clear c0 c1 c2 c3 c4 c5 c6 c7 c8 c9 p0 p1 p2 p3 p4
        obtain ⟨c0, c1, c2, c3, c4, c5, c6, c7, c8, c9⟩ := HB2.out.cells
        obtain ⟨p0, p1, p2, p3, p4⟩ := HP2.out.cells
        go_wp2_with fail
        refine (HA2.out _ HZ2.out).mono ?_
        rintro e w3 ⟨rfl, hb3⟩
        have HP3 := hideS (HP2.out.step hb3)
        have HB3 := hideS (HB2.out.step hb3)
        have HZ3 := hideS (HZ.out.trans (HP3.out.bl.mono hsz))
        clear HP2 HB2 HZ2 hb3 HA2
        clear c0 c1 c2 c3 c4 c5 c6 c7 c8 c9 p0 p1 p2 p3 p4
        obtain ⟨c0, c1, c2, c3, c4, c5, c6, c7, c8, c9⟩ := HB3.out.cells
        obtain ⟨p0, p1, p2, p3, p4⟩ := HP3.out.cells
        go_wp2_with fail
        refine (HA3.out _ HZ3.out).mono ?_
        rintro e w4 ⟨rfl, hb4⟩
        have HP4 := hideS (HP3.out.step hb4)
        have HB4 := hideS (HB3.out.step hb4)
        clear HP3 HB3 HZ3 hb4 HA3
        clear c0 c1 c2 c3 c4 c5 c6 c7 c8 c9 p0 p1 p2 p3 p4
        obtain ⟨c0, c1, c2, c3, c4, c5, c6, c7, c8, c9⟩ := HB4.out.cells
        obtain ⟨p0, p1, p2, p3, p4⟩ := HP4.out.cells
        have f2 := HP4.out.fr 2
        have f3 := HP4.out.fr 3
        have f4 := HP4.out.fr 4
        have HW : Hid (∀ o, Below wr.heap.size wr ((set3 w4 wr.heap.size x y z).alloc o)) := fun o => (set3_below HP4.out x y z).alloc (Nat.le_trans (Nat.le_of_lt HP4.out.lt) (Nat.le_of_eq (set3_size _ _ _ _ _).symm)) o
        have HOa : Hid (∀ o, ((set3 w4 wr.heap.size x y z).alloc o).ownsRow w1.heap.size 37 5 (.slice q m c) m (rowP (perL op s' l m))) := fun o => pown_below HO.out (HW.out o)
        have HZa : Hid (∀ o, w1.heap.size ≤ ((set3 w4 wr.heap.size x y z).alloc o).heap.size) := fun o => Nat.le_trans hsz (HW.out o).size
        have HPn : Hid (PerAt ((set3 w4 wr.heap.size x y z).alloc (.cells #[.int .i64 a, .int .i64 b, .int .i64 x, .int .i64 y, .int .i64 z] 37)) w4.heap.size 0 ⟨a, b, x, y, z⟩) := by
          have := perAt_new (set3 w4 wr.heap.size x y z) ⟨a, b, x, y, z⟩
          rw [set3_size] at this
          exact this
        go_wp2_with (at_builtin; refine wpList_append_per _ rfl (.tmp 89) (.tmp 91) rfl w1.heap.size (.slice q m c) m (perL op s' l m) rfl (HOa.out _) w4.heap.size ⟨a, b, x, y, z⟩ rfl HPn.out (by omega) (HZa.out _) ?_; intro v5 w5 ho5 hg5; have HZ5 := hideS ((HZ.out.trans ((HW.out _).mono hsz)).trans (pgrown_below (HOa.out _) hg5 (HZa.out _))); rw [← HYs.out.2] at ho5; obtain ⟨q5, g5, k5, hv5, _, _, _, hm5⟩ := pown_src ho5 (perL_len _ _ _ _); subst hv5; have HO5 := hideS ho5; clear ho5 hg5)
        go_roundw
        case rel => exact ⟨m + 1, q5, k5, by omega, by go_num, rfl, HO5, HZ5, hideS HYs.out.1⟩
        case measure => simp [intOf]; omega
    · obtain rfl : m = N := by omega
      have hge : ¬ (m : Int) + 1 < ((m + 1 : Nat) : Int) := by omega
      go_wp2_with fail
      go_ret2
      exact ⟨Or.inr ⟨HY.out, _, rfl, pown_mono HO.out (by omega)⟩, HB.out.below⟩
end Go.Proofs.Ytelghkhcplmnmaa
namespace Go.Proofs.Ytelghkhcplmnmaa
open Go.RowKit

set_option maxHeartbeats 3200000 in
theorem ref8SameInts_same (p p' : Option Addr) (b off c b' off' c' : Nat) (xs : List Int) (w : World) (hx : ISrc w p b off xs) (hy : ISrc w p' b' off' xs) (hl : xs.length ≤ 1000000) :
    Calls Try.prog 13 #[.slice p xs.length c, .slice p' xs.length c'] w fun e w' => e = .returned (.bool true) ∧ Below w.heap.size w w' := by
  have HX := hideS hx
  have HY := hideS hy
  obtain ⟨N, hN⟩ : ∃ N, xs.length = N := ⟨_, rfl⟩
  rw [hN] at hl ⊢
  clear hx hy
  go_enter Try.func13, Try.ntmps13
  go_wp2_with fail
  have HZ0 := hideS (Below.refl w.heap.size w)
  go_loopw [5] (fun i wr => ∃ m : Nat, m ≤ N ∧ i = .int .i64 m ∧ Hid (Below w.heap.size w wr)) (fun i _ => N - (intOf i).toNat)
  case atStart => exact ⟨0, by omega, rfl, HZ0⟩
  case round =>
    clear HZ0
    obtain ⟨m, hm, rfl, HZ⟩ := hrel
    by_cases hlt : m < N
    · have hX := HX.out.below HZ.out
      have hY := HY.out.below HZ.out
      obtain rfl := hX.at_ (by omega)
      obtain rfl := hY.at_ (by omega)
      have k0 := hX.cell m (by omega)
      have k1 := hY.cell m (by omega)
      generalize xs.getD m 0 = x at *
      clear hX hY
      have hi0 : (m : Int) < (N : Int) := by omega
      have HD := hideS (HZ.out.trans ((Below.refl wr.heap.size wr).drew.mono HZ.out.size))
      go_wp2_with fail
      go_region
      go_wp2_with fail
      go_roundw
      case rel => exact ⟨m + 1, by omega, by go_num, HD⟩
      case measure => simp [intOf]; omega
    · obtain rfl : m = N := by omega
      have hge : ¬ (m : Int) < (m : Int) := by omega
      go_wp2_with fail
      go_ret
      exact ⟨rfl, HZ.out⟩

set_option maxHeartbeats 3200000 in
theorem ref8SamePeriods_same (p p' : Option Addr) (b off c b' off' c' : Nat) (xs : List Per) (w : World) (hx : PSrc w p b off xs) (hy : PSrc w p' b' off' xs) (hl : xs.length ≤ 1000000) :
    Calls Try.prog 14 #[.slice p xs.length c, .slice p' xs.length c'] w fun e w' => e = .returned (.bool true) ∧ Below w.heap.size w w' := by
  have HX := hideS hx
  have HY := hideS hy
  obtain ⟨N, hN⟩ : ∃ N, xs.length = N := ⟨_, rfl⟩
  rw [hN] at hl ⊢
  clear hx hy
  go_enter Try.func14, Try.ntmps14
  go_wp2_with fail
  have HZ0 := hideS (Below.refl w.heap.size w)
  go_loopw [5] (fun i wr => ∃ m : Nat, m ≤ N ∧ i = .int .i64 m ∧ Hid (Below w.heap.size w wr)) (fun i _ => N - (intOf i).toNat)
  case atStart => exact ⟨0, by omega, rfl, HZ0⟩
  case round =>
    clear HZ0
    obtain ⟨m, hm, rfl, HZ⟩ := hrel
    by_cases hlt : m < N
    · have hX := HX.out.below HZ.out
      have hY := HY.out.below HZ.out
      obtain rfl := hX.at_ (by omega)
      obtain rfl := hY.at_ (by omega)
      obtain ⟨k0, k1, k2, k3, k4⟩ := hX.cell m (by omega)
      obtain ⟨l0, l1, l2, l3, l4⟩ := hY.cell m (by omega)
      generalize xs.getD m per0 = x at *
      obtain ⟨x0, x1, x2, x3, x4⟩ := x
      dsimp only at *
      rw [Nat.add_zero] at k0 l0
      clear hX hY
      have hi0 : (m : Int) < (N : Int) := by omega
      have HD := hideS (HZ.out.trans ((Below.refl wr.heap.size wr).drew.mono HZ.out.size))
      go_wp2_with fail
      go_region
      go_wp2_with fail
      go_roundw
      case rel => exact ⟨m + 1, by omega, by go_num, HD⟩
      case measure => simp [intOf]; omega
    · obtain rfl : m = N := by omega
      have hge : ¬ (m : Int) < (m : Int) := by omega
      go_wp2_with fail
      go_ret
      exact ⟨rfl, HZ.out⟩
end Go.Proofs.Ytelghkhcplmnmaa
