/- Package deal: whether a term's fields may be, where they may. -/
import Derived.Test.YtienedhaogjahaaGreatDoorHar
import Derived.Laws.StructEq
namespace Go.Proofs.YtienedhaogjahaaGreatDoor
open Go.RowKit

theorem flat4 : ∀ (vs : List Value) (j q : Nat), (∀ i < vs.length, ∃ a b c d, vs.getD i undef = .agg #[a, b, c, d]) → j < vs.length → q < 4 → (vs.flatMap (fun v => v.cells.toList))[j * 4 + q]? = (vs.getD j undef).cells[q]?
  | [], j, q, _, h, _ => by simp at h
  | v :: vs, 0, q, hv, _, hq => by
    obtain ⟨a, b, c, d, e⟩ := hv 0 (by simp)
    have e' : v = .agg #[a, b, c, d] := e
    subst e'
    rw [List.flatMap_cons, Nat.zero_mul, Nat.zero_add, List.getElem?_append_left (by show q < 4; exact hq), Array.getElem?_toList]
    rfl
  | v :: vs, j + 1, q, hv, h, hq => by
    obtain ⟨a, b, c, d, e⟩ := hv 0 (by simp)
    have e' : v = .agg #[a, b, c, d] := e
    subst e'
    rw [List.flatMap_cons, List.getElem?_append_right (by show 4 ≤ _; omega)]
    rw [show (j + 1) * 4 + q - (Value.agg #[a, b, c, d]).cells.toList.length = j * 4 + q by show _ - 4 = _; omega]
    exact flat4 vs j q (fun i hi => hv (i + 1) (by simpa using hi)) (by simpa using h) hq
structure FCell (w : World) (h o : Nat) (d : Fd) (x0 x1 x2 x3 : Value) : Prop where
  c0 : w.cell? ⟨h, o, none⟩ = some x0
  c1 : w.cell? ⟨h, o + 1, none⟩ = some x1
  c2 : w.cell? ⟨h, o + 2, none⟩ = some x2
  c3 : w.cell? ⟨h, o + 3, none⟩ = some x3
  fd : FdAt d (.agg #[x0, x1, x2, x3]) w
theorem FCell.below {w w' : World} {h o : Nat} {d : Fd} {x0 x1 x2 x3 : Value} (c : FCell w h o d x0 x1 x2 x3) (hl : h < w.heap.size) (hb : Below w.heap.size w w') : FCell w' h o d x0 x1 x2 x3 := by
  have k : ∀ j, w'.cell? ⟨h, j, none⟩ = w.cell? ⟨h, j, none⟩ := fun j => World.cell?_of_block (w := w) (a := ⟨h, j, none⟩) (hb.block h hl)
  exact ⟨(k _).trans c.c0, (k _).trans c.c1, (k _).trans c.c2, (k _).trans c.c3, c.fd.below hb⟩
theorem flds_cell {ds : List Fd} {u : Value} {w : World} (hs : SlcAt ds u w) : ∃ p n g, u = .slice p n n ∧ n = ds.length ∧ (0 < n → p = some ⟨g, 0, none⟩ ∧ g < w.heap.size) ∧ ∀ j (hj : j < ds.length), ∃ c0 c1 c2 c3, FCell w g (j * 4) ds[j] c0 c1 c2 c3 := by
  rcases hs with ⟨rfl, rfl⟩ | ⟨_, g, vs, rfl, hh, hl, ha⟩
  · exact ⟨none, 0, 0, rfl, rfl, fun h => by omega, fun j hj => by simp at hj⟩
  · refine ⟨_, _, g, rfl, rfl, fun _ => ⟨rfl, lt_of_blk hh⟩, fun j hj => ?_⟩
    obtain ⟨c0, c1, c2, c3, e⟩ := (ha j hj).agg
    have hv : ∀ i < vs.length, ∃ a b c d, vs.getD i undef = .agg #[a, b, c, d] := fun i hi => (ha i (by omega)).agg
    have key : ∀ q < 4, w.cell? ⟨g, j * 4 + q, none⟩ = (vs.getD j undef).cells[q]? := fun q hq => by
      simp only [World.cell?, hh, Option.isSome_none, Bool.false_eq_true, if_false]
      rw [List.getElem?_toArray]
      exact flat4 vs j q hv (by omega) hq
    rw [e] at key
    refine ⟨c0, c1, c2, c3, key 0 (by omega), key 1 (by omega), key 2 (by omega), key 3 (by omega), ?_⟩
    have := ha j hj
    rw [e] at this
    exact this
def clrT (t : Trm) (i : Nat) : Trm := if i = 3 then { t with x := 0 } else if i = 4 then { t with y := 0 } else if i = 5 then { t with day := 0 } else if i = 6 then { t with to := 0 } else if i = 7 then { t with cur := 0 } else if i = 8 then { t with count := 0 } else if i = 9 then { t with n := 0 } else { t with months := 0 }
theorem TrB.clr {w : World} {g : Nat} {t : Trm} (h : TrB w g t) {i : Nat} (h3 : 3 ≤ i) (hi : i ≤ 10) : TrB (w.setCell ⟨g, i, none⟩ (clrV i)) g (clrT t i) := by
  unfold TrB trC at h ⊢
  rcases (show i = 3 ∨ i = 4 ∨ i = 5 ∨ i = 6 ∨ i = 7 ∨ i = 8 ∨ i = 9 ∨ i = 10 by omega) with rfl | rfl | rfl | rfl | rfl | rfl | rfl | rfl <;> exact (heap_setCell_same w g _ _ _ _ h).trans rfl
def clrL (t : Trm) : List Nat → Trm
  | [] => t
  | i :: l => clrL (clrT t i) l
theorem clrL_snoc (t : Trm) : ∀ (l : List Nat) (i : Nat), clrL t (l ++ [i]) = clrT (clrL t l) i
  | [], _ => rfl
  | j :: l, i => by show clrL (clrT t j) (l ++ [i]) = _; exact clrL_snoc (clrT t j) l i
def restT (k : Kd) (l : List Nat) (t : Trm) : Trm := { clrL t l with a := if 0 < k.parts then 0 else (clrL t l).a, b := if 1 < k.parts then 0 else (clrL t l).b }
theorem fd_shape {d : Fd} {x0 x1 x2 x3 : Value} {w : World} (h : FdAt d (.agg #[x0, x1, x2, x3]) w) : ∃ F0 C0 F2 C2, x0 = .func (.func F0) #[] C0 ∧ x2 = .func (.func F2) #[] C2 := by
  cases d with
  | num f =>
    obtain ⟨b, e, _⟩ := h
    injection e with e
    obtain ⟨rfl, _, rfl, _⟩ : x0 = _ ∧ x1 = _ ∧ x2 = _ ∧ x3 = _ := by simpa [numV] using e
    exact ⟨_, _, _, _, rfl, rfl⟩
  | who f lo hi' rd wr =>
    obtain ⟨b, e, _⟩ := h
    injection e with e
    obtain ⟨rfl, _, rfl, _⟩ : x0 = _ ∧ x1 = _ ∧ x2 = _ ∧ x3 = _ := by simpa [whoV] using e
    exact ⟨_, _, _, _, rfl, rfl⟩
  | beh f lo hi' rd wr =>
    obtain ⟨b, d, e, _⟩ := h
    injection e with e
    obtain ⟨rfl, _, rfl, _⟩ : x0 = _ ∧ x1 = _ ∧ x2 = _ ∧ x3 = _ := by simpa [behV] using e
    exact ⟨_, _, _, _, rfl, rfl⟩
structure FtB (w : World) (k : Kd) (u : Value) (t r : Trm) (wr : World) : Prop where
  kb : wr.heap[w.heap.size]? = some (.cells #[.int .i64 k.num, .string k.word, u, .int .i64 k.parts, fnB k.mean] 145)
  tb : TrB wr (w.heap.size + 1) t
  rb : TrB wr (w.heap.size + 1 + 1) r
  bl : Below w.heap.size w wr
theorem FtB.step {w : World} {k : Kd} {u : Value} {t r : Trm} {wr w' : World} (h : FtB w k u t r wr) (hb : Below wr.heap.size wr w') : FtB w k u t r w' := ⟨(hb.block _ (lt_of_blk h.kb)).trans h.kb, h.tb.below hb, h.rb.below hb, h.bl.trans (hb.mono h.bl.size)⟩
theorem FtB.clr {w : World} {k : Kd} {u : Value} {t r : Trm} {wr : World} (h : FtB w k u t r wr) {i : Nat} (h3 : 3 ≤ i) (hi : i ≤ 10) : FtB w k u t (clrT r i) (wr.setCell ⟨w.heap.size + 1 + 1, i, none⟩ (clrV i)) :=
  ⟨(blkF_far _ _ _ _ (by show w.heap.size ≠ w.heap.size + 1 + 1; omega)).trans h.kb, (blkF_far _ _ _ _ (by show w.heap.size + 1 ≠ w.heap.size + 1 + 1; omega)).trans h.tb, h.rb.clr h3 hi, h.bl.setCell (p := ⟨w.heap.size + 1 + 1, i, none⟩) (by show w.heap.size ≤ w.heap.size + 1 + 1; omega) _⟩
theorem FtB.seta {w : World} {k : Kd} {u : Value} {t r : Trm} {wr : World} (h : FtB w k u t r wr) : FtB w k u t { r with a := 0 } (wr.setCell ⟨w.heap.size + 1 + 1, 1, none⟩ (.int .i64 0)) :=
  ⟨(blkF_far _ _ _ _ (by show w.heap.size ≠ w.heap.size + 1 + 1; omega)).trans h.kb, (blkF_far _ _ _ _ (by show w.heap.size + 1 ≠ w.heap.size + 1 + 1; omega)).trans h.tb, (heap_setCell_same _ _ 1 _ _ _ h.rb).trans rfl, h.bl.setCell (p := ⟨w.heap.size + 1 + 1, 1, none⟩) (by show w.heap.size ≤ w.heap.size + 1 + 1; omega) _⟩
theorem FtB.setb {w : World} {k : Kd} {u : Value} {t r : Trm} {wr : World} (h : FtB w k u t r wr) : FtB w k u t { r with b := 0 } (wr.setCell ⟨w.heap.size + 1 + 1, 2, none⟩ (.int .i64 0)) :=
  ⟨(blkF_far _ _ _ _ (by show w.heap.size ≠ w.heap.size + 1 + 1; omega)).trans h.kb, (blkF_far _ _ _ _ (by show w.heap.size + 1 ≠ w.heap.size + 1 + 1; omega)).trans h.tb, (heap_setCell_same _ _ 2 _ _ _ h.rb).trans rfl, h.bl.setCell (p := ⟨w.heap.size + 1 + 1, 2, none⟩) (by show w.heap.size ≤ w.heap.size + 1 + 1; omega) _⟩
theorem ftB_at (w : World) (k : Kd) (u : Value) (t : Trm) : FtB w k u t t (((w.alloc (.cells #[.int .i64 k.num, .string k.word, u, .int .i64 k.parts, fnB k.mean] 145)).alloc (.cells (trC t) 50)).alloc (.cells (trC t) 50)) := by
  refine ⟨?_, ?_, ?_, (((Below.refl _ _).alloc (Nat.le_refl _) _).alloc (by simp) _).alloc (by simp; omega) _⟩
  · simp only [al_at, sz_al]; repeat rw [if_neg (by omega)]
    exact if_pos trivial
  · unfold TrB; simp only [al_at, sz_al]; repeat rw [if_neg (by omega)]
    exact if_pos trivial
  · unfold TrB; simp only [al_at, sz_al]; exact if_pos trivial
set_option maxRecDepth 20000 in
set_option maxHeartbeats 6400000 in
theorem kFits_ok (k : Kd) (u : Value) (ps : List Nat) (t : Trm) (w : World) (hu : TrU t) (hs : SlcAt k.ds u w) (hl : ps.length = k.ds.length) (hp : ∀ j (hj : j < k.ds.length), fdI k.ds[j] (ps.getD j 0)) (h3 : ∀ j < ps.length, 3 ≤ ps.getD j 0 ∧ ps.getD j 0 ≤ 10) (hf : ∀ j (hj : j < k.ds.length), fdFit k.ds[j] (ps.getD j 0) t = true)
    (hr : restT k ps t = ⟨k.num, 0, 0, 0, 0, 0, 0, 0, 0, 0, 0⟩) (h7 : k.ds.length ≤ 7) (heq : ∀ w, (binOp .eql 50 (.agg #[.int .i64 k.num, .int .i64 0, .int .i64 0, .float .f64 0, .float .f64 0, .int .i64 0, .int .i64 0, .int .i64 0, .int .i64 0, .int .i64 0, .int .i64 0]) (.agg #[.int .i64 k.num, .int .i64 0, .int .i64 0, .float .f64 0, .float .f64 0, .int .i64 0, .int .i64 0, .int .i64 0, .int .i64 0, .int .i64 0, .int .i64 0])).run Tryz.prog w = .ok (.bool true) w) :
    Calls Tryz.prog 82 #[kV k u, .agg (trC t)] w fun e w' => e = .returned (.bool true) ∧ Below w.heap.size w w' := by
  obtain ⟨p, n, g, rfl, rfl, hg, hc⟩ := flds_cell hs
  have HC := hidD hc
  have HG := hidD hg
  have HH := hidD (And.intro hu (And.intro hl (And.intro hp (And.intro h3 hf))))
  have HR := hidD hr
  have HB0 := hidD (ftB_at w k (.slice p k.ds.length k.ds.length) t)
  clear hs hu hl hp h3 hf hr hc hg
  unfold kV
  obtain ⟨m, hm⟩ : ∃ m, k.ds.length = m := ⟨_, rfl⟩
  have HM := hidD hm
  rw [hm] at h7 HB0 ⊢
  clear hm
  unfold fnB trC at HB0
  unfold fnB trC
  have hst := store_fltD
  go_enter Tryz.func82, Tryz.ntmps82
  go_wp2_with fail
  generalize hw3 : World.alloc _ _ = w3 at HB0 ⊢
  clear hw3
  go_loopw [12] (fun i wr => ∃ j : Nat, j ≤ m ∧ i = .int .i64 j ∧ Hid (FtB w k (.slice p m m) t (clrL t (ps.take j)) wr)) (fun i _ => m - (intOf i).toNat)
  case atStart => exact ⟨0, Nat.zero_le _, rfl, HB0⟩
  case round =>
    clear HB0
    obtain ⟨j, hj, rfl, HI⟩ := hrel
    by_cases hlt : j < m
    · have hlt' : j < k.ds.length := by rw [HM.out]; exact hlt
      obtain ⟨x0, x1, x2, x3, HF⟩ := HC.out j hlt'
      obtain ⟨rfl, hgl⟩ := HG.out (by omega)
      obtain ⟨hu, hl, hp, h3, hf⟩ := HH.out
      have h3j := h3 j (by omega)
      have hfj := hf j hlt'
      obtain ⟨F1, C1, rfl, en1, HF1⟩ := fd_fit HF.fd (hp j hlt') t hu
      rw [hfj] at HF1
      obtain ⟨F3, C3, rfl, en3, HF3⟩ := fd_clear HF.fd (hp j hlt')
      obtain ⟨F0, C0, F2, C2, rfl, rfl⟩ := fd_shape HF.fd
      obtain ⟨c0, c1, c2, c3, _⟩ := HF.below hgl HI.out.bl
      have HF1' := hidD (fun wx hb => HF1 wx hb)
      have HF3' := hidD HF3
      have HX := hidD (And.intro h3j (And.intro hl hlt'))
      have i1 : (j : Int) < (m : Int) := by omega
      have kb := HI.out.kb
      obtain ⟨d0, d1, d2, d3, d4, d5, d6, d7, d8, d9, d10⟩ := trm_cells HI.out.tb
      have hs1 := lt_of_blk HI.out.tb
      have hs2 := Nat.ne_of_lt hs1
      clear hfj hu hl hp h3 hf HF1 HF3 HF h3j hgl kb
      unfold trC at HF1'
      obtain ⟨ij, hij⟩ : ∃ ij, ps.getD j 0 = ij := ⟨_, rfl⟩
      rw [hij] at HF3' HX
      have HIJ := hidD hij
      clear hij
      go_wp2_with fail
      refine (HF1'.out _ (HI.out.step (al_bel _ _)).bl).mono ?_
      rintro e w2 ⟨rfl, hb⟩
      have HI2 := hidD ((HI.out.step (al_bel _ _)).step hb)
      have q3 := (cellF_of ((hb.block wr.heap.size (by simp)).trans (heap_alloc_new wr _))).2.2.2
      clear hb HF1' HI c0 c1 c2 c3 d0 d1 d2 d3 d4 d5 d6 d7 d8 d9 d10
      go_wp2_with fail
      refine (HF3'.out _ _ _ HI2.out.bl HI2.out.rb).mono ?_
      rintro e w4 ⟨rfl, hw4⟩
      have HI3 : Hid (FtB w k (.slice (some ⟨g, 0, none⟩) m m) t (clrL t (ps.take (j + 1))) w4) := by
        show FtB _ _ _ _ _ _
        have e : ps.take (j + 1) = ps.take j ++ [ij] := by
          have hj' : j < ps.length := by rw [HX.out.2.1]; exact HX.out.2.2
          rw [List.take_add_one, ← HIJ.out, List.getD_eq_getElem?_getD, List.getElem?_eq_getElem hj']; rfl
        rw [e, clrL_snoc, hw4]
        exact HI2.out.clr HX.out.1.1 HX.out.1.2
      clear hw4 q3 HF3' HI2
      go_wp2_with fail
      go_roundw
      case rel => exact ⟨j + 1, by omega, by simp, HI3⟩
      case measure => simp [intOf]; omega
    · have hjm : j = m := by omega
      have e : ps.take j = ps := by
        have := HH.out.2.1
        rw [HM.out] at this
        rw [hjm, ← this, List.take_length]
      rw [e] at HI
      have i1 : ¬ (j : Int) < (m : Int) := by omega
      obtain ⟨q0, q1, q2, q3, q4⟩ := cellK_of HI.out.kb
      have hs1 := lt_of_blk HI.out.rb
      by_cases p1 : 1 < k.parts
      · have p0 : 0 < k.parts := by omega
        have HA := hidD (HI.out.seta)
        have HA2 := hidD (HA.out.setb)
        have hc1 := (trm_cells HI.out.rb).2.1
        have hf1 := HI.out.rb.frozen 1
        obtain ⟨wA, hwA⟩ : ∃ wA, wr.setCell ⟨w.heap.size + 1 + 1, 1, none⟩ (.int .i64 0) = wA := ⟨_, rfl⟩
        rw [hwA] at HA HA2
        have hc2 := (trm_cells HA.out.rb).2.2.1
        have hf2 := HA.out.rb.frozen 2
        obtain ⟨a0, a1, a2, a3, a4⟩ := cellK_of HA.out.kb
        obtain ⟨wB, hwB⟩ : ∃ wB, wA.setCell ⟨w.heap.size + 1 + 1, 2, none⟩ (.int .i64 0) = wB := ⟨_, rfl⟩
        rw [hwB] at HA2
        have hrt : { { clrL t ps with a := 0 } with b := 0 } = restT k ps t := by unfold restT; rw [if_pos p0, if_pos p1]
        rw [hrt, HR.out] at HA2
        obtain ⟨d0, d1, d2, d3, d4, d5, d6, d7, d8, d9, d10⟩ := trm_cells HA2.out.rb
        obtain ⟨b0, b1, b2, b3, b4⟩ := cellK_of HA2.out.kb
        clear hrt HA HI
        go_wp2_with (go_at_call 25; refine (bits_any _ _).mono ?_; rintro e wq ⟨rfl, rfl⟩)
        go_ret
        exact ⟨rfl, HA2.out.bl⟩
      · by_cases p0 : 0 < k.parts
        · have HA := hidD (HI.out.seta)
          have hc1 := (trm_cells HI.out.rb).2.1
          have hf1 := HI.out.rb.frozen 1
          obtain ⟨wA, hwA⟩ : ∃ wA, wr.setCell ⟨w.heap.size + 1 + 1, 1, none⟩ (.int .i64 0) = wA := ⟨_, rfl⟩
          rw [hwA] at HA
          obtain ⟨a0, a1, a2, a3, a4⟩ := cellK_of HA.out.kb
          have hrt : { clrL t ps with a := 0 } = restT k ps t := by unfold restT; rw [if_pos p0, if_neg p1]
          rw [hrt, HR.out] at HA
          obtain ⟨d0, d1, d2, d3, d4, d5, d6, d7, d8, d9, d10⟩ := trm_cells HA.out.rb
          clear hrt HI
          go_wp2_with (go_at_call 25; refine (bits_any _ _).mono ?_; rintro e wq ⟨rfl, rfl⟩)
          go_ret
          exact ⟨rfl, HA.out.bl⟩
        · have hrt : clrL t ps = restT k ps t := by unfold restT; rw [if_neg p0, if_neg p1]
          rw [hrt, HR.out] at HI
          obtain ⟨d0, d1, d2, d3, d4, d5, d6, d7, d8, d9, d10⟩ := trm_cells HI.out.rb
          clear hrt
          go_wp2_with (go_at_call 25; refine (bits_any _ _).mono ?_; rintro e wq ⟨rfl, rfl⟩)
          go_ret
          exact ⟨rfl, HI.out.bl⟩
end Go.Proofs.YtienedhaogjahaaGreatDoor
