/- Rows of periods that are made and filled; sched's payment. -/
import Derived.Test.YtpcgbcdldkmibaaGreatHbi
import Derived.Test.YtpcgbcdldkmibaaGreatHar
import Derived.Laws.MakeOwn
namespace Go.Proofs.YtpcgbcdldkmibaaGreat
open Go.RowKit

def RowQ (w : World) (g N : Nat) (ps : List Per) : Prop := ∃ cs : Array Value, w.heap[g]? = some (.cells cs 56 (0, 0)) ∧ cs.size = N * 5 ∧ cs.toList.take (ps.length * 5) = rowP ps
theorem RowQ.stay {w w' : World} {g N B : Nat} {ps : List Per} (h : RowQ w g N ps) (hb : Below B w w') (hg : g < B) : RowQ w' g N ps := by
  obtain ⟨cs, h1, h2⟩ := h
  exact ⟨cs, by rw [hb.block g hg]; exact h1, h2⟩
theorem RowQ.lt {w : World} {g N : Nat} {ps : List Per} (h : RowQ w g N ps) : g < w.heap.size := by
  obtain ⟨cs, h1, _⟩ := h
  exact (Array.getElem?_eq_some_iff.1 h1).1
theorem RowQ.cell {w : World} {g N : Nat} {ps : List Per} (h : RowQ w g N ps) {k : Nat} (hk : k < N * 5) : ∃ u, w.cell? ⟨g, k, none⟩ = some u := by
  obtain ⟨cs, h1, h2, _⟩ := h
  refine ⟨cs[k]'(by omega), ?_⟩
  simp only [World.cell?, h1, Option.isSome_none, Bool.false_eq_true, if_false]
  exact Array.getElem?_eq_getElem (by omega)
theorem RowQ.frozen {w : World} {g N : Nat} {ps : List Per} (h : RowQ w g N ps) (k : Nat) : w.frozen? ⟨g, k, none⟩ = false := by
  obtain ⟨cs, h1, _⟩ := h
  exact frozen_of_row w g k cs _ h1
theorem RowQ.own {w : World} {g N base : Nat} {ps : List Per} (h : RowQ w g N ps) (hl : ps.length = N) (hb : base ≤ g) (hN : N ≤ 100000) : w.ownsRow base 56 5 (.slice (some ⟨g, 0, none⟩) N N) N (rowP ps) := by
  obtain ⟨cs, h1, h2, h3⟩ := h
  refine ⟨by rw [rowP_len, hl], .inr ⟨g, N, cs, rfl, hb, h1, Nat.le_refl _, by unfold maxLen; omega, h2, ?_⟩⟩
  rw [← hl]; exact h3
def set5 (w : World) (g o : Nat) (r : Per) : World := ((((w.setCell ⟨g, o, none⟩ (.int .i64 r.fr)).setCell ⟨g, o + 1, none⟩ (.int .i64 r.to)).setCell ⟨g, o + 2, none⟩ (.int .i64 r.st)).setCell ⟨g, o + 3, none⟩ (.int .i64 r.en)).setCell ⟨g, o + 4, none⟩ (.int .i64 r.pay)
theorem set5_below (w : World) (g o B : Nat) (r : Per) (hB : B ≤ g) : Below B w (set5 w g o r) :=
  (((((Below.refl B w).setCell (p := ⟨g, o, none⟩) hB _).setCell (p := ⟨g, o + 1, none⟩) hB _).setCell (p := ⟨g, o + 2, none⟩) hB _).setCell (p := ⟨g, o + 3, none⟩) hB _).setCell (p := ⟨g, o + 4, none⟩) hB _
theorem set_block {w : World} {g o : Nat} {cs : Array Value} {t : TypeId} (v : Value) (h : w.heap[g]? = some (.cells cs t (0, 0))) : (w.setCell ⟨g, o, none⟩ v).heap[g]? = some (.cells (cs.setIfInBounds o v) t (0, 0)) := by
  rw [Go.Sort.setCell_eq]
  simp [Go.Sort.mapBlock, Array.getElem?_modify, h, Go.Sort.onCells]
theorem set5_row {w : World} {g N : Nat} {ps : List Per} (r : Per) (h : RowQ w g N ps) (hm : ps.length < N) : RowQ (set5 w g (ps.length * 5) r) g N (ps ++ [r]) := by
  obtain ⟨cs, h1, h2, h3⟩ := h
  refine ⟨_, set_block _ (set_block _ (set_block _ (set_block _ (set_block _ h1)))), by simp [h2], ?_⟩
  obtain ⟨m, hm'⟩ : ∃ m, ps.length * 5 = m := ⟨_, rfl⟩
  rw [rowP_append, ← h3, hm', show (ps ++ [r]).length * 5 = m + 5 by simp; omega]
  have hsz : m + 5 ≤ cs.size := by omega
  apply List.ext_getElem?
  intro j
  by_cases hj : j < m
  · rw [List.getElem?_take_of_lt (by omega), List.getElem?_append_left (by simp; omega), List.getElem?_take_of_lt hj]
    simp only [Array.getElem?_toList, Array.getElem?_setIfInBounds]
    rw [if_neg (by omega), if_neg (by omega), if_neg (by omega), if_neg (by omega), if_neg (by omega)]
  · rw [List.getElem?_append_right (by simp; omega)]
    have hl : (cs.toList.take m).length = m := by simp; omega
    rw [hl]
    by_cases hj5 : j < m + 5
    · rw [List.getElem?_take_of_lt hj5]
      have hrow : rowP [r] = perC r := by simp [rowP]
      rw [hrow]
      simp only [Array.getElem?_toList, Array.getElem?_setIfInBounds, Array.size_setIfInBounds]
      rcases (show j = m ∨ j = m + 1 ∨ j = m + 2 ∨ j = m + 3 ∨ j = m + 4 by omega) with rfl | rfl | rfl | rfl | rfl
      · simp [perC, show j < cs.size by omega]
      · simp [perC, show m + 1 < cs.size by omega]
      · simp [perC, show m + 2 < cs.size by omega]
      · simp [perC, show m + 3 < cs.size by omega]
      · simp [perC, show m + 4 < cs.size by omega]
    · rw [List.getElem?_take_eq_none (by omega), List.getElem?_eq_none (by rw [rowP_len]; simp; omega)]
theorem row_made (w : World) (N : Nat) (z : Array Value) : RowQ (w.alloc (.cells (madeCells z (N * 5)) 56)) w.heap.size N [] :=
  ⟨_, heap_alloc_new w _, size_madeCells _ _, by simp [rowP]⟩

set_option maxHeartbeats 3200000 in
theorem payment_any (s : Spc) (W y X E : Int) (v : Value) (w : World) (h0 : s.lag = 0 → X = y ∧ E = 0) (HA : Hid (s.lag ≠ 0 → ∀ wx, Below w.heap.size w wx → Calls Tryz.prog 110 #[.agg #[.int .i64 W, v], .int .i64 y, .int .i64 s.lag] wx fun e w' => e = .returned (.tuple #[.int .i64 X, .int .i64 E]) ∧ Below wx.heap.size wx w')) :
    Calls Tryz.prog 61 #[.agg #[.int .i64 s.st, .int .i64 s.en, .int .i64 s.n, .int .i64 s.unit, .int .i64 s.stub, .int .i64 s.roll, .int .i64 s.conv, .int .i64 s.lag, .int .i64 W, v], .int .i64 y] w fun e w' => e = .returned (.tuple #[.int .i64 X, .int .i64 E]) ∧ Below w.heap.size w w' := by
  have HB := hideS (SBox.zero w s W v)
  by_cases hl : s.lag = 0
  · obtain ⟨rfl, rfl⟩ := h0 hl
    clear HA h0
    obtain ⟨st, en, n, unit, stub, roll, conv, lag⟩ := s
    dsimp only at *
    subst hl
    go_enter Tryz.func61, Tryz.ntmps61
    go_wp2
    go_ret2
    exact ⟨rfl, HB.out.below⟩
  · have HA' := hideS (HA.out hl)
    have hl' : (s.lag == 0) = false := beq_eq_false_iff_ne.2 hl
    clear HA h0 hl
    obtain ⟨st, en, n, unit, stub, roll, conv, lag⟩ := s
    dsimp only at *
    go_enter Tryz.func61, Tryz.ntmps61
    go_wp2_with (go_at_call 110; refine (HA'.out _ HB.out.below).mono ?_; rintro e w1 ⟨rfl, hb1⟩)
    go_ret2
    exact ⟨rfl, (HB.out.step hb1).below⟩

structure PerP (op : Int → Bool) (s : Spc) (W : Int) (v : Value) (l : List Int) (w : World) : Prop where
  dat : ∀ wx, Below w.heap.size w wx → Calls Tryz.prog 59 #[.agg #[.int .i64 s.st, .int .i64 s.en, .int .i64 s.n, .int .i64 s.unit, .int .i64 s.stub, .int .i64 s.roll, .int .i64 s.conv, .int .i64 s.lag, .int .i64 W, v]] wx fun e w' => (∃ u, e = .returned (.tuple #[u, .int .i64 0]) ∧ w'.ownsRow wx.heap.size 3 1 u l.length (l.map iV)) ∧ Below wx.heap.size wx w'
  adj : ∀ j < l.length, ∀ wx, Below w.heap.size w wx → Calls Tryz.prog 60 #[.agg #[.int .i64 W, v], .int .i64 (l.getD j 0), .int .i64 s.conv] wx fun e w' => e = .returned (.tuple #[.int .i64 ((adjO op (l.getD j 0) s.conv).getD 0), .int .i64 (ansE (adjO op (l.getD j 0) s.conv))]) ∧ Below wx.heap.size wx w'
  pay : ∀ j < l.length, ∀ y, adjO op (l.getD j 0) s.conv = some y → ∀ wx, Below w.heap.size w wx → Calls Tryz.prog 61 #[.agg #[.int .i64 s.st, .int .i64 s.en, .int .i64 s.n, .int .i64 s.unit, .int .i64 s.stub, .int .i64 s.roll, .int .i64 s.conv, .int .i64 s.lag, .int .i64 W, v], .int .i64 y] wx fun e w' => e = .returned (.tuple #[.int .i64 ((if 0 < s.lag then addO op 1 s.lag.toNat y else some y).getD 0), .int .i64 (ansE (if 0 < s.lag then addO op 1 s.lag.toNat y else some y))]) ∧ Below wx.heap.size wx w'
  fst : l.getD 0 0 = s.st

set_option maxHeartbeats 3200000 in
theorem schPeriods_bad (s : Spc) (W E : Int) (v : Value) (w : World) (hE : E ≠ 0) (HC : Hid (∀ wx, Below w.heap.size w wx → Calls Tryz.prog 59 #[.agg #[.int .i64 s.st, .int .i64 s.en, .int .i64 s.n, .int .i64 s.unit, .int .i64 s.stub, .int .i64 s.roll, .int .i64 s.conv, .int .i64 s.lag, .int .i64 W, v]] wx fun e w' => e = .returned (.tuple #[.slice none 0 0, .int .i64 E]) ∧ Below wx.heap.size wx w')) :
    Calls Tryz.prog 33 #[.agg #[.int .i64 s.st, .int .i64 s.en, .int .i64 s.n, .int .i64 s.unit, .int .i64 s.stub, .int .i64 s.roll, .int .i64 s.conv, .int .i64 s.lag, .int .i64 W, v]] w fun e w' => e = .returned (.tuple #[.slice none 0 0, .int .i64 E]) ∧ Below w.heap.size w w' := by
  have HB := hideS (SBox.zero w s W v).below
  obtain ⟨st, en, n, unit, stub, roll, conv, lag⟩ := s
  dsimp only at *
  have hE' : (E != 0) = true := bne_iff_ne.2 hE
  clear hE
  go_enter Tryz.func33, Tryz.ntmps33
  go_wp2_with (go_at_call 59; refine (HC.out _ HB.out).mono ?_; rintro e w1 ⟨rfl, hb1⟩)
  go_ret2
  exact ⟨rfl, HB.out.trans (hb1.mono HB.out.size)⟩
end Go.Proofs.YtpcgbcdldkmibaaGreat
