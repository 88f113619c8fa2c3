/- The contract of sched's Dates. -/
import Derived.Test.YtelghkhcplmnmaaSpC
import Derived.Test.YtelghkhcplmnmaaSpD
namespace Go.Proofs.Ytelghkhcplmnmaa
open Go.RowKit

/-- A row of ints that may be written, at the head of a block. -/
def RowR (w : World) (g : Nat) (xs : List Int) : Prop := ∃ cur, w.heap[g]? = some (.cells cur 3 (0, 0)) ∧ xs.length ≤ cur.size ∧ ∀ j, j < xs.length → cur[j]? = some (iV (xs.getD j 0))
theorem RowR.stay {w w' : World} {g B : Nat} {xs : List Int} (h : RowR w g xs) (hb : Below B w w') (hg : g < B) : RowR w' g xs := by
  obtain ⟨cur, h1, h2⟩ := h
  exact ⟨cur, by rw [hb.block g hg]; exact h1, h2⟩
theorem RowR.src {w : World} {g : Nat} {xs : List Int} (h : RowR w g xs) : ISrc w (some ⟨g, 0, none⟩) g 0 xs := by
  obtain ⟨cur, hh, hl, hc⟩ := h
  refine ⟨fun _ => rfl, fun _ => (Array.getElem?_eq_some_iff.1 hh).1, fun j hj => ?_⟩
  rw [Nat.zero_add]
  simp only [World.cell?, hh, Option.isSome_none, Bool.false_eq_true, if_false]
  exact hc j hj
theorem RowR.pre {w : World} {g : Nat} {xs ys : List Int} (h : RowR w g xs) (hl : ys.length ≤ xs.length) (he : ∀ j, j < ys.length → ys.getD j 0 = xs.getD j 0) : RowR w g ys := by
  obtain ⟨cur, h1, h2, h3⟩ := h
  exact ⟨cur, h1, Nat.le_trans hl h2, fun j hj => by rw [he j hj]; exact h3 j (Nat.lt_of_lt_of_le hj hl)⟩
/-- The two kinds of a row of one's own. -/
theorem iown_kinds {w : World} {base K c : Nat} {q : Option Addr} {xs : List Int} (h : w.ownsRow base 3 1 (.slice q K c) K (xs.map iV)) (hx : xs.length = K) :
    (q = none ∧ K = 0 ∧ c = 0) ∨ ∃ g, q = some ⟨g, 0, none⟩ ∧ base ≤ g ∧ g < w.heap.size ∧ K ≤ c ∧ c ≤ 9223372036854775807 ∧ RowR w g xs := by
  rcases h.2 with ⟨hv, h0⟩ | ⟨g, cap, cur, hv, hg, hh, hnc, hcm, hsz, htk⟩
  · injection hv with e1 e2 e3
    exact Or.inl ⟨e1, e2, e3⟩
  · injection hv with e1 e2 e3
    subst e3
    refine Or.inr ⟨g, e1, hg, (Array.getElem?_eq_some_iff.1 hh).1, hnc, by unfold maxLen at hcm; omega, cur, hh, by omega, fun j hj => ?_⟩
    have hj2 : j < K * 1 := by omega
    have := congrArg (fun l => l[j]?) htk
    simp only [List.getElem?_map, List.getElem?_eq_getElem hj, List.getElem?_take_of_lt hj2] at this
    rw [List.getD_eq_getElem?_getD, List.getElem?_eq_getElem hj]
    rw [← Array.getElem?_toList]
    exact this

theorem heap_size_alloc1 (w : World) (o : Obj) : (w.alloc o).heap.size = w.heap.size + 1 := by simp
/-- The three slices that are put together, new. -/
theorem concS_new (w : World) (st en : Int) (q : Option Addr) (g C c : Nat) (L : List Int) (h : ISrc w q g 0 L) :
    ConcS (((w.alloc (.cells #[.int .i64 st] 3)).alloc (.cells #[.int .i64 en] 3)).alloc (.cells #[.slice (some ⟨w.heap.size, 0, none⟩) 1 1, .slice q C c, .slice (some ⟨w.heap.size + 1, 0, none⟩) 1 1] 29)).heap.size (w.heap.size + 2) w.heap.size (w.heap.size + 1) g q C c st en L (((w.alloc (.cells #[.int .i64 st] 3)).alloc (.cells #[.int .i64 en] 3)).alloc (.cells #[.slice (some ⟨w.heap.size, 0, none⟩) 1 1, .slice q C c, .slice (some ⟨w.heap.size + 1, 0, none⟩) 1 1] 29)) := by
  have hb : Below w.heap.size w (((w.alloc (.cells #[.int .i64 st] 3)).alloc (.cells #[.int .i64 en] 3)).alloc (.cells #[.slice (some ⟨w.heap.size, 0, none⟩) 1 1, .slice q C c, .slice (some ⟨w.heap.size + 1, 0, none⟩) 1 1] 29)) :=
    (((Below.refl w.heap.size w).alloc (Nat.le_refl _) _).alloc (by rw [heap_size_alloc1]; omega) _).alloc (by rw [heap_size_alloc1, heap_size_alloc1]; omega) _
  have e1 : (w.alloc (.cells #[.int .i64 st] 3)).heap.size = w.heap.size + 1 := by simp
  have e2 : ((w.alloc (.cells #[.int .i64 st] 3)).alloc (.cells #[.int .i64 en] 3)).heap.size = w.heap.size + 2 := by simp
  have n1 : ∀ k, (w.alloc (.cells #[.int .i64 st] 3)).cell? ⟨w.heap.size, k, none⟩ = (#[.int .i64 st] : Array Value)[k]? := fun k => new_cell0 w _ _ k
  have n2 : ∀ k, ((w.alloc (.cells #[.int .i64 st] 3)).alloc (.cells #[.int .i64 en] 3)).cell? ⟨w.heap.size + 1, k, none⟩ = (#[.int .i64 en] : Array Value)[k]? := fun k => by
    have := new_cell0 (w.alloc (.cells #[.int .i64 st] 3)) #[.int .i64 en] 3 k
    rw [e1] at this; exact this
  have n3 : ∀ k, (((w.alloc (.cells #[.int .i64 st] 3)).alloc (.cells #[.int .i64 en] 3)).alloc (.cells #[.slice (some ⟨w.heap.size, 0, none⟩) 1 1, .slice q C c, .slice (some ⟨w.heap.size + 1, 0, none⟩) 1 1] 29)).cell? ⟨w.heap.size + 2, k, none⟩ = (#[.slice (some ⟨w.heap.size, 0, none⟩) 1 1, .slice q C c, .slice (some ⟨w.heap.size + 1, 0, none⟩) 1 1] : Array Value)[k]? := fun k => by
    have := new_cell0 ((w.alloc (.cells #[.int .i64 st] 3)).alloc (.cells #[.int .i64 en] 3)) #[.slice (some ⟨w.heap.size, 0, none⟩) 1 1, .slice q C c, .slice (some ⟨w.heap.size + 1, 0, none⟩) 1 1] 29 k
    rw [e2] at this; exact this
  have e3 : (((w.alloc (.cells #[.int .i64 st] 3)).alloc (.cells #[.int .i64 en] 3)).alloc (.cells #[.slice (some ⟨w.heap.size, 0, none⟩) 1 1, .slice q C c, .slice (some ⟨w.heap.size + 1, 0, none⟩) 1 1] 29)).heap.size = w.heap.size + 3 := by simp
  refine ⟨n3 0, n3 1, n3 2, ?_, ?_, h.below hb, by omega, by omega, by omega, fun hx => by have := h.lt hx; omega⟩
  · rw [old_cell _ _ (by rw [e2]; show w.heap.size < _; omega), old_cell _ _ (by rw [e1]; show w.heap.size < _; omega)]; exact n1 0
  · rw [old_cell _ _ (by rw [e2]; show w.heap.size + 1 < _; omega)]; exact n2 0
theorem three_below (w : World) (a b c : Obj) : Below w.heap.size w (((w.alloc a).alloc b).alloc c) :=
  (((Below.refl w.heap.size w).alloc (Nat.le_refl _) _).alloc (by rw [heap_size_alloc1]; omega) _).alloc (by rw [heap_size_alloc1, heap_size_alloc1]; omega) _

/-- What Dates has at hand. -/
structure DatP (s : Spc) (W : Int) (v : Value) (K C : Nat) (il : Nat → List Int) (ev bk : Bool) (L : List Int) (w : World) : Prop where
  chk : ∀ wx, Below w.heap.size w wx → Calls Try.prog 15 #[.agg #[.int .i64 s.st, .int .i64 s.en, .int .i64 s.n, .int .i64 s.unit, .int .i64 s.stub, .int .i64 s.roll, .int .i64 s.conv, .int .i64 s.lag, .int .i64 W, v]] wx fun e w' => e = .returned (.int .i64 0) ∧ Below wx.heap.size wx w'
  bet : ∀ wx, Calls Try.prog 16 #[.agg #[.int .i64 s.st, .int .i64 s.en, .int .i64 s.n, .int .i64 s.unit, .int .i64 s.stub, .int .i64 s.roll, .int .i64 s.conv, .int .i64 s.lag, .int .i64 W, v]] wx fun e w' => BetG il ev K wx e w' ∧ Below wx.heap.size wx w'
  stf : ∀ wx, Calls Try.prog 17 #[.agg #[.int .i64 s.st, .int .i64 s.en, .int .i64 s.n, .int .i64 s.unit, .int .i64 s.stub, .int .i64 s.roll, .int .i64 s.conv, .int .i64 s.lag, .int .i64 W, v]] wx fun e w' => e = .returned (.bool bk) ∧ Below wx.heap.size wx w'
  len : ∀ k, (il k).length = k
  pre : C ≤ K → ∀ j, j < C → (il C).getD j 0 = (il K).getD j 0
  lst : L = if bk then (il C).reverse else il C
/-- What Dates tells. -/
def DatQ (st en : Int) (K C : Nat) (L : List Int) (w : World) (e : Ending) (w' : World) : Prop :=
  (1200 ≤ K ∧ e = .returned (.tuple #[.slice none 0 0, .int .i64 81])) ∨ (K < 1200 ∧ ∃ u, e = .returned (.tuple #[u, .int .i64 0]) ∧ w'.ownsRow w.heap.size 3 1 u (C + 2) ((st :: (L ++ [en])).map iV))

set_option maxHeartbeats 3200000 in
theorem schDates_bad (s : Spc) (W E : Int) (v : Value) (w : World) (hE : E ≠ 0) (HC : Hid (∀ wx, Below w.heap.size w wx → Calls Try.prog 15 #[.agg #[.int .i64 s.st, .int .i64 s.en, .int .i64 s.n, .int .i64 s.unit, .int .i64 s.stub, .int .i64 s.roll, .int .i64 s.conv, .int .i64 s.lag, .int .i64 W, v]] wx fun e w' => e = .returned (.int .i64 E) ∧ Below wx.heap.size wx w')) :
    Calls Try.prog 8 #[.agg #[.int .i64 s.st, .int .i64 s.en, .int .i64 s.n, .int .i64 s.unit, .int .i64 s.stub, .int .i64 s.roll, .int .i64 s.conv, .int .i64 s.lag, .int .i64 W, v]] w fun e w' => e = .returned (.tuple #[.slice none 0 0, .int .i64 E]) ∧ Below w.heap.size w w' := by
  have HB := hideS (SBox.zero w s W v).below
  obtain ⟨st, en, n, unit, stub, roll, conv, lag⟩ := s
  dsimp only at *
  have hE' : (E != 0) = true := bne_iff_ne.2 hE
  clear hE
  go_enter Try.func8, Try.ntmps8
  go_wp2_with (go_at_call 15; refine (HC.out _ HB.out).mono ?_; rintro e w1 ⟨rfl, hb1⟩)
  go_ret2
  exact ⟨rfl, HB.out.trans (hb1.mono HB.out.size)⟩

set_option maxHeartbeats 3200000 in
theorem schDates_many (s : Spc) (W : Int) (v : Value) (K C : Nat) (il : Nat → List Int) (ev bk : Bool) (L : List Int) (w : World) (H : Hid (DatP s W v K C il ev bk L w)) (hK : 1200 ≤ K) :
    Calls Try.prog 8 #[.agg #[.int .i64 s.st, .int .i64 s.en, .int .i64 s.n, .int .i64 s.unit, .int .i64 s.stub, .int .i64 s.roll, .int .i64 s.conv, .int .i64 s.lag, .int .i64 W, v]] w fun e w' => DatQ s.st s.en K C L w e w' ∧ Below w.heap.size w w' := by
  have HB0 := hideS (SBox.zero w s W v)
  have HCh := hideS H.out.chk
  have HBt : Hid (∀ wx, Calls Try.prog 16 #[.agg #[.int .i64 s.st, .int .i64 s.en, .int .i64 s.n, .int .i64 s.unit, .int .i64 s.stub, .int .i64 s.roll, .int .i64 s.conv, .int .i64 s.lag, .int .i64 W, v]] wx fun e w' => e = .returned (.tuple #[.slice none 0 0, .bool false, .int .i64 81]) ∧ Below wx.heap.size wx w') := fun wx => (H.out.bet wx).mono fun e w' ⟨a, b⟩ => ⟨by rcases a with ⟨_, a⟩ | ⟨a, _⟩; exact a; omega, b⟩
  clear H
  obtain ⟨st, en, n, unit, stub, roll, conv, lag⟩ := s
  dsimp only at *
  go_enter Try.func8, Try.ntmps8
  go_wp2_with fail
  refine (HCh.out _ HB0.out.below).mono ?_
  rintro e w1 ⟨rfl, hb1⟩
  have HB1 := hideS (HB0.out.step hb1)
  clear hb1
  obtain ⟨c0, c1, c2, c3, c4, c5, c6, c7, c8, c9⟩ := HB1.out.cells
  go_wp2_with (go_at_call 16; refine (HBt.out _).mono ?_; rintro e w2 ⟨rfl, hb2⟩)
  go_ret2
  exact ⟨Or.inl ⟨hK, rfl⟩, (HB1.out.step hb2).below⟩
end Go.Proofs.Ytelghkhcplmnmaa
