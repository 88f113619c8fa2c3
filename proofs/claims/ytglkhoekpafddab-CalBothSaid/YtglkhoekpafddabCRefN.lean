/- The contract of the document's Join where the calendars are joined. -/
import Derived.Test.YtglkhoekpafddabCRefM
namespace Go.Proofs.Ytglkhoekpafddab
open Go.RowKit

def orI (a b : Int) : Int := bits .or .i64 a b
/-- Behind Join's tests: the boxes stand, and neither Weekend nor Move forbids. -/
def joinFree (W W' : Int) (rs rs' : List Rul) : Prop := W = W' ∨ (W ≠ W' ∧ movesB rs = false ∧ movesB rs' = false)

theorem CBox3.stay {w wr w' : World} {W W' : Int} {v v' : Value} {B : Nat} (h : CBox3 w W v W' v' wr) (hb : Below B wr w') (hB : w.heap.size + 3 ≤ B) : CBox3 w W v W' v' w' := by
  have c : ∀ k < w.heap.size + 3, ∀ j, w'.cell? ⟨k, j, none⟩ = wr.cell? ⟨k, j, none⟩ := fun k hk j => hb.cell (p := ⟨k, j, none⟩) (by show k < B; omega)
  have f : ∀ k < w.heap.size + 3, ∀ j, w'.frozen? ⟨k, j, none⟩ = wr.frozen? ⟨k, j, none⟩ := fun k hk j => hb.frozen (p := ⟨k, j, none⟩) (by show k < B; omega)
  exact ⟨⟨(c _ (by omega) _).trans h.two.a0, (c _ (by omega) _).trans h.two.a1, (c _ (by omega) _).trans h.two.b0, (c _ (by omega) _).trans h.two.b1, h.two.bl.trans (hb.mono (by omega)), Nat.le_trans h.two.sz hb.size⟩, (c _ (by omega) _).trans h.d0, (c _ (by omega) _).trans h.d1, (f _ (by omega) _).trans h.f0, (f _ (by omega) _).trans h.f1, Nat.le_trans h.sz hb.size⟩
/-- Join's own calendar under way: its box at bt, its rules in a row behind it. -/
structure JoinM (w : World) (W : Int) (v : Value) (W' : Int) (v' : Value) (bt : Nat) (O : Int) (rs : List Rul) (n : Nat) (vc u : Value) (wr : World) : Prop where
  box : CBox3 w W v W' v' wr
  own : wr.ownsRow (bt + 1) 42 9 vc n (rowC rs)
  t0 : wr.cell? ⟨bt, 0, none⟩ = some (.int .i64 O)
  t1 : wr.cell? ⟨bt, 1, none⟩ = some u
  tf : wr.frozen? ⟨bt, 1, none⟩ = false
  lt : bt < wr.heap.size
  lo : w.heap.size + 3 ≤ bt
theorem join_one {w wm w5 : World} {W W' O : Int} {v v' v5 : Value} {rs : List Rul} {n : Nat} (h : CBox3 w W v W' v' wm) (ho : w5.ownsRow (wm.heap.size + 1) 42 9 v5 n (rowC rs)) (hg : (wm.alloc (.cells #[.int .i64 O, .slice none 0 0] 24)).grownBy w5 none) :
    JoinM w W v W' v' wm.heap.size O rs n v5 (.slice none 0 0) w5 := by
  have hb := (Below.refl (wm.alloc (.cells #[.int .i64 O, .slice none 0 0] 24)).heap.size _).grown hg (Nat.le_refl _) (fun k hk => by cases hk)
  refine ⟨(h.step ((Below.refl _ wm).alloc (Nat.le_refl _) _)).step hb, ho, (hb.cell (p := ⟨wm.heap.size, 0, none⟩) (by simp)).trans (by simp), (hb.cell (p := ⟨wm.heap.size, 1, none⟩) (by simp)).trans (by simp), (hb.frozen (p := ⟨wm.heap.size, 1, none⟩) (by simp)).trans (World.frozen?_alloc_new _ _ _ _), ?_, h.sz⟩
  have := hb.size
  simp at this
  omega
theorem join_set {w wr : World} {W W' O : Int} {v v' vc u : Value} {bt n : Nat} {rs : List Rul} (h : JoinM w W v W' v' bt O rs n vc u wr) (x : Value) : JoinM w W v W' v' bt O rs n vc x (wr.setCell ⟨bt, 1, none⟩ x) := by
  have hb : Below bt wr (wr.setCell ⟨bt, 1, none⟩ x) := (Below.refl bt wr).setCell (p := ⟨bt, 1, none⟩) (Nat.le_refl _) x
  refine ⟨h.box.stay hb h.lo, ownsRow_setCell_below h.own (show bt < bt + 1 by omega) x, ?_, ?_, ?_, Nat.lt_of_lt_of_le h.lt hb.size, h.lo⟩
  · have e := h.t0
    simp [e, go_sem]
  · have e := h.t1
    simp [e, go_sem]
  · have e := h.tf
    simp [e, go_sem]
theorem join_two {w wr w6 : World} {W W' O : Int} {v v' vc u v6 : Value} {bt n m : Nat} {rs rs2 : List Rul} (h : JoinM w W v W' v' bt O rs n vc u wr) (ho : w6.ownsRow (bt + 1) 42 9 v6 m (rowC rs2)) (hg : wr.grownBy w6 vc.ownBlock) : JoinM w W v W' v' bt O rs2 m v6 u w6 := by
  have hr := World.ownsRow.lt h.own
  have hb := (Below.refl (bt + 1) wr).grown hg (by have := h.lt; omega) (fun k hk => (hr k hk).1)
  exact ⟨h.box.stay hb (by have := h.lo; omega), ho, (hb.cell (p := ⟨bt, 0, none⟩) (by show bt < bt + 1; omega)).trans h.t0, (hb.cell (p := ⟨bt, 1, none⟩) (by show bt < bt + 1; omega)).trans h.t1, (hb.frozen (p := ⟨bt, 1, none⟩) (by show bt < bt + 1; omega)).trans h.tf, Nat.lt_of_lt_of_le h.lt hb.size, h.lo⟩
theorem slice_inj {p p' : Option Addr} {n n' c c' : Nat} (h : Value.slice p n c = Value.slice p' n' c') : p = p' ∧ n = n' ∧ c = c' := by cases h; exact ⟨rfl, rfl, rfl⟩
/-- The joined rules, wherever Join's own calendar stands. -/
theorem JoinM.src {w wr : World} {W W' O : Int} {v v' u : Value} {bt n c : Nat} {p : Option Addr} {rs : List Rul} (h : JoinM w W v W' v' bt O rs n (.slice p n c) u wr) (hn : rs.length = n) : ∃ g, RSrc wr p g 0 rs ∧ bt + 1 ≤ g := by
  obtain ⟨p7, g7, c7, hv, hsrc, hlo, _, _⟩ := own_src h.own hn
  obtain ⟨rfl, _, _⟩ := slice_inj hv
  exact ⟨g7, hsrc, hlo⟩
theorem JoinM.src2 {w wr : World} {W W' O : Int} {v v' u x y : Value} {bt n c : Nat} {p : Option Addr} {rs : List Rul} (h : JoinM w W v W' v' bt O rs n (.slice p n c) u wr) (hn : rs.length = n) : ∃ g, RSrc ((wr.setCell ⟨w.heap.size + 1 + 1, 0, none⟩ x).setCell ⟨w.heap.size + 1 + 1, 1, none⟩ y) p g 0 rs ∧ w.heap.size ≤ g := by
  have hl := h.lo
  have o1 := ownsRow_setCell_below h.own (a := ⟨w.heap.size + 1 + 1, 0, none⟩) (show w.heap.size + 1 + 1 < bt + 1 by omega) x
  have o2 := ownsRow_setCell_below o1 (a := ⟨w.heap.size + 1 + 1, 1, none⟩) (show w.heap.size + 1 + 1 < bt + 1 by omega) y
  obtain ⟨p7, g7, c7, hv, hsrc, hlo, _, _⟩ := own_src o2 hn
  obtain ⟨rfl, _, _⟩ := slice_inj hv
  exact ⟨g7, hsrc, by omega⟩
theorem join_step {w wr w' : World} {W W' O : Int} {v v' vc u : Value} {bt n : Nat} {rs : List Rul} (h : JoinM w W v W' v' bt O rs n vc u wr) (hb : Below wr.heap.size wr w') : JoinM w W v W' v' bt O rs n vc u w' :=
  ⟨h.box.step hb, by
    rcases h.own with ⟨a, c | ⟨g, cap, cur, hv, hg, hh, r⟩⟩
    · exact ⟨a, Or.inl c⟩
    · exact ⟨a, Or.inr ⟨g, cap, cur, hv, hg, by rw [hb.block g (Array.getElem?_eq_some_iff.1 hh).1]; exact hh, r⟩⟩, (hb.cell (p := ⟨bt, 0, none⟩) h.lt).trans h.t0, (hb.cell (p := ⟨bt, 1, none⟩) h.lt).trans h.t1, (hb.frozen (p := ⟨bt, 1, none⟩) h.lt).trans h.tf, Nat.lt_of_lt_of_le h.lt hb.size, h.lo⟩
