/- The contract of the document's Join. -/
import Derived.Test.YtelghkhcplmnmaaCRefL
import Derived.Test.YtelghkhcplmnmaaCRow
namespace Go.Proofs.Ytelghkhcplmnmaa
open Go.RowKit

theorem grown_refl' (W : World) (r : Option Nat) : W.grownBy W r := ⟨rfl, rfl, rfl, Nat.le_refl _, fun _ _ _ => rfl⟩
/-- An append of rules that came in to a row of one's own. -/
theorem wpList_append_rules (w : World) {ops : Array Oper} {rest : List Oper} {o : Oper} {a : Act} {Q : Exit → Act → World → Prop} (hgd : o.guard = none) (s x : Operand)
    (ho : o.op = .call { callee := .builtin .append, args := #[s, x], argTypes := #[22, 22] })
    (base : Nat) (v : Value) (n : Nat) (rs0 : List Rul) (hs : a.eval s = v) (hown : w.ownsRow base 45 9 v n (rowC rs0))
    (p : Option Addr) (b off c m : Nat) (rs : List Rul) (hx : a.eval x = .slice p m c) (hm : rs.length = m) (hsrc : RSrc w p b off rs) (hnil : p = none → m = 0 ∧ c = 0) (hn : n ≤ 100000) (hm2 : m ≤ 100000) (hbase : base ≤ w.heap.size)
    (h : ∀ v' w', w'.ownsRow base 45 9 v' (n + m) (rowC (rs0 ++ rs)) → w.grownBy w' v.ownBlock → wpList Try.prog ops Q rest (a.put o.dst v') w') : wpList Try.prog ops Q (o :: rest) a w := by
  obtain ⟨i0, hi, hz0, hz1, hz2⟩ := info_parts info_rule
  cases p with
  | none =>
    obtain ⟨rfl, rfl⟩ := hnil rfl
    refine wpList_append_own_none hgd s x 22 ho base 45 i0 9 Try.underlying22 hi v n (rowC rs0) hs hown hx (h v w ?_ (grown_refl' _ _))
    rw [List.length_eq_zero_iff.1 hm, List.append_nil]; exact hown
  | some ad =>
    refine wpList_append_own w hgd s x 22 ho base 45 i0 (.agg #[.int .i64 0, .int .i64 0, .int .i64 0, .int .i64 0, .int .i64 0, .int .i64 0, .int .i64 0, .int .i64 0, .int .i64 0]) 9 72 Try.underlying22 hi hz0 hz1 hz2 rfl (by decide) v n (rowC rs0) hs hown ad m c (rowC rs) hx (by rw [rowC_len, hm]) ?_ (rowC_one rs) (by unfold maxLen; omega) (by omega) hbase ?_
    · by_cases h0 : 0 < rs.length
      · have e := hsrc.at_ h0
        obtain rfl := Option.some.inj e
        exact src_news hsrc
      · rw [List.length_eq_zero_iff.1 (show rs.length = 0 by omega)]
        intro j u hj
        cases hj
    · intro v' w' h1 h2 _
      refine h v' w' ?_ h2
      rw [rowC_append]; exact h1

/-- Join's boxes: the two calendars', and the result's. -/
structure CBox3 (w : World) (W : Int) (v : Value) (W' : Int) (v' : Value) (wr : World) : Prop where
  two : CBox2 w W v W' v' wr
  d0 : wr.cell? ⟨w.heap.size + 1 + 1, 0, none⟩ = some (.int .i64 0)
  d1 : wr.cell? ⟨w.heap.size + 1 + 1, 1, none⟩ = some (.slice none 0 0)
  f0 : wr.frozen? ⟨w.heap.size + 1 + 1, 0, none⟩ = false
  f1 : wr.frozen? ⟨w.heap.size + 1 + 1, 1, none⟩ = false
  sz : w.heap.size + 3 ≤ wr.heap.size
theorem CBox3.step {w wr w' : World} {W W' : Int} {v v' : Value} (h : CBox3 w W v W' v' wr) (hb : Below wr.heap.size wr w') : CBox3 w W v W' v' w' :=
  ⟨h.two.step hb, (hb.cell (p := ⟨w.heap.size + 1 + 1, 0, none⟩) (by have := h.sz; show w.heap.size + 1 + 1 < _; omega)).trans h.d0, (hb.cell (p := ⟨w.heap.size + 1 + 1, 1, none⟩) (by have := h.sz; show w.heap.size + 1 + 1 < _; omega)).trans h.d1,
    (hb.frozen (p := ⟨w.heap.size + 1 + 1, 0, none⟩) (by have := h.sz; show w.heap.size + 1 + 1 < _; omega)).trans h.f0, (hb.frozen (p := ⟨w.heap.size + 1 + 1, 1, none⟩) (by have := h.sz; show w.heap.size + 1 + 1 < _; omega)).trans h.f1, Nat.le_trans h.sz hb.size⟩
theorem CBox3.first (w : World) (W : Int) (v : Value) (W' : Int) (v' : Value) : CBox3 w W v W' v' (((w.alloc (.cells #[.int .i64 W, v] 24)).alloc (.cells #[.int .i64 W', v'] 24)).alloc (.cells #[.int .i64 0, .slice none 0 0] 24)) := by
  have h2 := (CBox2.first w W v W' v').step ((Below.refl _ _).alloc (Nat.le_refl _) (.cells #[.int .i64 0, .slice none 0 0] 24))
  have fr : ∀ k, (((w.alloc (.cells #[.int .i64 W, v] 24)).alloc (.cells #[.int .i64 W', v'] 24)).alloc (.cells #[.int .i64 0, .slice none 0 0] 24)).frozen? ⟨w.heap.size + 1 + 1, k, none⟩ = false := fun k => by
    rw [show w.heap.size + 1 + 1 = ((w.alloc (.cells #[.int .i64 W, v] 24)).alloc (.cells #[.int .i64 W', v'] 24)).heap.size by simp]
    exact World.frozen?_alloc_new _ _ _ _
  exact ⟨h2, new_cell2 _ _ _ _ (by simp), new_cell2 _ _ _ _ (by simp), fr 0, fr 1, by simp⟩

theorem put2 {w : World} {b : Nat} {x y u v : Value} (d0 : w.cell? ⟨b, 0, none⟩ = some u) (d1 : w.cell? ⟨b, 1, none⟩ = some v) :
    ((w.setCell ⟨b, 0, none⟩ x).setCell ⟨b, 1, none⟩ y).cell? ⟨b, 0, none⟩ = some x ∧ ((w.setCell ⟨b, 0, none⟩ x).setCell ⟨b, 1, none⟩ y).cell? ⟨b, 1, none⟩ = some y := by
  constructor
  · simp [d0, go_sem]
  · simp [d1, go_sem]

theorem put2_below {w w1 : World} {x y : Value} (h : Below w.heap.size w w1) : Below w.heap.size w ((w1.setCell ⟨w.heap.size + 1 + 1, 0, none⟩ x).setCell ⟨w.heap.size + 1 + 1, 1, none⟩ y) :=
  (h.setCell (p := ⟨w.heap.size + 1 + 1, 0, none⟩) (by show w.heap.size ≤ w.heap.size + 1 + 1; omega) x).setCell (p := ⟨w.heap.size + 1 + 1, 1, none⟩) (by show w.heap.size ≤ w.heap.size + 1 + 1; omega) y
