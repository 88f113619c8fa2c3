/- The contract of tenorlaw14.Mixed: the same flows in another order, in new memory. -/
import Derived.Test.YteglnchcnacjlaaGreatHao
import Derived.Test.YteglnchcnacjlaaGreatHam
import Derived.Laws.AppendOwnNone
import Derived.Test.YteglnchcnacjlaaGreatHap
namespace Go.Proofs.YteglnchcnacjlaaGreat
open Go.RowKit

theorem wpList_append_flo (w : World) {ops : Array Oper} {rest : List Oper} {o : Oper} {a : Act} {Q : Exit → Act → World → Prop} (hgd : o.guard = none) (s x : Operand)
    (ho : o.op = .call { callee := .builtin .append, args := #[s, x], argTypes := #[22, 22] })
    (base : Nat) (v : Value) (n : Nat) (xs : List Flw) (hs : a.eval s = v) (hown : w.ownsRow base 29 3 v n (rowF aF xs))
    (p : Option Addr) (b off c m : Nat) (ys : List Flw) (hx : a.eval x = .slice p m c) (hm : ys.length = m) (hsrc : JSrc aF w p b off ys) (hnil : p = none → m = 0 ∧ c = 0) (hn : (n + m) * 24 ≤ 140737488355328) (hbase : base ≤ w.heap.size)
    (h : ∀ v' w', w'.ownsRow base 29 3 v' (n + m) (rowF aF (xs ++ ys)) → w.grownBy w' v.ownBlock → wpList Tryz.prog ops Q rest (a.put o.dst v') w') : wpList Tryz.prog ops Q (o :: rest) a w := by
  obtain ⟨i0, hi, hz0, hz1, hz2⟩ := info_parts info_fl
  cases p with
  | none =>
    obtain ⟨rfl, rfl⟩ := hnil rfl
    refine wpList_append_own_none hgd s x 22 ho base 29 i0 3 Tryz.underlying22 hi v n (rowF aF xs) hs hown hx (h v w ?_ ⟨rfl, rfl, rfl, Nat.le_refl _, fun _ _ _ => rfl⟩)
    rw [List.length_eq_zero_iff.1 hm, List.append_nil]; exact hown
  | some ad =>
    refine wpList_append_own w hgd s x 22 ho base 29 i0 (.agg #[.int .i64 0, aF 0, .int .i64 0]) 3 24 Tryz.underlying22 hi hz0 hz1 hz2 rfl (by decide) v n (rowF aF xs) hs hown ad m c (rowF aF ys) hx (by rw [rowF_len, hm]) ?_ (rowF_one (fun _ => rfl) ys) (by unfold maxLen; omega) (by omega) hbase ?_
    · intro j u hj
      have hlt : j < ys.length * 3 := by
        have := (List.getElem?_eq_some_iff.1 hj).1
        rw [rowF_len] at this
        exact this
      have e := hsrc.at_ (by omega)
      obtain rfl := Option.some.inj e
      rw [Addr.add_lit]
      obtain ⟨i, m, rfl, hm5⟩ : ∃ i m, j = i * 3 + m ∧ m < 3 := ⟨j / 3, j % 3, by omega, Nat.mod_lt _ (by omega)⟩
      have hq : i < ys.length := by omega
      rw [rowF_get aF ys _ _ hq hm5] at hj
      have hc := hsrc.cell _ hq
      rw [← hj]
      rw [← Nat.add_assoc]
      rcases (show m = 0 ∨ m = 1 ∨ m = 2 by omega) with rfl | rfl | rfl
      · exact hc.c0
      · exact hc.c1
      · exact hc.c2
    · intro v' w' h1 h2 _
      refine h v' w' ?_ h2
      rw [rowF_append]; exact h1
theorem fown_cells {w : World} {B n g cap : Nat} {l : List Flw} (h : w.ownsRow B 29 3 (.slice (some ⟨g, 0, none⟩) n cap) n (rowF aF l)) (hn : l.length = n) (i : Nat) (hi : i < n) : (w.cell? ⟨g, i * 3, none⟩ = some (.int .i64 (l.getD i flw0).day) ∧ w.cell? ⟨g, i * 3 + 1, none⟩ = some (.float .f64 (l.getD i flw0).am) ∧ w.cell? ⟨g, i * 3 + 2, none⟩ = some (.int .i64 (l.getD i flw0).cur)) ∧ ∀ j, w.frozen? ⟨g, j, none⟩ = false := by
  have hc : ∀ m < 3, w.cell? ⟨g, i * 3 + m, none⟩ = (flC aF (l.getD i flw0))[m]? := fun m hm => by
    rw [h.cellAt (i * 3 + m) (by omega), rowF_get aF l i m (by omega) hm]
  exact ⟨⟨hc 0 (by decide), hc 1 (by decide), hc 2 (by decide)⟩, fun j => World.ownsRow.frozenAt h j⟩
def set3 (w : World) (g o : Nat) (f : Flw) : World := ((w.setCell ⟨g, o, none⟩ (.int .i64 f.day)).setCell ⟨g, o + 1, none⟩ (.float .f64 f.am)).setCell ⟨g, o + 2, none⟩ (.int .i64 f.cur)
theorem rowF_set (mk : Nat → Value) : ∀ (l : List Flw) (i : Nat) (f : Flw), rowF mk (l.set i f) = (((rowF mk l).set (i * 3) (.int .i64 f.day)).set (i * 3 + 1) (mk f.am)).set (i * 3 + 2) (.int .i64 f.cur)
  | [], i, f => by simp [rowF]
  | x :: l, 0, f => by simp [rowF, flC]
  | x :: l, i + 1, f => by
    have ih := rowF_set mk l i f
    have e : (i + 1) * 3 = i * 3 + 3 := by omega
    simp only [List.set_cons_succ, rowF, flC, List.cons_append, List.nil_append]
    rw [e, show i * 3 + 3 + 1 = (i * 3 + 1) + 3 by omega, show i * 3 + 3 + 2 = (i * 3 + 2) + 3 by omega]
    simp only [List.set_cons_succ]
    rw [ih]
theorem fown_set {w : World} {B n g cap : Nat} {l : List Flw} (h : w.ownsRow B 29 3 (.slice (some ⟨g, 0, none⟩) n cap) n (rowF aF l)) (i : Nat) (f : Flw) : (set3 w g (i * 3) f).ownsRow B 29 3 (.slice (some ⟨g, 0, none⟩) n cap) n (rowF aF (l.set i f)) ∧ Below B w (set3 w g (i * 3) f) := by
  have hB : B ≤ g := (h.lt g rfl).1
  have h1 := (World.ownsRow.stored h (i * 3) (.int .i64 f.day)).1
  have h2 := (World.ownsRow.stored h1 (i * 3 + 1) (.float .f64 f.am)).1
  have h3 := (World.ownsRow.stored h2 (i * 3 + 2) (.int .i64 f.cur)).1
  refine ⟨?_, (((Below.refl B w).setCell (p := ⟨g, i * 3, none⟩) hB _).setCell (p := ⟨g, i * 3 + 1, none⟩) hB _).setCell (p := ⟨g, i * 3 + 2, none⟩) hB _⟩
  rw [rowF_set]; exact h3
theorem fown_empty (w : World) : (w.alloc (.cells #[] 29)).ownsRow w.heap.size 29 3 (.slice (some ⟨w.heap.size, 0, none⟩) 0 0) 0 (rowF aF []) :=
  ⟨rfl, Or.inr ⟨w.heap.size, 0, #[], rfl, Nat.le_refl _, heap_alloc_new _ _, Nat.le_refl _, Nat.zero_le _, rfl, rfl⟩⟩
end Go.Proofs.YteglnchcnacjlaaGreat
