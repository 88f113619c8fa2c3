/- Rows of bytes of one's own. -/
import Derived.Test.YtbgmbodedjhfoaaGreatDoorProg
import Derived.Handy
import Derived.WalkMore
import Derived.Below
import Derived.BigFrame
import Derived.WalkSpells
import Derived.Laws.AppendOwnNone
import Derived.Laws.Rows
import Derived.Maps.AppendAt
import Derived.Laws.OwnMore
namespace Go.Proofs.YtbgmbodedjhfoaaGreatDoor
open Go.RowKit

def byV (l : List Int) : List Value := l.map fun n => Value.int .u8 n
theorem byV_append (a b : List Int) : byV (a ++ b) = byV a ++ byV b := by simp [byV]
theorem byV_one (l : List Int) : ∀ u ∈ byV l, u.oneCell' = true := fun u h => by
  obtain ⟨n, _, rfl⟩ := List.mem_map.1 h
  rfl
theorem info_by : (Tryz.prog.info? 5).map (fun i => (i.zero, i.size, i.bytes)) = some (some (.int .u8 0), 1, 1) := by kernel_rfl
theorem by_info : ∃ i, Tryz.prog.info? 5 = some i ∧ i.zero = some (.int .u8 0) ∧ i.size = 1 ∧ i.bytes = 1 := by
  obtain ⟨i0, hi, hz⟩ := Option.map_eq_some_iff.1 info_by
  injection hz with hz0 hz
  injection hz with hz1 hz2
  exact ⟨i0, hi, hz0, hz1, hz2⟩
theorem byrow_below {B n : Nat} {v : Value} {xs : List Value} {w w' : World} (h : w.ownsRow B 5 1 v n xs) (hb : Below w.heap.size w w') : w'.ownsRow B 5 1 v n xs := by
  refine ⟨h.1, ?_⟩
  rcases h.2 with hn | ⟨g, cap, cur, rfl, hg, hgg, rest⟩
  · exact .inl hn
  · exact .inr ⟨g, cap, cur, rfl, hg, by rw [hb.block g (Array.getElem?_eq_some_iff.1 hgg).1]; exact hgg, rest⟩
theorem wpList_append_by (w : World) {ops : Array Oper} {rest : List Oper} {o : Oper} {a : Act} {Q : Exit → Act → World → Prop} (hgd : o.guard = none) (s x : Operand)
    (ho : o.op = .call { callee := .builtin .append, args := #[s, x], argTypes := #[89, 89] })
    (B : Nat) (v : Value) (n : Nat) (xs : List Int) (hs : a.eval s = v) (hown : w.ownsRow B 5 1 v n (byV xs)) (hb : B ≤ w.heap.size)
    (g m c : Nat) (news : List Int) (hx : a.eval x = .slice (some ⟨g, 0, none⟩) m c) (hl : news.length = m) (hc : ∀ j u, (byV news)[j]? = some u → w.cell? ⟨g, j, none⟩ = some u) (hn : n + m ≤ 140737488355328)
    (h : ∀ v' w', w'.ownsRow B 5 1 v' (n + m) (byV (xs ++ news)) → w.grownBy w' v.ownBlock → wpList Tryz.prog ops Q rest (a.put o.dst v') w') : wpList Tryz.prog ops Q (o :: rest) a w := by
  obtain ⟨i0, hi, hz⟩ := Option.map_eq_some_iff.1 info_by
  injection hz with hz0 hz
  injection hz with hz1 hz2
  refine wpList_append_own w hgd s x 89 ho B 5 i0 (.int .u8 0) 1 1 Tryz.underlying89 hi hz0 hz1 hz2 rfl (by decide) v n (byV xs) hs hown ⟨g, 0, none⟩ m c (byV news) hx (by simp [byV, hl]) ?_ (byV_one _) (by unfold maxLen; omega) (by omega) hb (fun v' w' h1 h2 _ => h v' w' (by rw [byV_append]; exact h1) h2)
  intro j u hj
  rw [Addr.add_lit, Nat.zero_add]
  exact hc j u hj
theorem by_new (w : World) (xs : Array Value) (T : TypeId) (j : Nat) : (w.alloc (.cells xs T)).cell? ⟨w.heap.size, j, none⟩ = xs[j]? := by
  have h := heap_alloc_new w (.cells xs T)
  simp only [World.cell?, h, Option.isSome_none, Bool.false_eq_true, if_false]
theorem by_box {B n g : Nat} {T' : TypeId} {v : Value} {xs : List Value} {w : World} {cur : Array Value} (h : w.ownsRow B 5 1 v n xs) (hb : w.heap[g]? = some (.cells cur T')) (hT : 5 ≠ T') : some g ≠ v.ownBlock := fun hg => by
  rcases h.2 with ⟨rfl, _⟩ | ⟨g', cap, cur', rfl, _, hgg, _⟩
  · cases hg
  · have : g = g' := by simpa [Value.ownBlock] using hg
    subst this
    rw [hb] at hgg
    injection hgg with hgg
    injection hgg with _ hgg
    exact hT hgg.symm
theorem by_cell {w : World} {g : Nat} {cs : Array Value} {T : TypeId} (h : w.heap[g]? = some (.cells cs T)) (i : Nat) {v : Value} (hv : cs[i]? = some v) : w.cell? ⟨g, i, none⟩ = some v ∧ w.frozen? ⟨g, i, none⟩ = false := by
  refine ⟨?_, by simp [World.frozen?, h]⟩
  simp only [World.cell?, h, Option.isSome_none, Bool.false_eq_true, if_false]
  exact hv
theorem by_lt {w : World} {b : Nat} {o : Obj} (h : w.heap[b]? = some o) : b < w.heap.size := (Array.getElem?_eq_some_iff.1 h).1
theorem by_more {B n g : Nat} {T' : TypeId} {v v5 : Value} {xs ys : List Int} {w0 w w5 : World} {cur : Array Value} (ho : w.ownsRow B 5 1 v n (byV xs)) (hbf : w.heap[g]? = some (.cells cur T')) (hT : 5 ≠ T') (hb : Below B w0 w) (hB : B ≤ w.heap.size) (h5 : w5.ownsRow B 5 1 v5 (n + 1) (byV ys)) (hg : w.grownBy w5 v.ownBlock) : (w5.ownsRow B 5 1 v5 (n + 1) (byV ys) ∧ w5.heap[g]? = some (.cells cur T')) ∧ Below B w0 w5 ∧ B ≤ w5.heap.size :=
  ⟨⟨h5, (hg.block g (by_lt hbf) (by_box ho hbf hT)).trans hbf⟩, hb.trans ((Below.refl B w).grown hg hB (fun k hk => (ho.lt k hk).1)), Nat.le_trans hB hg.size⟩
end Go.Proofs.YtbgmbodedjhfoaaGreatDoor
