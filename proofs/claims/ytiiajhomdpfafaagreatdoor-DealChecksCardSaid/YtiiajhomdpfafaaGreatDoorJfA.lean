/- Flows: rows of them that came in, and rows of one's own; the program's (amounts as floats) and the document's (amounts as bits). -/
import Derived.Test.YtiiajhomdpfafaaGreatDoorHax
import Derived.Laws.AppendOwnNone
import Derived.OwnWalk
import Derived.WalkKit
import Derived.Handy
namespace Go.Proofs.YtiiajhomdpfafaaGreatDoor
open Go.RowKit

structure Flw where
  (day : Int) (am : Nat) (cur : Int)
def flw0 : Flw := ⟨0, 0, 0⟩
def aF (a : Nat) : Value := .float .f64 a
structure FCells (mk : Nat → Value) (w : World) (b o : Nat) (f : Flw) : Prop where
  c0 : w.cell? ⟨b, o, none⟩ = some (.int .i64 f.day)
  c1 : w.cell? ⟨b, o + 1, none⟩ = some (mk f.am)
  c2 : w.cell? ⟨b, o + 2, none⟩ = some (.int .i64 f.cur)
theorem FCells.below {mk : Nat → Value} {w w' : World} {B b o : Nat} {f : Flw} (h : FCells mk w b o f) (hb : Below B w w') (hB : b < B) : FCells mk w' b o f :=
  ⟨(hb.cell (p := ⟨b, o, none⟩) hB).trans h.c0, (hb.cell (p := ⟨b, o + 1, none⟩) hB).trans h.c1, (hb.cell (p := ⟨b, o + 2, none⟩) hB).trans h.c2⟩
structure JSrc (mk : Nat → Value) (w : World) (p : Option Addr) (b off : Nat) (l : List Flw) : Prop where
  at_ : 0 < l.length → p = some ⟨b, off, none⟩
  lt : 0 < l.length → b < w.heap.size
  cell : ∀ i, i < l.length → FCells mk w b (off + i * 3) (l.getD i flw0)
theorem JSrc.below {mk : Nat → Value} {w w' : World} {p : Option Addr} {b off : Nat} {l : List Flw} (h : JSrc mk w p b off l) (hb : Below w.heap.size w w') : JSrc mk w' p b off l :=
  ⟨h.at_, fun hx => Nat.lt_of_lt_of_le (h.lt hx) hb.size, fun j hj => (h.cell j hj).below hb (h.lt (by omega))⟩
theorem JSrc.stay {mk : Nat → Value} {w w' : World} {B : Nat} {p : Option Addr} {b off : Nat} {l : List Flw} (h : JSrc mk w p b off l) (hb : Below B w w') (hB : 0 < l.length → b < B) : JSrc mk w' p b off l :=
  ⟨h.at_, fun hx => Nat.lt_of_lt_of_le (h.lt hx) hb.size, fun j hj => (h.cell j hj).below hb (hB (by omega))⟩
def flC (mk : Nat → Value) (r : Flw) : List Value := [.int .i64 r.day, mk r.am, .int .i64 r.cur]
def rowF (mk : Nat → Value) : List Flw → List Value
  | [] => []
  | r :: l => flC mk r ++ rowF mk l
theorem rowF_len (mk : Nat → Value) : ∀ l : List Flw, (rowF mk l).length = l.length * 3
  | [] => rfl
  | r :: l => by rw [rowF, List.length_append, rowF_len mk l, List.length_cons]; show 3 + _ = _; omega
theorem rowF_append (mk : Nat → Value) : ∀ a b : List Flw, rowF mk (a ++ b) = rowF mk a ++ rowF mk b
  | [], _ => rfl
  | r :: a, b => by rw [List.cons_append, rowF, rowF, rowF_append mk a b, List.append_assoc]
theorem rowF_get (mk : Nat → Value) : ∀ (l : List Flw) (i j : Nat), i < l.length → j < 3 → (rowF mk l)[i * 3 + j]? = (flC mk (l.getD i flw0))[j]?
  | [], i, j, h, _ => by simp at h
  | r :: l, 0, j, _, hj => by
    rw [rowF, Nat.zero_mul, Nat.zero_add, List.getElem?_append_left (by show j < 3; exact hj)]; rfl
  | r :: l, i + 1, j, h, hj => by
    rw [rowF, List.getElem?_append_right (by show 3 ≤ _; omega), show (i + 1) * 3 + j - (flC mk r).length = i * 3 + j by show _ - 3 = _; omega, rowF_get mk l i j (by simpa using h) hj]
    rfl
theorem rowF_one {mk : Nat → Value} (hm : ∀ a, (mk a).oneCell' = true) : ∀ (l : List Flw), ∀ u ∈ rowF mk l, u.oneCell' = true
  | [], u, h => by cases h
  | r :: l, u, h => by
    rw [rowF, List.mem_append] at h
    rcases h with h | h
    · simp only [flC, List.mem_cons, List.not_mem_nil, or_false] at h
      rcases h with rfl | rfl | rfl
      · rfl
      · exact hm _
      · rfl
    · exact rowF_one hm l u h
theorem fown_src {mk : Nat → Value} {w : World} {base n : Nat} {e : TypeId} {v : Value} {l : List Flw} (h : w.ownsRow base e 3 v n (rowF mk l)) (hn : l.length = n) :
    ∃ p g c, v = .slice p n c ∧ JSrc mk w p g 0 l ∧ base ≤ g ∧ n ≤ c ∧ c ≤ maxLen := by
  rcases h.2 with ⟨rfl, rfl⟩ | ⟨g, cap, cur, rfl, hg, hh, hnc, hcm, hsz, htk⟩
  · refine ⟨none, base, 0, rfl, ⟨fun h => by omega, fun h => by omega, fun i hi => by omega⟩, Nat.le_refl _, Nat.le_refl _, Nat.zero_le _⟩
  · refine ⟨_, g, cap, rfl, ⟨fun _ => rfl, fun _ => (Array.getElem?_eq_some_iff.1 hh).1, fun i hi => ?_⟩, hg, hnc, hcm⟩
    have key : ∀ j < 3, w.cell? ⟨g, 0 + i * 3 + j, none⟩ = (flC mk (l.getD i flw0))[j]? := fun j hj => by
      rw [← rowF_get mk l i j hi hj, show 0 + i * 3 + j = i * 3 + j by omega]
      exact World.ownsRow.cellAt h (i * 3 + j) (by omega)
    exact ⟨key 0 (by omega), key 1 (by omega), key 2 (by omega)⟩
theorem fown_nil (mk : Nat → Value) (w : World) (base : Nat) (e : TypeId) : w.ownsRow base e 3 (.slice none 0 0) 0 (rowF mk []) := ⟨rfl, Or.inl ⟨rfl, rfl⟩⟩
theorem fown_below {w w' : World} {base n : Nat} {e : TypeId} {v : Value} {xs : List Value} (h : w.ownsRow base e 3 v n xs) (hb : Below w.heap.size w w') : w'.ownsRow base e 3 v n xs := by
  refine ⟨h.1, ?_⟩
  rcases h.2 with hn | ⟨g, cap, cur, rfl, hg, hgg, rest⟩
  · exact .inl hn
  · exact .inr ⟨g, cap, cur, rfl, hg, by rw [hb.block g (Array.getElem?_eq_some_iff.1 hgg).1]; exact hgg, rest⟩
theorem fgrown_below {w w' : World} {v : Value} {B n : Nat} {e : TypeId} {xs : List Value} (ho : w.ownsRow B e 3 v n xs) (hg : w.grownBy w' v.ownBlock) (hB : B ≤ w.heap.size) : Below B w w' :=
  (Below.refl B w).grown hg hB (fun k hk => by
    rcases ho.2 with ⟨rfl, _⟩ | ⟨g, cap, cur, rfl, hbg, _⟩
    · cases hk
    · obtain rfl : g = k := by simpa [Value.ownBlock] using hk
      exact hbg)
theorem wpList_append_fl (mk : Nat → Value) (hm : ∀ a, (mk a).oneCell' = true) (t e : TypeId) (hu : Tryz.prog.underlying t = some (.slice e)) (hinf : (Tryz.prog.info? e).map (fun i => (i.zero, i.size, i.bytes)) = some (some (.agg #[.int .i64 0, mk 0, .int .i64 0]), 3, 24)) (hzs : (Value.agg #[.int .i64 0, mk 0, .int .i64 0]).cells.size = 3)
    (w : World) {ops : Array Oper} {rest : List Oper} {o : Oper} {a : Act} {Q : Exit → Act → World → Prop} (hgd : o.guard = none) (s x : Operand)
    (ho : o.op = .call { callee := .builtin .append, args := #[s, x], argTypes := #[t, t] })
    (base : Nat) (v : Value) (n : Nat) (xs : List Flw) (hs : a.eval s = v) (hown : w.ownsRow base e 3 v n (rowF mk xs))
    (b off c : Nat) (ys : List Flw) (hx : a.eval x = .slice (some ⟨b, off, none⟩) ys.length c) (hsrc : ∀ i < ys.length, FCells mk w b (off + i * 3) (ys.getD i flw0)) (hn : (n + ys.length) * 24 ≤ 140737488355328) (hbase : base ≤ w.heap.size)
    (h : ∀ v' w', w'.ownsRow base e 3 v' (n + ys.length) (rowF mk (xs ++ ys)) → w.grownBy w' v.ownBlock → wpList Tryz.prog ops Q rest (a.put o.dst v') w') : wpList Tryz.prog ops Q (o :: rest) a w := by
  obtain ⟨i0, hi, hz0, hz1, hz2⟩ := info_parts hinf
  refine wpList_append_own w hgd s x t ho base e i0 (.agg #[.int .i64 0, mk 0, .int .i64 0]) 3 24 hu hi hz0 hz1 hz2 hzs (by decide) v n (rowF mk xs) hs hown ⟨b, off, none⟩ ys.length c (rowF mk ys) hx (rowF_len mk ys) ?_ (rowF_one hm ys) (by unfold maxLen; omega) (by omega) hbase ?_
  · intro j u hj
    have hlt : j < ys.length * 3 := by
      have := (List.getElem?_eq_some_iff.1 hj).1
      rw [rowF_len] at this
      exact this
    rw [Addr.add_lit]
    obtain ⟨i, m, rfl, hm5⟩ : ∃ i m, j = i * 3 + m ∧ m < 3 := ⟨j / 3, j % 3, by omega, Nat.mod_lt _ (by omega)⟩
    have hq : i < ys.length := by omega
    rw [rowF_get mk ys _ _ hq hm5] at hj
    have hc := hsrc _ hq
    rw [← hj]
    rw [← Nat.add_assoc]
    rcases (show m = 0 ∨ m = 1 ∨ m = 2 by omega) with rfl | rfl | rfl
    · exact hc.c0
    · exact hc.c1
    · exact hc.c2
  · intro v' w' h1 h2 _
    refine h v' w' ?_ h2
    rw [rowF_append]; exact h1
theorem info_fl : (Tryz.prog.info? 45).map (fun i => (i.zero, i.size, i.bytes)) = some (some (.agg #[.int .i64 0, aF 0, .int .i64 0]), 3, 24) := by kernel_rfl
end Go.Proofs.YtiiajhomdpfafaaGreatDoor
