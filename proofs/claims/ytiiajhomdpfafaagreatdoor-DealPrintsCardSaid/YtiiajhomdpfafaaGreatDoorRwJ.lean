/- Rows of one's own: apart, lower, of ints; an append that stays or moves. -/
import Derived.Test.YtiiajhomdpfafaaGreatDoorHba
import Derived.Maps.AppendAt
namespace Go.Proofs.YtiiajhomdpfafaaGreatDoor
open Go.RowKit

theorem orow_apart {B B' sz sz' n n' : Nat} {T T' : TypeId} {v v' : Value} {xs xs' : List Value} {w : World} (h : w.ownsRow B T sz v n xs) (h' : w.ownsRow B' T' sz' v' n' xs') (hT : T ≠ T') : v.ownBlock = none ∨ v.ownBlock ≠ v'.ownBlock := by
  rcases h.2 with ⟨rfl, _⟩ | ⟨g, cap, cur, rfl, _, hg, _⟩
  · exact .inl rfl
  · refine .inr fun e => ?_
    rcases h'.2 with ⟨rfl, _⟩ | ⟨g', cap', cur', rfl, _, hg', _⟩
    · cases e
    · have e' : g = g' := by simpa [Value.ownBlock] using e
      subst e'
      rw [hg] at hg'
      injection hg' with hg'
      injection hg' with _ hg'
      exact hT hg'
theorem orow_lower {B B' sz n : Nat} {T : TypeId} {v : Value} {xs : List Value} {w : World} (h : w.ownsRow B T sz v n xs) (hB : B' ≤ B) : w.ownsRow B' T sz v n xs := by
  refine ⟨h.1, ?_⟩
  rcases h.2 with hn | ⟨g, cap, cur, e, hg, rest⟩
  · exact .inl hn
  · exact .inr ⟨g, cap, cur, e, Nat.le_trans hB hg, rest⟩
theorem orow_box {B sz n b : Nat} {T T' : TypeId} {v : Value} {xs : List Value} {w : World} {cur : Array Value} (h : w.ownsRow B T sz v n xs) (hb : w.heap[b]? = some (.cells cur T')) (hT : T ≠ T') : ∀ g, v.ownBlock = some g → g ≠ b := fun g hg e => by
  subst e
  rcases h.2 with ⟨rfl, _⟩ | ⟨g', cap, cur', rfl, _, hgg, _⟩
  · cases hg
  · have : g' = g := by simpa [Value.ownBlock] using hg
    subst this
    rw [hb] at hgg
    injection hgg with hgg
    injection hgg with _ hgg
    exact hT hgg.symm
def inC (n : Int) : Array Value := #[.int .i64 n]
theorem inC_size (n : Int) : (inC n).size = 1 := rfl
theorem inC_one (n : Int) : ∀ u ∈ (inC n).toList, u.oneCell' = true := fun u h => by
  simp only [inC, List.mem_cons, List.not_mem_nil, or_false] at h
  subst h; rfl
theorem info_int : (Tryz.prog.info? 3).map (fun i => (i.zero, i.size, i.bytes)) = some (some (.int .i64 0), 1, 8) := by kernel_rfl
def AP (a b : Value) : Prop := a.ownBlock = none ∨ a.ownBlock ≠ b.ownBlock
theorem AP.symm {a b : Value} (h : AP a b) : AP b a := by
  unfold AP at *
  rcases h with h | h
  · cases e : b.ownBlock with
    | none => exact .inl rfl
    | some g => refine .inr ?_; rw [h]; intro h'; cases h'
  · exact .inr (Ne.symm h)
theorem AP.next {B sz n : Nat} {T : TypeId} {a b b' : Value} {xs : List Value} {w : World} (h : AP a b) (ha : w.ownsRow B T sz a n xs) (hb : b'.ownBlock = b.ownBlock ∨ b'.ownBlock = some w.heap.size) : AP a b' := by
  unfold AP at *
  rcases h with h | h
  · exact .inl h
  · rcases hb with hb | hb
    · rw [hb]; exact .inr h
    · cases e : a.ownBlock with
      | none => exact .inl rfl
      | some g =>
        refine .inr fun h' => ?_
        rw [hb] at h'
        injection h' with h'
        have := (ha.lt g e).2
        omega
theorem wpList_append_h (w : World) {T ST : TypeId} {z : Value} {sz bt : Nat} (hu : Tryz.prog.underlying ST = some (.slice T)) (hinf : (Tryz.prog.info? T).map (fun i => (i.zero, i.size, i.bytes)) = some (some z, sz, bt)) (hzs : z.cells.size = sz) (hsz : 0 < sz)
    {ops : Array Oper} {rest : List Oper} {o : Oper} {a : Act} {Q : Exit → Act → World → Prop} (hgd : o.guard = none) (s x : Operand)
    (ho : o.op = .call { callee := .builtin .append, args := #[s, x], argTypes := #[ST, ST] })
    (B : Nat) (v : Value) (n : Nat) (xs : List Value) (hs : a.eval s = v) (hown : w.ownsRow B T sz v n xs) (hb : B ≤ w.heap.size)
    (g m c : Nat) (news : List Value) (hx : a.eval x = .slice (some ⟨g, 0, none⟩) m c) (hl : news.length = m * sz) (hc : ∀ j u, news[j]? = some u → w.cell? ⟨g, j, none⟩ = some u) (h1 : ∀ u ∈ news, u.oneCell' = true) (hn : n + m ≤ 140737488355328) (hn2 : (n + m) * bt ≤ 140737488355328)
    (h : ∀ v' w', w'.ownsRow B T sz v' (n + m) (xs ++ news) → w.grownBy w' v.ownBlock → (v'.ownBlock = v.ownBlock ∨ v'.ownBlock = some w.heap.size) → wpList Tryz.prog ops Q rest (a.put o.dst v') w') : wpList Tryz.prog ops Q (o :: rest) a w := by
  obtain ⟨i0, hi, hz0, hz1, hz2⟩ := info_partsD hinf
  refine wpList_append_own_at w hgd s x ST ho B T i0 z sz bt hu hi hz0 hz1 hz2 hzs hsz v n xs hs hown ⟨g, 0, none⟩ m c news hx hl ?_ h1 (by unfold maxLen; omega) hn2 hb (fun v' w' h1 h2 _ h4 => h v' w' h1 h2 h4)
  intro j u hj
  rw [Addr.add_lit, Nat.zero_add]
  exact hc j u hj
theorem info_trC : (Tryz.prog.info? 47).map (fun i => (i.zero, i.size, i.bytes)) = some (some (.agg #[.int .i64 0, .int .i64 0, .int .i64 0, .float .f64 0, .float .f64 0, .int .i64 0, .int .i64 0, .int .i64 0, .int .i64 0, .int .i64 0, .int .i64 0]), 11, 88) := info_trm
theorem step_append_h {T ST : TypeId} {z : Value} {sz bt : Nat} (hu : Tryz.prog.underlying ST = some (.slice T)) (hinf : (Tryz.prog.info? T).map (fun i => (i.zero, i.size, i.bytes)) = some (some z, sz, bt)) (hzs : z.cells.size = sz) (hsz : 0 < sz)
    {ops : Array Oper} {o : Oper} {a : Act} {w : World} {K : Act → World → Prop} {Q : Exit → Act → World → Prop} {E : Prop} (hgd : o.guard = none) (s x : Operand)
    (ho : o.op = .call { callee := .builtin .append, args := #[s, x], argTypes := #[ST, ST] })
    (B : Nat) (v : Value) (n : Nat) (xs : List Value) (hs : a.eval s = v) (hown : w.ownsRow B T sz v n xs) (hb : B ≤ w.heap.size)
    (g m c : Nat) (news : List Value) (hx : a.eval x = .slice (some ⟨g, 0, none⟩) m c) (hl : news.length = m * sz) (hc : ∀ j u, news[j]? = some u → w.cell? ⟨g, j, none⟩ = some u) (h1 : ∀ u ∈ news, u.oneCell' = true) (hn : n + m ≤ 140737488355328) (hn2 : (n + m) * bt ≤ 140737488355328)
    (h : ∀ v' w', w'.ownsRow B T sz v' (n + m) (xs ++ news) → w.grownBy w' v.ownBlock → (v'.ownBlock = v.ownBlock ∨ v'.ownBlock = some w.heap.size) → K (a.put o.dst v') w') :
    if Region.wanted o (yielded ops a.tmps) = true then Oper.wp Tryz.prog o a w K Q else E := by
  have hw : Region.wanted o (yielded ops a.tmps) = true := by simp [Region.wanted, hgd]
  rw [if_pos hw]
  obtain ⟨i0, hi, hz0, hz1, hz2⟩ := info_partsD hinf
  obtain ⟨v', w', hr, h2, h3, _, h4⟩ := run_append_own_at (P := Tryz.prog) w B ST o.type T i0 z sz bt hu hi hz0 hz1 hz2 hzs hsz v n xs hown ⟨g, 0, none⟩ m c news hl (fun j u hj => by rw [Addr.add_lit, Nat.zero_add]; exact hc j u hj) h1 (by unfold maxLen; omega) hn2 hb
  unfold Oper.wp execOp
  simp only [ho, resolve, invoke, builtin, Sem.run_bind, Sem.run_pure, Result.andThen_ok, List.map_toArray, List.map_cons, List.map_nil, hs, hx, hr]
  exact h v' w' h2 h3 h4
theorem int_last {w : World} {B : Nat} {v : Value} {ms : List Int} {x : Int} (h : w.ownsRow B 3 1 v (ms ++ [x]).length (rowV inC (ms ++ [x]))) : ∃ g c, v = .slice (some ⟨g, 0, none⟩) (ms.length + 1) c ∧ ms.length + 1 ≤ c ∧ g < w.heap.size ∧ w.cell? ⟨g, ms.length, none⟩ = some (.int .i64 x) ∧ w.frozen? ⟨g, ms.length, none⟩ = false ∧ w.ownsRow B 3 1 (.slice (some ⟨g, 0, none⟩) ms.length c) ms.length (rowV inC ms) ∧ ∀ p, (w.setCell ⟨g, ms.length, none⟩ (.int .i64 p)).ownsRow B 3 1 (.slice (some ⟨g, 0, none⟩) (ms.length + 1) c) (ms ++ [p]).length (rowV inC (ms ++ [p])) ∧ w.grownBy (w.setCell ⟨g, ms.length, none⟩ (.int .i64 p)) (some g) := by
  obtain ⟨p, c, g, hv, hc, _, hp, _, hb, hcl, htk⟩ := orow_src h
  have hl : (ms ++ [x]).length = ms.length + 1 := by simp
  rw [hl] at hv hc hp hcl htk h
  have e := hp (by omega)
  subst e
  subst hv
  refine ⟨g, c, rfl, hc, (hb _ rfl).2.2, ?_, h.frozenAt _, ?_, fun p => ?_⟩
  · rw [hcl _ (by omega)]
    have := rowV_get inC_size 0 (ms ++ [x]) ms.length 0 (by simp) (by decide)
    rw [Nat.mul_one, Nat.add_zero] at this
    rw [this]; simp [List.getD, inC]
  · have := htk ms.length (by omega)
    rw [← rowV_take inC_size, List.take_left] at this
    exact this
  · have := h.stored ms.length (.int .i64 p)
    have e : (rowV inC (ms ++ [x])).set ms.length (.int .i64 p) = rowV inC (ms ++ [p]) := by
      have hq : (rowV inC ms).length = ms.length := by rw [rowV_len inC_size, Nat.mul_one]
      rw [rowV_append, rowV_append, List.set_append_right _ _ (by rw [hq]; exact Nat.le_refl _), hq, Nat.sub_self]
      rfl
    rw [e] at this
    rw [show (ms ++ [p]).length = ms.length + 1 by simp]
    exact this
theorem below_drewNm {B : Nat} {w w2 : World} {n : Nat} (hb : Below B w w2) : Below B w (w2.drewN n) := ⟨hb.os, hb.tape, hb.output, hb.size, hb.block⟩
end Go.Proofs.YtiiajhomdpfafaaGreatDoor
