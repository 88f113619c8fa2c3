/- Package deal: rows of terms of one's own. Package deal: a tree is measured, where it may be. Package deal: the stack with a term in its parts' stead, whatever the parts are. Package deal: whether a term's fields may be, whatever they are. Package deal: (kind).fits of any kind and term. Rows of one's own, whatever their elements. -/
import Derived.Test.YtiiajhomdpfafaaGreatDoorHay
import Derived.Laws.AppendOwnNone
import Derived.Test.YtiiajhomdpfafaaGreatDoorHau
namespace Go.Proofs.YtiiajhomdpfafaaGreatDoor
open Go.RowKit

def rowT : List Trm → List Value
  | [] => []
  | t :: l => (trC t).toList ++ rowT l
theorem rowT_len : ∀ l : List Trm, (rowT l).length = l.length * 11
  | [] => rfl
  | t :: l => by rw [rowT, List.length_append, rowT_len l, List.length_cons]; show 11 + _ = _; omega
theorem rowT_append : ∀ a b : List Trm, rowT (a ++ b) = rowT a ++ rowT b
  | [], _ => rfl
  | t :: a, b => by rw [List.cons_append, rowT, rowT, rowT_append a b, List.append_assoc]
theorem rowT_one : ∀ (l : List Trm), ∀ u ∈ rowT l, u.oneCell' = true
  | [], u, h => by cases h
  | t :: l, u, h => by
    rw [rowT, List.mem_append] at h
    rcases h with h | h
    · simp only [trC, List.mem_cons, List.not_mem_nil, or_false] at h
      rcases h with rfl | rfl | rfl | rfl | rfl | rfl | rfl | rfl | rfl | rfl | rfl <;> rfl
    · exact rowT_one l u h
theorem info_trm : (Tryz.prog.info? 47).map (fun i => (i.zero, i.size, i.bytes)) = some (some (.agg #[.int .i64 0, .int .i64 0, .int .i64 0, .float .f64 0, .float .f64 0, .int .i64 0, .int .i64 0, .int .i64 0, .int .i64 0, .int .i64 0, .int .i64 0]), 11, 88) := by kernel_rfl
theorem info_partsD {t : TypeId} {z : Value} {sz by_ : Nat} (h : (Tryz.prog.info? t).map (fun i => (i.zero, i.size, i.bytes)) = some (some z, sz, by_)) : ∃ i, Tryz.prog.info? t = some i ∧ i.zero = some z ∧ i.size = sz ∧ i.bytes = by_ := by
  cases hi : Tryz.prog.info? t with
  | none => rw [hi] at h; cases h
  | some i =>
    rw [hi] at h
    have h' := Option.some.inj h
    exact ⟨i, rfl, (Prod.ext_iff.1 h').1, (Prod.ext_iff.1 (Prod.ext_iff.1 h').2).1, (Prod.ext_iff.1 (Prod.ext_iff.1 h').2).2⟩
def OwnT (B : Nat) (v : Value) (ts : List Trm) (w : World) : Prop := w.ownsRow B 47 11 v ts.length (rowT ts)
theorem ownT_nil (B : Nat) (w : World) : OwnT B (.slice none 0 0) [] w := ⟨rfl, .inl ⟨rfl, rfl⟩⟩
theorem OwnT.shape {B : Nat} {v : Value} {ts : List Trm} {w : World} (h : OwnT B v ts w) : (v = .slice none 0 0 ∧ ts = []) ∨ ∃ g c, v = .slice (some ⟨g, 0, none⟩) ts.length c ∧ B ≤ g ∧ ∃ cur, w.heap[g]? = some (.cells cur 47) := by
  rcases h.2 with ⟨rfl, hn⟩ | ⟨g, cap, cur, rfl, hg, hgg, _⟩
  · exact Or.inl ⟨rfl, List.length_eq_zero_iff.1 hn⟩
  · exact Or.inr ⟨g, cap, rfl, hg, cur, hgg⟩
theorem OwnT.full {B : Nat} {v : Value} {ts : List Trm} {w : World} (h : OwnT B v ts w) (hn : ts ≠ []) : ∃ g c, v = .slice (some ⟨g, 0, none⟩) ts.length c := by
  rcases h.shape with ⟨_, h⟩ | ⟨g, c, h, _⟩
  · exact absurd h hn
  · exact ⟨g, c, h⟩
theorem OwnT.keep {B : Nat} {v : Value} {ts : List Trm} {w w' : World} (h : OwnT B v ts w) (hb : ∀ g, v.ownBlock = some g → w'.heap[g]? = w.heap[g]?) : OwnT B v ts w' := by
  refine ⟨h.1, ?_⟩
  rcases h.2 with hn | ⟨g, cap, cur, rfl, hg, hgg, rest⟩
  · exact .inl hn
  · exact .inr ⟨g, cap, cur, rfl, hg, by rw [hb g rfl]; exact hgg, rest⟩
theorem OwnT.base {B g n c : Nat} {ts : List Trm} {w : World} (h : OwnT B (.slice (some ⟨g, 0, none⟩) n c) ts w) : B ≤ g := by
  rcases h.shape with ⟨h, _⟩ | ⟨g', c', h, hb, _⟩
  · cases h
  · injection h with h _ _
    injection h with h
    injection h with h _ _
    subst h
    exact hb
theorem OwnT.lower {B B' : Nat} {v : Value} {ts : List Trm} {w : World} (h : OwnT B v ts w) (hB : B' ≤ B) : OwnT B' v ts w := by
  refine ⟨h.1, ?_⟩
  rcases h.2 with hn | ⟨g, cap, cur, e, hg, rest⟩
  · exact .inl hn
  · exact .inr ⟨g, cap, cur, e, Nat.le_trans hB hg, rest⟩
theorem OwnT.below {B : Nat} {v : Value} {ts : List Trm} {w w' : World} (h : OwnT B v ts w) (hb : Below w.heap.size w w') : OwnT B v ts w' := by
  rcases h.shape with ⟨rfl, rfl⟩ | ⟨g, c, rfl, _, cur, hc⟩
  · exact ownT_nil _ _
  · exact h.keep fun k hk => by
      have : g = k := by simpa [Value.ownBlock] using hk
      subst this
      exact hb.block _ (lt_of_blk hc)
end Go.Proofs.YtiiajhomdpfafaaGreatDoor
namespace Go.Proofs.YtiiajhomdpfafaaGreatDoor
open Go.RowKit

def trm0 : Trm := ⟨0, 0, 0, 0, 0, 0, 0, 0, 0, 0, 0⟩
structure TmR (w : World) (g : Nat) (ts : List Trm) : Prop where
  lt : 0 < ts.length → g < w.heap.size
  c0 : ∀ i < ts.length, w.cell? ⟨g, i * 11, none⟩ = some (.int .i64 (ts.getD i trm0).kind)
  c1 : ∀ i < ts.length, w.cell? ⟨g, i * 11 + 1, none⟩ = some (.int .i64 (ts.getD i trm0).a)
  c2 : ∀ i < ts.length, w.cell? ⟨g, i * 11 + 2, none⟩ = some (.int .i64 (ts.getD i trm0).b)
  c3 : ∀ i < ts.length, w.cell? ⟨g, i * 11 + 3, none⟩ = some (.float .f64 (ts.getD i trm0).x)
  c4 : ∀ i < ts.length, w.cell? ⟨g, i * 11 + 4, none⟩ = some (.float .f64 (ts.getD i trm0).y)
  c5 : ∀ i < ts.length, w.cell? ⟨g, i * 11 + 5, none⟩ = some (.int .i64 (ts.getD i trm0).day)
  c6 : ∀ i < ts.length, w.cell? ⟨g, i * 11 + 6, none⟩ = some (.int .i64 (ts.getD i trm0).to)
  c7 : ∀ i < ts.length, w.cell? ⟨g, i * 11 + 7, none⟩ = some (.int .i64 (ts.getD i trm0).cur)
  c8 : ∀ i < ts.length, w.cell? ⟨g, i * 11 + 8, none⟩ = some (.int .i64 (ts.getD i trm0).count)
  c9 : ∀ i < ts.length, w.cell? ⟨g, i * 11 + 9, none⟩ = some (.int .i64 (ts.getD i trm0).n)
  c10 : ∀ i < ts.length, w.cell? ⟨g, i * 11 + 10, none⟩ = some (.int .i64 (ts.getD i trm0).months)
theorem TmR.below {w w' : World} {g : Nat} {ts : List Trm} (h : TmR w g ts) (hb : Below w.heap.size w w') : TmR w' g ts := by
  have k : ∀ i, i < ts.length → ∀ j, w'.cell? ⟨g, j, none⟩ = w.cell? ⟨g, j, none⟩ := fun i hi j => World.cell?_of_block (w := w) (a := ⟨g, j, none⟩) (hb.block g (h.lt (by omega)))
  exact ⟨fun hn => Nat.lt_of_lt_of_le (h.lt hn) hb.size, fun i hi => (k i hi _).trans (h.c0 i hi), fun i hi => (k i hi _).trans (h.c1 i hi), fun i hi => (k i hi _).trans (h.c2 i hi), fun i hi => (k i hi _).trans (h.c3 i hi), fun i hi => (k i hi _).trans (h.c4 i hi), fun i hi => (k i hi _).trans (h.c5 i hi), fun i hi => (k i hi _).trans (h.c6 i hi), fun i hi => (k i hi _).trans (h.c7 i hi), fun i hi => (k i hi _).trans (h.c8 i hi), fun i hi => (k i hi _).trans (h.c9 i hi), fun i hi => (k i hi _).trans (h.c10 i hi)⟩
theorem rowT_get : ∀ (l : List Trm) (i j : Nat), i < l.length → j < 11 → (rowT l)[i * 11 + j]? = (trC (l.getD i trm0))[j]?
  | [], i, j, h, _ => by simp at h
  | t :: l, 0, j, _, hj => by
    rw [rowT, Nat.zero_mul, Nat.zero_add, List.getElem?_append_left (by show j < 11; exact hj), Array.getElem?_toList]; rfl
  | t :: l, i + 1, j, h, hj => by
    rw [rowT, List.getElem?_append_right (by show 11 ≤ _; omega), show (i + 1) * 11 + j - (trC t).toList.length = i * 11 + j by show _ - 11 = _; omega, rowT_get l i j (by simpa using h) hj]
    rfl
theorem OwnT.read {B g n c : Nat} {ts : List Trm} {w : World} (h : OwnT B (.slice (some ⟨g, 0, none⟩) n c) ts w) : TmR w g ts := by
  have hn : n = ts.length := by
    rcases h.shape with ⟨h, _⟩ | ⟨_, _, h, _⟩
    · cases h
    · injection h
  subst hn
  have hlt : g < w.heap.size := by
    rcases h.shape with ⟨h, _⟩ | ⟨g', c', h, _, cur, hc⟩
    · cases h
    · injection h with h _ _
      injection h with h
      injection h with h _ _
      subst h
      exact lt_of_blk hc
  have key : ∀ i < ts.length, ∀ j < 11, w.cell? ⟨g, i * 11 + j, none⟩ = (trC (ts.getD i trm0))[j]? := fun i hi j hj => by
    rw [← rowT_get ts i j hi hj]
    exact World.ownsRow.cellAt h (i * 11 + j) (by omega)
  exact ⟨fun _ => hlt, fun i hi => key i hi 0 (by omega), fun i hi => key i hi 1 (by omega), fun i hi => key i hi 2 (by omega), fun i hi => key i hi 3 (by omega), fun i hi => key i hi 4 (by omega), fun i hi => key i hi 5 (by omega), fun i hi => key i hi 6 (by omega), fun i hi => key i hi 7 (by omega), fun i hi => key i hi 8 (by omega), fun i hi => key i hi 9 (by omega), fun i hi => key i hi 10 (by omega)⟩
theorem kd_num {j : Nat} (h : j < 8) : (kdG j).num = (j : Int) + 1 := by
  rcases (show j = 0 ∨ j = 1 ∨ j = 2 ∨ j = 3 ∨ j = 4 ∨ j = 5 ∨ j = 6 ∨ j = 7 by omega) with rfl | rfl | rfl | rfl | rfl | rfl | rfl | rfl <;> rfl
theorem fnd_num {u : Nat → Value} {v : Value} {ix : Nat} (hix : ix < 8) (h : fndV u (fun i => (kdG i).num == ((ix : Int) + 1)) v) : v = .tuple #[kV (kdG ix) (u ix), .bool true] := by
  rcases h with ⟨hn, _⟩ | ⟨i, hi, h1, h2, rfl⟩
  · have := hn ix hix
    simp only [kd_num hix, beq_self_eq_true] at this
    cases this
  · have h1' : (kdG i).num = (ix : Int) + 1 := by simpa using h1
    rw [kd_num hi] at h1'
    have : i = ix := by omega
    rw [this]
end Go.Proofs.YtiiajhomdpfafaaGreatDoor
namespace Go.Proofs.YtiiajhomdpfafaaGreatDoor
open Go.RowKit

def jnL (xs : List (Int × Int)) (pl : Int) (m : Nat) (a b : Int) : Option (List (Int × Int)) :=
  if m = 0 then some (xs ++ [(pl, 1)])
  else if m = 1 then
    if xs.length < 1 then none
    else if (xs.getD (xs.length - 1) (0, 0)).1 = a then some (xs.take (xs.length - 1) ++ [(pl, max 0 (xs.getD (xs.length - 1) (0, 0)).2 + 1)]) else none
  else
    if xs.length < 2 then none
    else if (xs.getD (xs.length - 2) (0, 0)).1 = a ∧ (xs.getD (xs.length - 1) (0, 0)).1 = b then some (xs.take (xs.length - 2) ++ [(pl, max (max 0 (xs.getD (xs.length - 2) (0, 0)).2) (xs.getD (xs.length - 1) (0, 0)).2 + 1)]) else none
inductive JnR (B : Nat) (o : Option (List (Int × Int))) (w' : World) : Ending → Prop
  | yes (v' : Value) (ys : List (Int × Int)) : o = some ys → OwnL B v' ys w' → JnR B o w' (.returned (.tuple #[v', .bool true]))
  | no : o = none → JnR B o w' (.returned (.tuple #[.slice none 0 0, .bool false]))
set_option maxRecDepth 20000 in
set_option maxHeartbeats 6400000 in
theorem joined_few (v : Value) (B : Nat) (xs : List (Int × Int)) (m : Nat) (pl : Int) (pg : Nat) (w : World) (ho : OwnL B v xs w) (hm : m ≤ 2) (hlt : xs.length < m) :
    Calls Tryz.prog 31 #[v, .int .i64 pl, .slice (some ⟨pg, 0, none⟩) m 2] w fun e w' => e = .returned (.tuple #[.slice none 0 0, .bool false]) ∧ w' = w := by
  obtain ⟨p, c, g, rfl, hc, hp, hn, hpg, _, htk⟩ := ho.src
  obtain ⟨N, hN⟩ : ∃ N, xs.length = N := ⟨_, rfl⟩
  rw [hN] at hlt hc ⊢
  clear hp hn hpg htk ho hN
  have i1 : (N : Int) - (m : Int) < 0 := by omega
  have i2 : (m : Int) ≤ 2 := by omega
  have i3 : (N : Int) ≤ 2 := by omega
  go_enter Tryz.func31, Tryz.ntmps31
  go_wp2_with fail
  go_ret2
  exact ⟨rfl, rfl⟩
set_option maxRecDepth 20000 in
set_option maxHeartbeats 6400000 in
theorem joined_1x (B : Nat) (v : Value) (xs : List (Int × Int)) (x : Int × Int) (pl a b : Int) (pg : Nat) (w : World) (ho : OwnL B v (xs ++ [x]) w) (hB : B ≤ w.heap.size) (hlen : xs.length ≤ 2000) (hp : PtsB w pg a b) (hx0 : 0 ≤ x.2) (hx1 : x.2 ≤ 2000) :
    Calls Tryz.prog 31 #[v, .int .i64 pl, .slice (some ⟨pg, 0, none⟩) 1 2] w fun e w' => JnR B (if x.1 = a then some (xs ++ [(pl, x.2 + 1)]) else none) w' e ∧ Below B w w' := by
  by_cases hx : x.1 = a
  · subst hx
    rw [if_pos rfl]
    exact (joined_1 B v xs x pl b pg w ho hB hlen hp hx0 hx1).mono fun e w' ⟨v', he, ho', hb⟩ => ⟨by rw [he]; exact .yes _ _ rfl ho', hb⟩
  rw [if_neg hx]
  obtain ⟨p, c, g, rfl, hc, hpp, hn, hpg, hcl, htk⟩ := ho.src
  have hl : (xs ++ [x]).length = xs.length + 1 := by simp
  rw [hl] at hc hpp hcl htk ⊢
  obtain rfl := hpp (by omega)
  obtain ⟨c0, c1⟩ := hcl xs.length (by omega)
  have hgx : (xs ++ [x]).getD xs.length (0, 0) = x := by simp [List.getD]
  rw [hgx] at c0 c1
  obtain ⟨N, hN⟩ : ∃ N, xs.length = N := ⟨_, rfl⟩
  rw [hN] at hlen hc c0 c1 ⊢
  have p0 := hp.c0
  obtain ⟨xa, hxa⟩ : ∃ xa, x.1 = xa := ⟨_, rfl⟩
  rw [hxa] at c0 hx
  have x1 : (xa == a) = false := beq_eq_false_iff_ne.2 hx
  have x2 : (xa != a) = true := bne_iff_ne.2 hx
  have i0 : (((N + 1 : Nat) : Int) - 1) = (N : Int) := by omega
  have i1 : ¬ (N : Int) < 0 := by omega
  have i2 : (0 : Int) ≤ (N : Int) := by omega
  have i3 : (N : Int) ≤ (c : Int) := by omega
  have i4 : ¬ (c : Int) < (N : Int) := by omega
  have i5 : (N : Int) < ((N + 1 : Nat) : Int) := by omega
  have i7 : (N : Int) < (N : Int) + 1 := by omega
  have HB0 := hidD (Below.refl B w)
  clear hN ho hn hpg htk hB hl hcl hgx hxa hp hx hx0 hx1
  go_enter Tryz.func31, Tryz.ntmps31
  go_wp2_with fail
  refine wp_loop_rounds 1 ?_
  rw [rounds_succ]
  go_wp2_with fail
  go_ret2
  exact ⟨.no rfl, HB0.out⟩
set_option maxRecDepth 20000 in
set_option maxHeartbeats 12800000 in
theorem joined_2x (B : Nat) (v : Value) (xs : List (Int × Int)) (x y : Int × Int) (pl a b : Int) (pg : Nat) (w : World) (ho : OwnL B v (xs ++ [x, y]) w) (hB : B ≤ w.heap.size) (hlen : xs.length ≤ 2000) (hp : PtsB w pg a b) (hx0 : 0 ≤ x.2) (hx1 : x.2 ≤ 2000) (hy0 : 0 ≤ y.2) (hy1 : y.2 ≤ 2000) :
    Calls Tryz.prog 31 #[v, .int .i64 pl, .slice (some ⟨pg, 0, none⟩) 2 2] w fun e w' => JnR B (if x.1 = a ∧ y.1 = b then some (xs ++ [(pl, max (max 0 x.2) y.2 + 1)]) else none) w' e ∧ Below B w w' := by
  obtain ⟨p, c, g, rfl, hc, hpp, hn, hpg, hcl, htk⟩ := ho.src
  have hl : (xs ++ [x, y]).length = xs.length + 2 := by simp
  rw [hl] at hc hpp hcl htk ⊢
  obtain rfl := hpp (by omega)
  have HO := hidD (htk xs.length (by omega))
  rw [List.take_left] at HO
  obtain ⟨c0, c1⟩ := hcl xs.length (by omega)
  obtain ⟨e0, e1⟩ := hcl (xs.length + 1) (by omega)
  have hgx : (xs ++ [x, y]).getD xs.length (0, 0) = x := by simp [List.getD]
  have hgy : (xs ++ [x, y]).getD (xs.length + 1) (0, 0) = y := by simp [List.getD]
  rw [hgx] at c0 c1
  rw [hgy] at e0 e1
  obtain ⟨N, hN⟩ : ∃ N, xs.length = N := ⟨_, rfl⟩
  have HN := hidD hN
  rw [hN] at hlen hc HO c0 c1 e0 e1 ⊢
  have HS := hidD hB
  have p0 := hp.c0
  have p1 := hp.c1
  obtain ⟨xa, xd⟩ := x
  obtain ⟨ya, yd⟩ := y
  dsimp only at *
  have i0 : (((N + 2 : Nat) : Int) - 2) = (N : Int) := by omega
  have i1 : ¬ (N : Int) < 0 := by omega
  have i2 : (0 : Int) ≤ (N : Int) := by omega
  have i3 : (N : Int) ≤ (c : Int) := by omega
  have i4 : ¬ (c : Int) < (N : Int) := by omega
  have i5 : (N : Int) < ((N + 2 : Nat) : Int) := by omega
  have i6 : max 0 xd = xd := by omega
  have i7 : (N : Int) < (N : Int) + 2 := by omega
  have i8 : (N : Int) + 1 < (N : Int) + 2 := by omega
  have i9 : (0 : Int) ≤ (N : Int) + 1 := by omega
  have i10 : ((N : Int) + 1).toNat = N + 1 := by omega
  have HB0 := hidD (Below.refl B w)
  obtain ⟨mx, hmx⟩ : ∃ mx, max xd yd = mx := ⟨_, rfl⟩
  have hm0 : 0 ≤ mx := by omega
  have hm1 : mx ≤ 2000 := by omega
  rw [i6, hmx]
  clear hN ho hn hpg htk hB hl hcl hgx hgy hp
  by_cases hx : xa = a
  · subst hx
    by_cases hy : ya = b
    · subst hy
      rw [if_pos ⟨rfl, rfl⟩]
      go_enter Tryz.func31, Tryz.ntmps31
      go_wp2_with fail
      refine wp_loop_rounds 3 ?_
      rw [rounds_succ]
      go_wp2_with fail
      rw [rounds_succ]
      go_wp2_with fail
      rw [rounds_succ]
      go_wp2_with (at_builtin; refine wpList_append_loo _ rfl (.tmp 47) (.tmp 52) rfl B (.slice (some ⟨g, 0, none⟩) N c) N xs rfl HN.out (HO.out.below (al_bel _ _)) w.heap.size 1 (pl, mx + 1) rfl (by simp) (by simp) (by omega) (Nat.le_trans HS.out (by simp)) ?_; intro v5 w5 ho5 hb5; have HO5 := hidD ho5; have HB5 := hidD (((Below.refl B w).alloc HS.out _).trans hb5); clear ho5 hb5)
      go_ret2
      exact ⟨.yes _ _ rfl HO5.out, HB5.out⟩
    · rw [if_neg (fun h => hy h.2)]
      have x1 : (ya == b) = false := beq_eq_false_iff_ne.2 hy
      have x2 : (ya != b) = true := bne_iff_ne.2 hy
      clear hy
      go_enter Tryz.func31, Tryz.ntmps31
      go_wp2_with fail
      refine wp_loop_rounds 2 ?_
      rw [rounds_succ]
      go_wp2_with fail
      rw [rounds_succ]
      go_wp2_with fail
      go_ret2
      exact ⟨.no rfl, HB0.out⟩
  · rw [if_neg (fun h => hx h.1)]
    have x1 : (xa == a) = false := beq_eq_false_iff_ne.2 hx
    have x2 : (xa != a) = true := bne_iff_ne.2 hx
    clear hx
    go_enter Tryz.func31, Tryz.ntmps31
    go_wp2_with fail
    refine wp_loop_rounds 1 ?_
    rw [rounds_succ]
    go_wp2_with fail
    go_ret2
    exact ⟨.no rfl, HB0.out⟩
def SmL (xs : List (Int × Int)) : Prop := xs.length ≤ 2000 ∧ ∀ x ∈ xs, 0 ≤ x.2 ∧ x.2 ≤ 2000
theorem list_last {α : Type} : ∀ (xs : List α), 1 ≤ xs.length → ∃ r x, xs = r ++ [x]
  | xs, h => ⟨xs.dropLast, xs.getLast (by intro e; subst e; simp at h), (List.dropLast_concat_getLast _).symm⟩
theorem joined_any (B : Nat) (v : Value) (xs : List (Int × Int)) (pl a b : Int) (m pg : Nat) (w : World) (ho : OwnL B v xs w) (hB : B ≤ w.heap.size) (hs : SmL xs) (hm : m ≤ 2) (hp : PtsB w pg a b) :
    Calls Tryz.prog 31 #[v, .int .i64 pl, .slice (some ⟨pg, 0, none⟩) m 2] w fun e w' => JnR B (jnL xs pl m a b) w' e ∧ Below B w w' := by
  by_cases hlt : xs.length < m
  · have e : jnL xs pl m a b = none := by
      unfold jnL
      rw [if_neg (by omega)]
      by_cases h1 : m = 1
      · rw [if_pos h1, if_pos (by omega)]
      · rw [if_neg h1, if_pos (by omega)]
    rw [e]
    exact (joined_few v B xs m pl pg w ho hm hlt).mono fun e w' ⟨he, hw⟩ => by subst he hw; exact ⟨.no rfl, Below.refl _ _⟩
  rcases (show m = 0 ∨ m = 1 ∨ m = 2 by omega) with rfl | rfl | rfl
  · have e : jnL xs pl 0 a b = some (xs ++ [(pl, 1)]) := rfl
    rw [e]
    exact (joined_0 B v xs pl pg w ho hB hs.1).mono fun e w' ⟨v', he, ho', hb⟩ => ⟨by rw [he]; exact .yes _ _ rfl ho', hb⟩
  · obtain ⟨r, x, rfl⟩ := list_last xs (by omega)
    have hr : r.length ≤ 2000 := by have := hs.1; simp at this; omega
    obtain ⟨h0, h1⟩ := hs.2 x (by simp)
    have e : jnL (r ++ [x]) pl 1 a b = if x.1 = a then some (r ++ [(pl, x.2 + 1)]) else none := by
      unfold jnL
      rw [if_neg (by decide), if_pos rfl, if_neg (by simp), List.length_append, List.length_singleton, Nat.add_sub_cancel, List.take_left]
      have : (r ++ [x]).getD r.length (0, 0) = x := by simp [List.getD]
      rw [this, show max 0 x.2 = x.2 by omega]
    rw [e]
    exact joined_1x B v r x pl a b pg w ho hB hr hp h0 h1
  · obtain ⟨r', y, rfl⟩ := list_last xs (by omega)
    obtain ⟨r, x, rfl⟩ := list_last r' (by simp at hlt; omega)
    have e3 : r ++ [x] ++ [y] = r ++ [x, y] := by simp
    rw [e3] at ho hs ⊢
    have hr : r.length ≤ 2000 := by have := hs.1; simp at this; omega
    obtain ⟨h0, h1⟩ := hs.2 x (by simp)
    obtain ⟨h2, h3⟩ := hs.2 y (by simp)
    have e : jnL (r ++ [x, y]) pl 2 a b = if x.1 = a ∧ y.1 = b then some (r ++ [(pl, max (max 0 x.2) y.2 + 1)]) else none := by
      unfold jnL
      have l2 : (r ++ [x, y]).length = r.length + 2 := by simp
      rw [if_neg (by decide), if_neg (by decide), if_neg (by omega), l2, show r.length + 2 - 2 = r.length by omega, show r.length + 2 - 1 = r.length + 1 by omega, List.take_left]
      have g1 : (r ++ [x, y]).getD r.length (0, 0) = x := by simp [List.getD]
      have g2 : (r ++ [x, y]).getD (r.length + 1) (0, 0) = y := by simp [List.getD]
      rw [g1, g2]
    rw [e]
    exact joined_2x B v r x y pl a b pg w ho hB hr hp h0 h1 h2 h3
end Go.Proofs.YtiiajhomdpfafaaGreatDoor
namespace Go.Proofs.YtiiajhomdpfafaaGreatDoor
open Go.RowKit

theorem tq_h1 : Tryz.prog.stoodInHeld 47 = false := by kernel_rfl
theorem tq_h2 : Tryz.prog.underlying 47 = some (.struct (Tryz.prog.fieldsOf 47)) := by kernel_rfl
theorem tq_hf : (Tryz.prog.fieldsOf 47).toList = [(Tryz.prog.fieldsOf 47)[0]!, (Tryz.prog.fieldsOf 47)[1]!, (Tryz.prog.fieldsOf 47)[2]!, (Tryz.prog.fieldsOf 47)[3]!, (Tryz.prog.fieldsOf 47)[4]!, (Tryz.prog.fieldsOf 47)[5]!, (Tryz.prog.fieldsOf 47)[6]!, (Tryz.prog.fieldsOf 47)[7]!, (Tryz.prog.fieldsOf 47)[8]!, (Tryz.prog.fieldsOf 47)[9]!, (Tryz.prog.fieldsOf 47)[10]!] := by kernel_rfl
theorem tq_n0 : ((Tryz.prog.fieldsOf 47)[0]!.name != "_") = true := by kernel_rfl
theorem tq_t0 : (Tryz.prog.fieldsOf 47)[0]!.type = 3 := by kernel_rfl
theorem tq_p0 (p0 : Int) (p1 : Int) (p2 : Int) (p3 : Nat) (p4 : Nat) (p5 : Int) (p6 : Int) (p7 : Int) (p8 : Int) (p9 : Int) (p10 : Int) (w : World) : (part (Tryz.prog.fieldsOf 47)[0]!.type #[.int .i64 p0, .int .i64 p1, .int .i64 p2, .float .f64 p3, .float .f64 p4, .int .i64 p5, .int .i64 p6, .int .i64 p7, .int .i64 p8, .int .i64 p9, .int .i64 p10] (Tryz.prog.fieldsOf 47)[0]!.offset).run Tryz.prog w = .ok (.int .i64 p0) w := by kernel_rfl
theorem tq_e0 (a b : Int) (w : World) : (Op.equalIn 9999 (Tryz.prog.fieldsOf 47)[0]!.type (.int .i64 a) (.int .i64 b)).run Tryz.prog w = .ok (a == b) w := by
  rw [show (9999 : Nat) = 9998 + 1 from rfl, tq_t0, run_equalIn_int w 9998 3 .i64 .i64 a b (by kernel_rfl)]
theorem tq_n1 : ((Tryz.prog.fieldsOf 47)[1]!.name != "_") = true := by kernel_rfl
theorem tq_t1 : (Tryz.prog.fieldsOf 47)[1]!.type = 3 := by kernel_rfl
theorem tq_p1 (p0 : Int) (p1 : Int) (p2 : Int) (p3 : Nat) (p4 : Nat) (p5 : Int) (p6 : Int) (p7 : Int) (p8 : Int) (p9 : Int) (p10 : Int) (w : World) : (part (Tryz.prog.fieldsOf 47)[1]!.type #[.int .i64 p0, .int .i64 p1, .int .i64 p2, .float .f64 p3, .float .f64 p4, .int .i64 p5, .int .i64 p6, .int .i64 p7, .int .i64 p8, .int .i64 p9, .int .i64 p10] (Tryz.prog.fieldsOf 47)[1]!.offset).run Tryz.prog w = .ok (.int .i64 p1) w := by kernel_rfl
theorem tq_e1 (a b : Int) (w : World) : (Op.equalIn 9999 (Tryz.prog.fieldsOf 47)[1]!.type (.int .i64 a) (.int .i64 b)).run Tryz.prog w = .ok (a == b) w := by
  rw [show (9999 : Nat) = 9998 + 1 from rfl, tq_t1, run_equalIn_int w 9998 3 .i64 .i64 a b (by kernel_rfl)]
theorem tq_n2 : ((Tryz.prog.fieldsOf 47)[2]!.name != "_") = true := by kernel_rfl
theorem tq_t2 : (Tryz.prog.fieldsOf 47)[2]!.type = 3 := by kernel_rfl
theorem tq_p2 (p0 : Int) (p1 : Int) (p2 : Int) (p3 : Nat) (p4 : Nat) (p5 : Int) (p6 : Int) (p7 : Int) (p8 : Int) (p9 : Int) (p10 : Int) (w : World) : (part (Tryz.prog.fieldsOf 47)[2]!.type #[.int .i64 p0, .int .i64 p1, .int .i64 p2, .float .f64 p3, .float .f64 p4, .int .i64 p5, .int .i64 p6, .int .i64 p7, .int .i64 p8, .int .i64 p9, .int .i64 p10] (Tryz.prog.fieldsOf 47)[2]!.offset).run Tryz.prog w = .ok (.int .i64 p2) w := by kernel_rfl
theorem tq_e2 (a b : Int) (w : World) : (Op.equalIn 9999 (Tryz.prog.fieldsOf 47)[2]!.type (.int .i64 a) (.int .i64 b)).run Tryz.prog w = .ok (a == b) w := by
  rw [show (9999 : Nat) = 9998 + 1 from rfl, tq_t2, run_equalIn_int w 9998 3 .i64 .i64 a b (by kernel_rfl)]
theorem tq_n3 : ((Tryz.prog.fieldsOf 47)[3]!.name != "_") = true := by kernel_rfl
theorem tq_t3 : (Tryz.prog.fieldsOf 47)[3]!.type = 43 := by kernel_rfl
theorem tq_p3 (p0 : Int) (p1 : Int) (p2 : Int) (p3 : Nat) (p4 : Nat) (p5 : Int) (p6 : Int) (p7 : Int) (p8 : Int) (p9 : Int) (p10 : Int) (w : World) : (part (Tryz.prog.fieldsOf 47)[3]!.type #[.int .i64 p0, .int .i64 p1, .int .i64 p2, .float .f64 p3, .float .f64 p4, .int .i64 p5, .int .i64 p6, .int .i64 p7, .int .i64 p8, .int .i64 p9, .int .i64 p10] (Tryz.prog.fieldsOf 47)[3]!.offset).run Tryz.prog w = .ok (.float .f64 p3) w := by kernel_rfl
theorem tq_e3 (a b : Nat) (w : World) : (Op.equalIn 9999 (Tryz.prog.fieldsOf 47)[3]!.type (.float .f64 a) (.float .f64 b)).run Tryz.prog w = .ok (FloatKind.f64.format.order a b == some .eq) w := by
  rw [tq_t3]; exact eqFlt a b w
theorem tq_n4 : ((Tryz.prog.fieldsOf 47)[4]!.name != "_") = true := by kernel_rfl
theorem tq_t4 : (Tryz.prog.fieldsOf 47)[4]!.type = 43 := by kernel_rfl
theorem tq_p4 (p0 : Int) (p1 : Int) (p2 : Int) (p3 : Nat) (p4 : Nat) (p5 : Int) (p6 : Int) (p7 : Int) (p8 : Int) (p9 : Int) (p10 : Int) (w : World) : (part (Tryz.prog.fieldsOf 47)[4]!.type #[.int .i64 p0, .int .i64 p1, .int .i64 p2, .float .f64 p3, .float .f64 p4, .int .i64 p5, .int .i64 p6, .int .i64 p7, .int .i64 p8, .int .i64 p9, .int .i64 p10] (Tryz.prog.fieldsOf 47)[4]!.offset).run Tryz.prog w = .ok (.float .f64 p4) w := by kernel_rfl
theorem tq_e4 (a b : Nat) (w : World) : (Op.equalIn 9999 (Tryz.prog.fieldsOf 47)[4]!.type (.float .f64 a) (.float .f64 b)).run Tryz.prog w = .ok (FloatKind.f64.format.order a b == some .eq) w := by
  rw [tq_t4]; exact eqFlt a b w
theorem tq_n5 : ((Tryz.prog.fieldsOf 47)[5]!.name != "_") = true := by kernel_rfl
theorem tq_t5 : (Tryz.prog.fieldsOf 47)[5]!.type = 3 := by kernel_rfl
theorem tq_p5 (p0 : Int) (p1 : Int) (p2 : Int) (p3 : Nat) (p4 : Nat) (p5 : Int) (p6 : Int) (p7 : Int) (p8 : Int) (p9 : Int) (p10 : Int) (w : World) : (part (Tryz.prog.fieldsOf 47)[5]!.type #[.int .i64 p0, .int .i64 p1, .int .i64 p2, .float .f64 p3, .float .f64 p4, .int .i64 p5, .int .i64 p6, .int .i64 p7, .int .i64 p8, .int .i64 p9, .int .i64 p10] (Tryz.prog.fieldsOf 47)[5]!.offset).run Tryz.prog w = .ok (.int .i64 p5) w := by kernel_rfl
theorem tq_e5 (a b : Int) (w : World) : (Op.equalIn 9999 (Tryz.prog.fieldsOf 47)[5]!.type (.int .i64 a) (.int .i64 b)).run Tryz.prog w = .ok (a == b) w := by
  rw [show (9999 : Nat) = 9998 + 1 from rfl, tq_t5, run_equalIn_int w 9998 3 .i64 .i64 a b (by kernel_rfl)]
theorem tq_n6 : ((Tryz.prog.fieldsOf 47)[6]!.name != "_") = true := by kernel_rfl
theorem tq_t6 : (Tryz.prog.fieldsOf 47)[6]!.type = 3 := by kernel_rfl
theorem tq_p6 (p0 : Int) (p1 : Int) (p2 : Int) (p3 : Nat) (p4 : Nat) (p5 : Int) (p6 : Int) (p7 : Int) (p8 : Int) (p9 : Int) (p10 : Int) (w : World) : (part (Tryz.prog.fieldsOf 47)[6]!.type #[.int .i64 p0, .int .i64 p1, .int .i64 p2, .float .f64 p3, .float .f64 p4, .int .i64 p5, .int .i64 p6, .int .i64 p7, .int .i64 p8, .int .i64 p9, .int .i64 p10] (Tryz.prog.fieldsOf 47)[6]!.offset).run Tryz.prog w = .ok (.int .i64 p6) w := by kernel_rfl
theorem tq_e6 (a b : Int) (w : World) : (Op.equalIn 9999 (Tryz.prog.fieldsOf 47)[6]!.type (.int .i64 a) (.int .i64 b)).run Tryz.prog w = .ok (a == b) w := by
  rw [show (9999 : Nat) = 9998 + 1 from rfl, tq_t6, run_equalIn_int w 9998 3 .i64 .i64 a b (by kernel_rfl)]
theorem tq_n7 : ((Tryz.prog.fieldsOf 47)[7]!.name != "_") = true := by kernel_rfl
theorem tq_t7 : (Tryz.prog.fieldsOf 47)[7]!.type = 3 := by kernel_rfl
theorem tq_p7 (p0 : Int) (p1 : Int) (p2 : Int) (p3 : Nat) (p4 : Nat) (p5 : Int) (p6 : Int) (p7 : Int) (p8 : Int) (p9 : Int) (p10 : Int) (w : World) : (part (Tryz.prog.fieldsOf 47)[7]!.type #[.int .i64 p0, .int .i64 p1, .int .i64 p2, .float .f64 p3, .float .f64 p4, .int .i64 p5, .int .i64 p6, .int .i64 p7, .int .i64 p8, .int .i64 p9, .int .i64 p10] (Tryz.prog.fieldsOf 47)[7]!.offset).run Tryz.prog w = .ok (.int .i64 p7) w := by kernel_rfl
theorem tq_e7 (a b : Int) (w : World) : (Op.equalIn 9999 (Tryz.prog.fieldsOf 47)[7]!.type (.int .i64 a) (.int .i64 b)).run Tryz.prog w = .ok (a == b) w := by
  rw [show (9999 : Nat) = 9998 + 1 from rfl, tq_t7, run_equalIn_int w 9998 3 .i64 .i64 a b (by kernel_rfl)]
theorem tq_n8 : ((Tryz.prog.fieldsOf 47)[8]!.name != "_") = true := by kernel_rfl
theorem tq_t8 : (Tryz.prog.fieldsOf 47)[8]!.type = 3 := by kernel_rfl
theorem tq_p8 (p0 : Int) (p1 : Int) (p2 : Int) (p3 : Nat) (p4 : Nat) (p5 : Int) (p6 : Int) (p7 : Int) (p8 : Int) (p9 : Int) (p10 : Int) (w : World) : (part (Tryz.prog.fieldsOf 47)[8]!.type #[.int .i64 p0, .int .i64 p1, .int .i64 p2, .float .f64 p3, .float .f64 p4, .int .i64 p5, .int .i64 p6, .int .i64 p7, .int .i64 p8, .int .i64 p9, .int .i64 p10] (Tryz.prog.fieldsOf 47)[8]!.offset).run Tryz.prog w = .ok (.int .i64 p8) w := by kernel_rfl
theorem tq_e8 (a b : Int) (w : World) : (Op.equalIn 9999 (Tryz.prog.fieldsOf 47)[8]!.type (.int .i64 a) (.int .i64 b)).run Tryz.prog w = .ok (a == b) w := by
  rw [show (9999 : Nat) = 9998 + 1 from rfl, tq_t8, run_equalIn_int w 9998 3 .i64 .i64 a b (by kernel_rfl)]
theorem tq_n9 : ((Tryz.prog.fieldsOf 47)[9]!.name != "_") = true := by kernel_rfl
theorem tq_t9 : (Tryz.prog.fieldsOf 47)[9]!.type = 3 := by kernel_rfl
theorem tq_p9 (p0 : Int) (p1 : Int) (p2 : Int) (p3 : Nat) (p4 : Nat) (p5 : Int) (p6 : Int) (p7 : Int) (p8 : Int) (p9 : Int) (p10 : Int) (w : World) : (part (Tryz.prog.fieldsOf 47)[9]!.type #[.int .i64 p0, .int .i64 p1, .int .i64 p2, .float .f64 p3, .float .f64 p4, .int .i64 p5, .int .i64 p6, .int .i64 p7, .int .i64 p8, .int .i64 p9, .int .i64 p10] (Tryz.prog.fieldsOf 47)[9]!.offset).run Tryz.prog w = .ok (.int .i64 p9) w := by kernel_rfl
theorem tq_e9 (a b : Int) (w : World) : (Op.equalIn 9999 (Tryz.prog.fieldsOf 47)[9]!.type (.int .i64 a) (.int .i64 b)).run Tryz.prog w = .ok (a == b) w := by
  rw [show (9999 : Nat) = 9998 + 1 from rfl, tq_t9, run_equalIn_int w 9998 3 .i64 .i64 a b (by kernel_rfl)]
theorem tq_n10 : ((Tryz.prog.fieldsOf 47)[10]!.name != "_") = true := by kernel_rfl
theorem tq_t10 : (Tryz.prog.fieldsOf 47)[10]!.type = 3 := by kernel_rfl
theorem tq_p10 (p0 : Int) (p1 : Int) (p2 : Int) (p3 : Nat) (p4 : Nat) (p5 : Int) (p6 : Int) (p7 : Int) (p8 : Int) (p9 : Int) (p10 : Int) (w : World) : (part (Tryz.prog.fieldsOf 47)[10]!.type #[.int .i64 p0, .int .i64 p1, .int .i64 p2, .float .f64 p3, .float .f64 p4, .int .i64 p5, .int .i64 p6, .int .i64 p7, .int .i64 p8, .int .i64 p9, .int .i64 p10] (Tryz.prog.fieldsOf 47)[10]!.offset).run Tryz.prog w = .ok (.int .i64 p10) w := by kernel_rfl
theorem tq_e10 (a b : Int) (w : World) : (Op.equalIn 9999 (Tryz.prog.fieldsOf 47)[10]!.type (.int .i64 a) (.int .i64 b)).run Tryz.prog w = .ok (a == b) w := by
  rw [show (9999 : Nat) = 9998 + 1 from rfl, tq_t10, run_equalIn_int w 9998 3 .i64 .i64 a b (by kernel_rfl)]
theorem tq_eql (p0 : Int) (p1 : Int) (p2 : Int) (p3 : Nat) (p4 : Nat) (p5 : Int) (p6 : Int) (p7 : Int) (p8 : Int) (p9 : Int) (p10 : Int) (q0 : Int) (q1 : Int) (q2 : Int) (q3 : Nat) (q4 : Nat) (q5 : Int) (q6 : Int) (q7 : Int) (q8 : Int) (q9 : Int) (q10 : Int) (w : World) : (binOp .eql 47 (.agg #[.int .i64 p0, .int .i64 p1, .int .i64 p2, .float .f64 p3, .float .f64 p4, .int .i64 p5, .int .i64 p6, .int .i64 p7, .int .i64 p8, .int .i64 p9, .int .i64 p10]) (.agg #[.int .i64 q0, .int .i64 q1, .int .i64 q2, .float .f64 q3, .float .f64 q4, .int .i64 q5, .int .i64 q6, .int .i64 q7, .int .i64 q8, .int .i64 q9, .int .i64 q10])).run Tryz.prog w = .ok (.bool ((p0 == q0) && ((p1 == q1) && ((p2 == q2) && ((FloatKind.f64.format.order p3 q3 == some .eq) && ((FloatKind.f64.format.order p4 q4 == some .eq) && ((p5 == q5) && ((p6 == q6) && ((p7 == q7) && ((p8 == q8) && ((p9 == q9) && ((p10 == q10) && true)))))))))))) w := by
  rw [run_eql_struct, show (10000 : Nat) = 9999 + 1 from rfl, run_equalIn_agg w 9999 47 _ _ tq_h2 tq_h1, tq_hf, (eqf_cons tq_n0 (tq_p0 p0 p1 p2 p3 p4 p5 p6 p7 p8 p9 p10 w) (tq_p0 q0 q1 q2 q3 q4 q5 q6 q7 q8 q9 q10 w) (tq_e0 p0 q0 w) (eqf_cons tq_n1 (tq_p1 p0 p1 p2 p3 p4 p5 p6 p7 p8 p9 p10 w) (tq_p1 q0 q1 q2 q3 q4 q5 q6 q7 q8 q9 q10 w) (tq_e1 p1 q1 w) (eqf_cons tq_n2 (tq_p2 p0 p1 p2 p3 p4 p5 p6 p7 p8 p9 p10 w) (tq_p2 q0 q1 q2 q3 q4 q5 q6 q7 q8 q9 q10 w) (tq_e2 p2 q2 w) (eqf_cons tq_n3 (tq_p3 p0 p1 p2 p3 p4 p5 p6 p7 p8 p9 p10 w) (tq_p3 q0 q1 q2 q3 q4 q5 q6 q7 q8 q9 q10 w) (tq_e3 p3 q3 w) (eqf_cons tq_n4 (tq_p4 p0 p1 p2 p3 p4 p5 p6 p7 p8 p9 p10 w) (tq_p4 q0 q1 q2 q3 q4 q5 q6 q7 q8 q9 q10 w) (tq_e4 p4 q4 w) (eqf_cons tq_n5 (tq_p5 p0 p1 p2 p3 p4 p5 p6 p7 p8 p9 p10 w) (tq_p5 q0 q1 q2 q3 q4 q5 q6 q7 q8 q9 q10 w) (tq_e5 p5 q5 w) (eqf_cons tq_n6 (tq_p6 p0 p1 p2 p3 p4 p5 p6 p7 p8 p9 p10 w) (tq_p6 q0 q1 q2 q3 q4 q5 q6 q7 q8 q9 q10 w) (tq_e6 p6 q6 w) (eqf_cons tq_n7 (tq_p7 p0 p1 p2 p3 p4 p5 p6 p7 p8 p9 p10 w) (tq_p7 q0 q1 q2 q3 q4 q5 q6 q7 q8 q9 q10 w) (tq_e7 p7 q7 w) (eqf_cons tq_n8 (tq_p8 p0 p1 p2 p3 p4 p5 p6 p7 p8 p9 p10 w) (tq_p8 q0 q1 q2 q3 q4 q5 q6 q7 q8 q9 q10 w) (tq_e8 p8 q8 w) (eqf_cons tq_n9 (tq_p9 p0 p1 p2 p3 p4 p5 p6 p7 p8 p9 p10 w) (tq_p9 q0 q1 q2 q3 q4 q5 q6 q7 q8 q9 q10 w) (tq_e9 p9 q9 w) (eqf_cons tq_n10 (tq_p10 p0 p1 p2 p3 p4 p5 p6 p7 p8 p9 p10 w) (tq_p10 q0 q1 q2 q3 q4 q5 q6 q7 q8 q9 q10 w) (tq_e10 p10 q10 w) eqf_nil)))))))))))]
  rfl

def eqF (p q : Trm) : Bool := ((p.kind == q.kind) && ((p.a == q.a) && ((p.b == q.b) && ((FloatKind.f64.format.order p.x q.x == some .eq) && ((FloatKind.f64.format.order p.y q.y == some .eq) && ((p.day == q.day) && ((p.to == q.to) && ((p.cur == q.cur) && ((p.count == q.count) && ((p.n == q.n) && ((p.months == q.months) && true)))))))))))
theorem eqF_run (p q : Trm) (w : World) : (binOp .eql 47 (.agg (trC p)) (.agg (trC q))).run Tryz.prog w = .ok (.bool (eqF p q)) w := tq_eql p.kind p.a p.b p.x p.y p.day p.to p.cur p.count p.n p.months q.kind q.a q.b q.x q.y q.day q.to q.cur q.count q.n q.months w
def numT (k : Int) : Trm := ⟨k, 0, 0, 0, 0, 0, 0, 0, 0, 0, 0⟩
def restB (r : Trm) (k : Int) : Bool := eqF r (numT k) && ((r.x : Int) == (0 : Int)) && ((r.y : Int) == (0 : Int))
def fitK (k : Kd) (ps : List Nat) (t : Trm) : Bool := (List.range k.ds.length).all (fun j => fdFit (k.ds.getD j fdX) (ps.getD j 0) t) && restB (restT k ps t) k.num
theorem fitK_no {k : Kd} {ps : List Nat} {t : Trm} {j : Nat} (hj : j < k.ds.length) (h : fdFit k.ds[j] (ps.getD j 0) t = false) : fitK k ps t = false := by
  unfold fitK
  have : (List.range k.ds.length).all (fun j => fdFit (k.ds.getD j fdX) (ps.getD j 0) t) = false := by
    rw [List.all_eq_false]
    refine ⟨j, List.mem_range.2 hj, ?_⟩
    have e : k.ds.getD j fdX = k.ds[j] := by simp [List.getD, List.getElem?_eq_getElem hj]
    rw [e, h]; decide
  rw [this, Bool.false_and]
theorem fitK_yes {k : Kd} {ps : List Nat} {t : Trm} (h : ∀ j (hj : j < k.ds.length), fdFit k.ds[j] (ps.getD j 0) t = true) : fitK k ps t = restB (restT k ps t) k.num := by
  unfold fitK
  have : (List.range k.ds.length).all (fun j => fdFit (k.ds.getD j fdX) (ps.getD j 0) t) = true := by
    rw [List.all_eq_true]
    intro j hj
    have hj := List.mem_range.1 hj
    have e : k.ds.getD j fdX = k.ds[j] := by simp [List.getD, List.getElem?_eq_getElem hj]
    rw [e]; exact h j hj
  rw [this, Bool.true_and]
end Go.Proofs.YtiiajhomdpfafaaGreatDoor
namespace Go.Proofs.YtiiajhomdpfafaaGreatDoor
open Go.RowKit

set_option maxRecDepth 20000 in
set_option maxHeartbeats 12800000 in
theorem kFits_any (k : Kd) (u : Value) (ps : List Nat) (t : Trm) (w : World) (hu : TrU t) (hs : SlcAt k.ds u w) (hl : ps.length = k.ds.length) (hp : ∀ j (hj : j < k.ds.length), fdI k.ds[j] (ps.getD j 0)) (h3 : ∀ j < ps.length, 3 ≤ ps.getD j 0 ∧ ps.getD j 0 ≤ 10) (h7 : k.ds.length ≤ 7) :
    Calls Tryz.prog 30 #[kV k u, .agg (trC t)] w fun e w' => e = .returned (.bool (fitK k ps t)) ∧ Below w.heap.size w w' := by
  obtain ⟨p, n, g, rfl, rfl, hg, hc⟩ := flds_cell hs
  have HC := hidD hc
  have HG := hidD hg
  have HH := hidD (And.intro hu (And.intro hl (And.intro hp h3)))
  obtain ⟨RR, hRR⟩ : ∃ RR, fitK k ps t = RR := ⟨_, rfl⟩
  rw [hRR]
  have HR := hidD hRR
  have HB0 := hidD (ftB_at w k (.slice p k.ds.length k.ds.length) t)
  have HEq := hidD (eqF_run (restT k ps t) (numT k.num))
  clear hs hu hl hp h3 hc hg hRR
  unfold kV
  obtain ⟨m, hm⟩ : ∃ m, k.ds.length = m := ⟨_, rfl⟩
  have HM := hidD hm
  rw [hm] at h7 HB0 ⊢
  clear hm
  unfold fnB trC at HB0
  unfold fnB trC
  have hst := store_fltD
  go_enter Tryz.func30, Tryz.ntmps30
  go_wp2_with fail
  generalize hw3 : World.alloc _ _ = w3 at HB0 ⊢
  clear hw3
  go_loopw [12] (fun i wr => ∃ j : Nat, j ≤ m ∧ i = .int .i64 j ∧ Hid (∀ i (hi : i < k.ds.length), i < j → fdFit k.ds[i] (ps.getD i 0) t = true) ∧ Hid (FtB w k (.slice p m m) t (clrL t (ps.take j)) wr)) (fun i _ => m - (intOf i).toNat)
  case atStart => exact ⟨0, Nat.zero_le _, rfl, (fun i _ h => by omega), HB0⟩
  case round =>
    clear HB0
    obtain ⟨j, hj, rfl, HA, HI⟩ := hrel
    by_cases hlt : j < m
    · have hlt' : j < k.ds.length := by rw [HM.out]; exact hlt
      obtain ⟨x0, x1, x2, x3, HF⟩ := HC.out j hlt'
      obtain ⟨rfl, hgl⟩ := HG.out (by omega)
      obtain ⟨hu, hl, hp, h3⟩ := HH.out
      have h3j := h3 j (by omega)
      obtain ⟨F1, C1, rfl, en1, HF1⟩ := fd_fit HF.fd (hp j hlt') t hu
      obtain ⟨F3, C3, rfl, en3, HF3⟩ := fd_clear HF.fd (hp j hlt')
      obtain ⟨F0, C0, F2, C2, rfl, rfl⟩ := fd_shape HF.fd
      obtain ⟨c0, c1, c2, c3, _⟩ := HF.below hgl HI.out.bl
      have HF1' := hidD (fun wx hb => HF1 wx hb)
      have HF3' := hidD HF3
      have HX := hidD (And.intro h3j (And.intro hl hlt'))
      have HY : Hid (fdFit k.ds[j] (ps.getD j 0) t = false → RR = false) := fun h => by rw [← HR.out]; exact fitK_no hlt' h
      have HZ : Hid (fdFit k.ds[j] (ps.getD j 0) t = true → ∀ i (hi : i < k.ds.length), i < j + 1 → fdFit k.ds[i] (ps.getD i 0) t = true) := fun h i hi hij => by
        by_cases e : i = j
        · subst e; exact h
        · exact HA.out i hi (by omega)
      have i1 : (j : Int) < (m : Int) := by omega
      have kb := HI.out.kb
      obtain ⟨d0, d1, d2, d3, d4, d5, d6, d7, d8, d9, d10⟩ := trm_cells HI.out.tb
      have hs1 := lt_of_blk HI.out.tb
      have hs2 := Nat.ne_of_lt hs1
      generalize hV : fdFit k.ds[j] (ps.getD j 0) t = V at HF1' HY HZ
      clear hV hu hl hp h3 HF1 HF3 HF h3j hgl kb HA
      unfold trC at HF1'
      obtain ⟨ij, hij⟩ : ∃ ij, ps.getD j 0 = ij := ⟨_, rfl⟩
      rw [hij] at HF3' HX
      have HIJ := hidD hij
      clear hij
      go_wp2_with fail
      refine (HF1'.out _ (HI.out.step (al_bel _ _)).bl).mono ?_
      rintro e w2 ⟨rfl, hb⟩
      have HI2 := hidD ((HI.out.step (al_bel _ _)).step hb)
      have q3 := (cellF_of ((hb.block wr.heap.size (by simp)).trans (heap_alloc_new wr _))).2.2.2
      clear hb HF1' HI c0 c1 c2 c3 d0 d1 d2 d3 d4 d5 d6 d7 d8 d9 d10
      cases V
      · go_wp2_with fail
        go_ret
        exact ⟨by rw [HY.out (by trivial)]; rfl, HI2.out.bl⟩
      · go_wp2_with fail
        refine (HF3'.out _ _ _ HI2.out.bl HI2.out.rb).mono ?_
        rintro e w4 ⟨rfl, hw4⟩
        have HI3 : Hid (FtB w k (.slice (some ⟨g, 0, none⟩) m m) t (clrL t (ps.take (j + 1))) w4) := by
          show FtB _ _ _ _ _ _
          have e : ps.take (j + 1) = ps.take j ++ [ij] := by
            have hj' : j < ps.length := by rw [HX.out.2.1]; exact HX.out.2.2
            rw [List.take_add_one, ← HIJ.out, List.getD_eq_getElem?_getD, List.getElem?_eq_getElem hj']; rfl
          rw [e, clrL_snoc, hw4]
          exact HI2.out.clr HX.out.1.1 HX.out.1.2
        clear hw4 q3 HF3' HI2
        go_wp2_with fail
        go_roundw
        case rel => exact ⟨j + 1, by omega, by simp, HZ.out (by trivial), HI3⟩
        case measure => simp [intOf]; omega
    · have hjm : j = m := by omega
      have e : ps.take j = ps := by
        have := HH.out.2.1
        rw [HM.out] at this
        rw [hjm, ← this, List.take_length]
      rw [e] at HI
      have HRR : Hid (RR = restB (restT k ps t) k.num) := by
        show _ = _
        rw [← HR.out]
        exact fitK_yes fun i hi => HA.out i hi (by rw [HM.out] at hi; omega)
      have i1 : ¬ (j : Int) < (m : Int) := by omega
      obtain ⟨q0, q1, q2, q3, q4⟩ := cellK_of HI.out.kb
      have hs1 := lt_of_blk HI.out.rb
      clear HA HC HH e
      by_cases p1 : 1 < k.parts
      · have p0 : 0 < k.parts := by omega
        have HA := hidD (HI.out.seta)
        have HA2 := hidD (HA.out.setb)
        have hc1 := (trm_cells HI.out.rb).2.1
        have hf1 := HI.out.rb.frozen 1
        obtain ⟨wA, hwA⟩ : ∃ wA, wr.setCell ⟨w.heap.size + 1 + 1, 1, none⟩ (.int .i64 0) = wA := ⟨_, rfl⟩
        rw [hwA] at HA HA2
        have hc2 := (trm_cells HA.out.rb).2.2.1
        have hf2 := HA.out.rb.frozen 2
        obtain ⟨a0, a1, a2, a3, a4⟩ := cellK_of HA.out.kb
        obtain ⟨wB, hwB⟩ : ∃ wB, wA.setCell ⟨w.heap.size + 1 + 1, 2, none⟩ (.int .i64 0) = wB := ⟨_, rfl⟩
        rw [hwB] at HA2
        have hrt : { { clrL t ps with a := 0 } with b := 0 } = restT k ps t := by unfold restT; rw [if_pos p0, if_pos p1]
        rw [hrt] at HA2
        clear hrt HA HI
        obtain ⟨d0, d1, d2, d3, d4, d5, d6, d7, d8, d9, d10⟩ := trm_cells HA2.out.rb
        obtain ⟨b0, b1, b2, b3, b4⟩ := cellK_of HA2.out.kb
        have HBl := hidD HA2.out.bl
        have heq0 := HEq.out
        unfold restB at HRR
        clear HA2 HEq
        generalize hE : eqF (restT k ps t) (numT k.num) = E at HRR heq0
        generalize restT k ps t = r at *
        unfold trC numT at heq0
        simp only at heq0
        obtain ⟨X, hX⟩ : ∃ X, ((r.x : Int) == (0 : Int)) = X := ⟨_, rfl⟩
        obtain ⟨Y, hY⟩ : ∃ Y, ((r.y : Int) == (0 : Int)) = Y := ⟨_, rfl⟩
        rw [hX, hY] at HRR
        clear hE
        cases E <;> cases X <;> cases Y
        all_goals
          go_wp2_with (go_at_call 15; refine (bits_any _ _).mono ?_; rintro e wq ⟨rfl, rfl⟩)
          go_ret
          exact ⟨by rw [HRR.out]; rfl, HBl.out⟩
      · by_cases p0 : 0 < k.parts
        · have HA := hidD (HI.out.seta)
          have hc1 := (trm_cells HI.out.rb).2.1
          have hf1 := HI.out.rb.frozen 1
          obtain ⟨wA, hwA⟩ : ∃ wA, wr.setCell ⟨w.heap.size + 1 + 1, 1, none⟩ (.int .i64 0) = wA := ⟨_, rfl⟩
          rw [hwA] at HA
          have hrt : { clrL t ps with a := 0 } = restT k ps t := by unfold restT; rw [if_pos p0, if_neg p1]
          rw [hrt] at HA
          clear hrt HI
          obtain ⟨d0, d1, d2, d3, d4, d5, d6, d7, d8, d9, d10⟩ := trm_cells HA.out.rb
          obtain ⟨b0, b1, b2, b3, b4⟩ := cellK_of HA.out.kb
          have HBl := hidD HA.out.bl
          have heq0 := HEq.out
          unfold restB at HRR
          clear HA HEq
          generalize hE : eqF (restT k ps t) (numT k.num) = E at HRR heq0
          generalize restT k ps t = r at *
          unfold trC numT at heq0
          simp only at heq0
          obtain ⟨X, hX⟩ : ∃ X, ((r.x : Int) == (0 : Int)) = X := ⟨_, rfl⟩
          obtain ⟨Y, hY⟩ : ∃ Y, ((r.y : Int) == (0 : Int)) = Y := ⟨_, rfl⟩
          rw [hX, hY] at HRR
          clear hE
          cases E <;> cases X <;> cases Y
          all_goals
            go_wp2_with (go_at_call 15; refine (bits_any _ _).mono ?_; rintro e wq ⟨rfl, rfl⟩)
            go_ret
            exact ⟨by rw [HRR.out]; rfl, HBl.out⟩
        · have hrt : clrL t ps = restT k ps t := by unfold restT; rw [if_neg p0, if_neg p1]
          rw [hrt] at HI
          clear hrt q0 q1 q2 q3 q4
          obtain ⟨d0, d1, d2, d3, d4, d5, d6, d7, d8, d9, d10⟩ := trm_cells HI.out.rb
          obtain ⟨b0, b1, b2, b3, b4⟩ := cellK_of HI.out.kb
          have HBl := hidD HI.out.bl
          have heq0 := HEq.out
          unfold restB at HRR
          clear HI HEq
          generalize hE : eqF (restT k ps t) (numT k.num) = E at HRR heq0
          generalize restT k ps t = r at *
          unfold trC numT at heq0
          simp only at heq0
          obtain ⟨X, hX⟩ : ∃ X, ((r.x : Int) == (0 : Int)) = X := ⟨_, rfl⟩
          obtain ⟨Y, hY⟩ : ∃ Y, ((r.y : Int) == (0 : Int)) = Y := ⟨_, rfl⟩
          rw [hX, hY] at HRR
          clear hE
          cases E <;> cases X <;> cases Y
          all_goals
            go_wp2_with (go_at_call 15; refine (bits_any _ _).mono ?_; rintro e wq ⟨rfl, rfl⟩)
            go_ret
            exact ⟨by rw [HRR.out]; rfl, HBl.out⟩
end Go.Proofs.YtiiajhomdpfafaaGreatDoor
namespace Go.Proofs.YtiiajhomdpfafaaGreatDoor
open Go.RowKit

theorem orow_nil (B : Nat) (w : World) (T : TypeId) (sz : Nat) : w.ownsRow B T sz (.slice none 0 0) 0 [] := ⟨by simp, .inl ⟨rfl, rfl⟩⟩
theorem orow_keep {B sz n : Nat} {T : TypeId} {v : Value} {xs : List Value} {w w' : World} (h : w.ownsRow B T sz v n xs) (hb : ∀ g, v.ownBlock = some g → w'.heap[g]? = w.heap[g]?) : w'.ownsRow B T sz v n xs := by
  refine ⟨h.1, ?_⟩
  rcases h.2 with hn | ⟨g, cap, cur, rfl, hg, hgg, rest⟩
  · exact .inl hn
  · exact .inr ⟨g, cap, cur, rfl, hg, by rw [hb g rfl]; exact hgg, rest⟩
theorem orow_below {B sz n : Nat} {T : TypeId} {v : Value} {xs : List Value} {w w' : World} (h : w.ownsRow B T sz v n xs) (hb : Below w.heap.size w w') : w'.ownsRow B T sz v n xs :=
  orow_keep h fun g hg => hb.block _ (h.lt g hg).2
theorem orow_grown {w w' : World} {v : Value} {B n sz : Nat} {e : TypeId} {xs : List Value} (ho : w.ownsRow B e sz v n xs) (hg : w.grownBy w' v.ownBlock) (hB : B ≤ w.heap.size) : Below B w w' :=
  (Below.refl B w).grown hg hB (fun k hk => (ho.lt k hk).1)
theorem orow_src {B sz n : Nat} {T : TypeId} {v : Value} {xs : List Value} {w : World} (h : w.ownsRow B T sz v n xs) : ∃ p c g, v = .slice p n c ∧ n ≤ c ∧ c ≤ maxLen ∧ (0 < n → p = some ⟨g, 0, none⟩) ∧ (p = none → c = 0) ∧ (∀ a, p = some a → a = ⟨g, 0, none⟩ ∧ B ≤ g ∧ g < w.heap.size) ∧ (∀ j < n * sz, w.cell? ⟨g, j, none⟩ = xs[j]?) ∧ ∀ k ≤ n, w.ownsRow B T sz (.slice p k c) k (xs.take (k * sz)) := by
  rcases h.2 with ⟨rfl, rfl⟩ | ⟨g, cap, cur, rfl, hg, hgg, hnc, hcm, hsz, htk⟩
  · refine ⟨none, 0, 0, rfl, Nat.le_refl _, Nat.zero_le _, fun h => absurd h (by omega), fun _ => rfl, (fun a h => by cases h), fun j hj => absurd hj (by omega), fun k hk => ?_⟩
    obtain rfl : k = 0 := by omega
    rw [Nat.zero_mul, List.take_zero]
    exact orow_nil _ _ _ _
  · refine ⟨_, cap, g, rfl, hnc, hcm, fun _ => rfl, (fun h => by cases h), fun a ha => ⟨by injection ha with ha; exact ha.symm, hg, lt_of_blk hgg⟩, fun j hj => World.ownsRow.cellAt h j hj, fun k hk => ?_⟩
    have hks : k * sz ≤ n * sz := Nat.mul_le_mul_right sz hk
    refine ⟨by rw [List.length_take, h.1]; omega, .inr ⟨g, cap, cur, rfl, hg, hgg, by omega, hcm, hsz, ?_⟩⟩
    rw [← htk, List.take_take, Nat.min_eq_left hks]
def rowV {α : Type} (f : α → Array Value) : List α → List Value
  | [] => []
  | o :: l => (f o).toList ++ rowV f l
theorem rowV_len {α : Type} {f : α → Array Value} {s : Nat} (hf : ∀ o, (f o).size = s) : ∀ l : List α, (rowV f l).length = l.length * s
  | [] => by simp [rowV]
  | o :: l => by rw [rowV, List.length_append, rowV_len hf l, List.length_cons, Nat.add_mul, Nat.one_mul, Array.length_toList, hf]; omega
theorem rowV_append {α : Type} (f : α → Array Value) : ∀ a b : List α, rowV f (a ++ b) = rowV f a ++ rowV f b
  | [], _ => rfl
  | t :: a, b => by rw [List.cons_append, rowV, rowV, rowV_append f a b, List.append_assoc]
theorem rowV_one {α : Type} {f : α → Array Value} (hf : ∀ o, ∀ u ∈ (f o).toList, u.oneCell' = true) : ∀ (l : List α), ∀ u ∈ rowV f l, u.oneCell' = true
  | [], u, h => by cases h
  | t :: l, u, h => by
    rw [rowV, List.mem_append] at h
    rcases h with h | h
    · exact hf t u h
    · exact rowV_one hf l u h
theorem rowV_get {α : Type} {f : α → Array Value} {s : Nat} (hf : ∀ o, (f o).size = s) (d : α) : ∀ (l : List α) (i j : Nat), i < l.length → j < s → (rowV f l)[i * s + j]? = (f (l.getD i d))[j]?
  | [], i, j, h, _ => by simp at h
  | x :: l, 0, j, _, hj => by
    rw [rowV, Nat.zero_mul, Nat.zero_add, List.getElem?_append_left (by rw [Array.length_toList, hf]; exact hj), Array.getElem?_toList]
    rfl
  | x :: l, i + 1, j, h, hj => by
    have := rowV_get hf d l i j (by simpa using h) hj
    rw [rowV, List.getElem?_append_right (by rw [Array.length_toList, hf, Nat.add_mul]; omega), Array.length_toList, hf, show (i + 1) * s + j - s = i * s + j by rw [Nat.add_mul]; omega, this]
    rfl
theorem rowV_take {α : Type} {f : α → Array Value} {s : Nat} (hf : ∀ o, (f o).size = s) : ∀ (l : List α) (k : Nat), rowV f (l.take k) = (rowV f l).take (k * s)
  | [], k => by simp [rowV]
  | x :: l, 0 => by simp [rowV]
  | x :: l, k + 1 => by
    have e1 : (f x).toList.length = s := by rw [Array.length_toList, hf]
    have e2 : ((f x).toList).take ((k + 1) * s) = (f x).toList := List.take_of_length_le (by rw [e1, Nat.add_mul]; omega)
    rw [List.take_succ_cons, rowV, rowV, rowV_take hf l k, List.take_append, e1, e2, show (k + 1) * s - s = k * s by rw [Nat.add_mul]; omega]
theorem step_append_g {T ST : TypeId} {z : Value} {sz bt : Nat} (hu : Tryz.prog.underlying ST = some (.slice T)) (hinf : (Tryz.prog.info? T).map (fun i => (i.zero, i.size, i.bytes)) = some (some z, sz, bt)) (hzs : z.cells.size = sz) (hsz : 0 < sz)
    {ops : Array Oper} {o : Oper} {a : Act} {w : World} {K : Act → World → Prop} {Q : Exit → Act → World → Prop} {E : Prop} (hgd : o.guard = none) (s x : Operand)
    (ho : o.op = .call { callee := .builtin .append, args := #[s, x], argTypes := #[ST, ST] })
    (B : Nat) (v : Value) (n : Nat) (xs : List Value) (hs : a.eval s = v) (hown : w.ownsRow B T sz v n xs) (hb : B ≤ w.heap.size)
    (g m c : Nat) (news : List Value) (hx : a.eval x = .slice (some ⟨g, 0, none⟩) m c) (hl : news.length = m * sz) (hc : ∀ j u, news[j]? = some u → w.cell? ⟨g, j, none⟩ = some u) (h1 : ∀ u ∈ news, u.oneCell' = true) (hn : n + m ≤ 140737488355328) (hn2 : (n + m) * bt ≤ 140737488355328)
    (h : ∀ v' w', w'.ownsRow B T sz v' (n + m) (xs ++ news) → w.grownBy w' v.ownBlock → K (a.put o.dst v') w') :
    if Region.wanted o (yielded ops a.tmps) = true then Oper.wp Tryz.prog o a w K Q else E := by
  have hw : Region.wanted o (yielded ops a.tmps) = true := by simp [Region.wanted, hgd]
  rw [if_pos hw]
  obtain ⟨i0, hi, hz0, hz1, hz2⟩ := info_partsD hinf
  refine wp_append_own w s x ST ho B T i0 z sz bt hu hi hz0 hz1 hz2 hzs hsz v n xs hs hown ⟨g, 0, none⟩ m c news hx hl ?_ h1 (by unfold maxLen; omega) hn2 hb (fun v' w' h1 h2 _ => h v' w' h1 h2)
  intro j u hj
  rw [Addr.add_lit, Nat.zero_add]
  exact hc j u hj
theorem wpList_append_g (w : World) {T ST : TypeId} {z : Value} {sz bt : Nat} (hu : Tryz.prog.underlying ST = some (.slice T)) (hinf : (Tryz.prog.info? T).map (fun i => (i.zero, i.size, i.bytes)) = some (some z, sz, bt)) (hzs : z.cells.size = sz) (hsz : 0 < sz)
    {ops : Array Oper} {rest : List Oper} {o : Oper} {a : Act} {Q : Exit → Act → World → Prop} (hgd : o.guard = none) (s x : Operand)
    (ho : o.op = .call { callee := .builtin .append, args := #[s, x], argTypes := #[ST, ST] })
    (B : Nat) (v : Value) (n : Nat) (xs : List Value) (hs : a.eval s = v) (hown : w.ownsRow B T sz v n xs) (hb : B ≤ w.heap.size)
    (g m c : Nat) (news : List Value) (hx : a.eval x = .slice (some ⟨g, 0, none⟩) m c) (hl : news.length = m * sz) (hc : ∀ j u, news[j]? = some u → w.cell? ⟨g, j, none⟩ = some u) (h1 : ∀ u ∈ news, u.oneCell' = true) (hn : n + m ≤ 140737488355328) (hn2 : (n + m) * bt ≤ 140737488355328)
    (h : ∀ v' w', w'.ownsRow B T sz v' (n + m) (xs ++ news) → w.grownBy w' v.ownBlock → wpList Tryz.prog ops Q rest (a.put o.dst v') w') : wpList Tryz.prog ops Q (o :: rest) a w := by
  obtain ⟨i0, hi, hz0, hz1, hz2⟩ := info_partsD hinf
  refine wpList_append_own w hgd s x ST ho B T i0 z sz bt hu hi hz0 hz1 hz2 hzs hsz v n xs hs hown ⟨g, 0, none⟩ m c news hx hl ?_ h1 (by unfold maxLen; omega) hn2 hb (fun v' w' h1 h2 _ => h v' w' h1 h2)
  intro j u hj
  rw [Addr.add_lit, Nat.zero_add]
  exact hc j u hj
theorem new_cells (w : World) (xs : Array Value) (T : TypeId) : ∀ j u, xs.toList[j]? = some u → (w.alloc (.cells xs T)).cell? ⟨w.heap.size, j, none⟩ = some u := fun j u h => by
  have := box_cell w xs T j
  rw [this, ← h, Array.getElem?_toList]
end Go.Proofs.YtiiajhomdpfafaaGreatDoor
