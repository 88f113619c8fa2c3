/- Package deal: the parts of a term; the stack of loose terms. -/
import Derived.Test.YtiiajhomdpfafaaGreatDoorHaz
import Derived.Lib.MinMax
import Derived.Laws.AppendOwnNone
namespace Go.Proofs.YtiiajhomdpfafaaGreatDoor
open Go.RowKit

structure PtsB (w : World) (g : Nat) (a b : Int) : Prop where
  c0 : w.cell? ⟨g, 0, none⟩ = some (.int .i64 a)
  c1 : w.cell? ⟨g, 1, none⟩ = some (.int .i64 b)
  lt : g < w.heap.size
theorem pts_cell {w : World} {o1 o2 : Obj} {xs : Array Value} {T : TypeId} (i : Nat) : (((w.alloc o1).alloc o2).alloc (.cells xs T)).cell? ⟨w.heap.size + 1 + 1, i, none⟩ = xs[i]? := by
  have h := box_cell ((w.alloc o1).alloc o2) xs T i
  rw [sz_al, sz_al] at h
  exact h
set_option maxRecDepth 20000 in
set_option maxHeartbeats 3200000 in
theorem partsOf_any (k : Kd) (p : Option Addr) (n m : Nat) (hm : k.parts = (m : Int)) (hm2 : m ≤ 2) (t : Trm) (w : World) :
    Calls Tryz.prog 21 #[.agg #[.int .i64 k.num, .string k.word, .slice p n n, .int .i64 k.parts, fnB k.mean], .agg (trC t)] w fun e w' => e = .returned (.slice (some ⟨w.heap.size + 1 + 1, 0, none⟩) m 2) ∧ PtsB w' (w.heap.size + 1 + 1) t.a t.b ∧ Below w.heap.size w w' := by
  have m1 : (0 : Int) ≤ (m : Int) := Int.natCast_nonneg _
  have m2 : (m : Int) ≤ 2 := by omega
  have m3 : ¬ (2 : Int) < (m : Int) := by omega
  have m4 : ¬ (m : Int) < 0 := by omega
  rw [hm]
  clear hm
  unfold fnB trC
  go_enter Tryz.func21, Tryz.ntmps21
  go_wp2_with fail
  go_ret
  refine ⟨rfl, ⟨?_, ?_, ?_⟩, ?_⟩
  · exact pts_cell 0
  · exact pts_cell 1
  · simp
  · exact (((Below.refl _ _).alloc (Nat.le_refl _) _).alloc (by simp) _).alloc (by simp; omega) _
def rowL : List (Int × Int) → List Value
  | [] => []
  | x :: l => [.int .i64 x.1, .int .i64 x.2] ++ rowL l
theorem rowL_len : ∀ l : List (Int × Int), (rowL l).length = l.length * 2
  | [] => rfl
  | x :: l => by rw [rowL, List.length_append, rowL_len l]; show 2 + l.length * 2 = (l.length + 1) * 2; omega
theorem rowL_append : ∀ a b : List (Int × Int), rowL (a ++ b) = rowL a ++ rowL b
  | [], _ => rfl
  | x :: a, b => by rw [List.cons_append, rowL, rowL, rowL_append a b, List.append_assoc]
theorem rowL_one : ∀ (l : List (Int × Int)), ∀ u ∈ rowL l, u.oneCell' = true
  | [], u, h => by cases h
  | x :: l, u, h => by
    rw [rowL, List.mem_append] at h
    rcases h with h | h
    · simp only [List.mem_cons, List.not_mem_nil, or_false] at h
      rcases h with rfl | rfl <;> rfl
    · exact rowL_one l u h
theorem rowL_take : ∀ (l : List (Int × Int)) (k : Nat), rowL (l.take k) = (rowL l).take (k * 2)
  | [], k => by simp [rowL]
  | x :: l, 0 => by simp [rowL]
  | x :: l, k + 1 => by
    rw [List.take_succ_cons, rowL, rowL, rowL_take l k, show (k + 1) * 2 = k * 2 + 1 + 1 by omega]
    rfl
theorem rowL_get : ∀ (l : List (Int × Int)) (i : Nat), i < l.length → (rowL l)[i * 2]? = some (.int .i64 (l.getD i (0, 0)).1) ∧ (rowL l)[i * 2 + 1]? = some (.int .i64 (l.getD i (0, 0)).2)
  | [], i, h => by simp at h
  | x :: l, 0, _ => ⟨rfl, rfl⟩
  | x :: l, i + 1, h => by
    have := rowL_get l i (by simpa using h)
    rw [rowL, show (i + 1) * 2 = i * 2 + 2 by omega]
    exact ⟨this.1, this.2⟩
def OwnL (B : Nat) (v : Value) (xs : List (Int × Int)) (w : World) : Prop := w.ownsRow B 89 2 v xs.length (rowL xs)
theorem ownL_nil (B : Nat) (w : World) : OwnL B (.slice none 0 0) [] w := ⟨rfl, .inl ⟨rfl, rfl⟩⟩
theorem OwnL.below {B : Nat} {v : Value} {xs : List (Int × Int)} {w w' : World} (h : OwnL B v xs w) (hb : Below w.heap.size w w') : OwnL B v xs w' := by
  refine ⟨h.1, ?_⟩
  rcases h.2 with hn | ⟨g, cap, cur, rfl, hg, hgg, rest⟩
  · exact .inl hn
  · exact .inr ⟨g, cap, cur, rfl, hg, (hb.block _ (lt_of_blk hgg)).trans hgg, rest⟩
theorem OwnL.src {B : Nat} {v : Value} {xs : List (Int × Int)} {w : World} (h : OwnL B v xs w) : ∃ p c g, v = .slice p xs.length c ∧ xs.length ≤ c ∧ (0 < xs.length → p = some ⟨g, 0, none⟩) ∧ (p = none → c = 0) ∧ (∀ a, p = some a → a = ⟨g, 0, none⟩ ∧ B ≤ g ∧ g < w.heap.size) ∧ (∀ i < xs.length, w.cell? ⟨g, i * 2, none⟩ = some (.int .i64 (xs.getD i (0, 0)).1) ∧ w.cell? ⟨g, i * 2 + 1, none⟩ = some (.int .i64 (xs.getD i (0, 0)).2)) ∧ ∀ k ≤ xs.length, OwnL B (.slice p k c) (xs.take k) w := by
  rcases h.2 with ⟨rfl, hn⟩ | ⟨g, cap, cur, rfl, hg, hgg, hnc, hcm, hsz, htk⟩
  · have hx := List.length_eq_zero_iff.1 hn
    subst hx
    exact ⟨none, 0, 0, rfl, Nat.le_refl _, fun h => by simp at h, fun _ => rfl, (fun a h => by cases h), fun i hi => by simp at hi, fun k hk => by
      obtain rfl : k = 0 := by simpa using hk
      exact ownL_nil _ _⟩
  · refine ⟨_, cap, g, rfl, hnc, fun _ => rfl, (fun h => by cases h), fun a ha => ⟨by injection ha with ha; exact ha.symm, hg, lt_of_blk hgg⟩, fun i hi => ?_, fun k hk => ?_⟩
    · have h1 := World.ownsRow.cellAt h (i * 2) (by omega)
      have h2 := World.ownsRow.cellAt h (i * 2 + 1) (by omega)
      rw [(rowL_get xs i hi).1] at h1
      rw [(rowL_get xs i hi).2] at h2
      exact ⟨h1, h2⟩
    · have hl : (xs.take k).length = k := by rw [List.length_take]; omega
      unfold OwnL
      rw [hl]
      refine ⟨by rw [rowL_len, hl], .inr ⟨g, cap, cur, rfl, hg, hgg, by omega, hcm, hsz, ?_⟩⟩
      rw [rowL_take, ← htk, List.take_take, Nat.min_eq_left (Nat.mul_le_mul_right 2 hk)]
theorem info_loo : (Tryz.prog.info? 89).map (fun i => (i.zero, i.size, i.bytes)) = some (some (.agg #[.int .i64 0, .int .i64 0]), 2, 16) := by kernel_rfl
theorem info_partsE {t : TypeId} {z : Value} {sz by_ : Nat} (h : (Tryz.prog.info? t).map (fun i => (i.zero, i.size, i.bytes)) = some (some z, sz, by_)) : ∃ i, Tryz.prog.info? t = some i ∧ i.zero = some z ∧ i.size = sz ∧ i.bytes = by_ := by
  cases hi : Tryz.prog.info? t with
  | none => rw [hi] at h; cases h
  | some i =>
    rw [hi] at h
    have h' := Option.some.inj h
    exact ⟨i, rfl, (Prod.ext_iff.1 h').1, (Prod.ext_iff.1 (Prod.ext_iff.1 h').2).1, (Prod.ext_iff.1 (Prod.ext_iff.1 h').2).2⟩
theorem lgrown_below {w w' : World} {v : Value} {B n : Nat} {e : TypeId} {xs : List Value} (ho : w.ownsRow B e 2 v n xs) (hg : w.grownBy w' v.ownBlock) (hB : B ≤ w.heap.size) : Below B w w' :=
  (Below.refl B w).grown hg hB (fun k hk => by
    rcases ho.2 with ⟨rfl, _⟩ | ⟨g, cap, cur, rfl, hbg, _⟩
    · cases hk
    · obtain rfl : g = k := by simpa [Value.ownBlock] using hk
      exact hbg)
theorem wpList_append_loo (w : World) {ops : Array Oper} {rest : List Oper} {o : Oper} {a : Act} {Q : Exit → Act → World → Prop} (hgd : o.guard = none) (s x : Operand)
    (ho : o.op = .call { callee := .builtin .append, args := #[s, x], argTypes := #[84, 84] })
    (B : Nat) (v : Value) (n : Nat) (xs : List (Int × Int)) (hs : a.eval s = v) (hl : xs.length = n) (hown : OwnL B v xs w) (g c : Nat) (y : Int × Int) (hx : a.eval x = .slice (some ⟨g, 0, none⟩) 1 c) (h0 : w.cell? ⟨g, 0, none⟩ = some (.int .i64 y.1)) (h1 : w.cell? ⟨g, 1, none⟩ = some (.int .i64 y.2)) (hn : n ≤ 100000) (hbase : B ≤ w.heap.size)
    (h : ∀ v' w', OwnL B v' (xs ++ [y]) w' → Below B w w' → wpList Tryz.prog ops Q rest (a.put o.dst v') w') : wpList Tryz.prog ops Q (o :: rest) a w := by
  subst hl
  obtain ⟨i0, hi, hz0, hz1, hz2⟩ := info_partsE info_loo
  refine wpList_append_own w hgd s x 84 ho B 89 i0 (.agg #[.int .i64 0, .int .i64 0]) 2 16 Tryz.underlying84 hi hz0 hz1 hz2 rfl (by decide) v xs.length (rowL xs) hs hown ⟨g, 0, none⟩ 1 c (rowL [y]) hx rfl ?_ (rowL_one [y]) (by unfold maxLen; omega) (by omega) hbase ?_
  · intro j u hj
    have hlt : j < 2 := (List.getElem?_eq_some_iff.1 hj).1
    rw [Addr.add_lit]
    rcases (show j = 0 ∨ j = 1 by omega) with rfl | rfl
    · rw [← hj]; exact h0
    · rw [← hj]; exact h1
  · intro v' w' a1 a2 _
    refine h v' w' ?_ (lgrown_below hown a2 hbase)
    unfold OwnL
    rw [rowL_append, List.length_append]
    exact a1
set_option maxRecDepth 20000 in
set_option maxHeartbeats 6400000 in
theorem joined_0 (B : Nat) (v : Value) (xs : List (Int × Int)) (pl : Int) (pg : Nat) (w : World) (ho : OwnL B v xs w) (hB : B ≤ w.heap.size) (hlen : xs.length ≤ 2000) :
    Calls Tryz.prog 31 #[v, .int .i64 pl, .slice (some ⟨pg, 0, none⟩) 0 2] w fun e w' => ∃ v', e = .returned (.tuple #[v', .bool true]) ∧ OwnL B v' (xs ++ [(pl, 1)]) w' ∧ Below B w w' := by
  obtain ⟨p, c, g, rfl, hc, hp, hn, hpg, _, htk⟩ := ho.src
  have HO := hidD (htk xs.length (Nat.le_refl _))
  rw [List.take_length] at HO
  have HL : Hid (xs.length = xs.length) := rfl
  obtain ⟨N, hN⟩ : ∃ N, xs.length = N := ⟨_, rfl⟩
  have HN := hidD hN
  rw [hN] at hlen hc HO ⊢
  have HS := hidD hB
  have i1 : ¬ (N : Int) < 0 := by omega
  have i2 : (0 : Int) ≤ (N : Int) := by omega
  have i3 : (N : Int) ≤ (c : Int) := by omega
  have i4 : ¬ (c : Int) < (N : Int) := by omega
  clear hN ho hp hn hpg htk hB HL
  go_enter Tryz.func31, Tryz.ntmps31
  go_wp2_with fail
  refine wp_loop_rounds 1 ?_
  rw [rounds_succ]
  go_wp2_with (at_builtin; refine wpList_append_loo _ rfl (.tmp 47) (.tmp 52) rfl B (.slice p N c) N xs rfl HN.out (HO.out.below (al_bel _ _)) w.heap.size 1 (pl, 1) rfl (by simp) (by simp) (by omega) (Nat.le_trans HS.out (by simp)) ?_; intro v5 w5 ho5 hb5; have HO5 := hidD ho5; have HB5 := hidD (((Below.refl B w).alloc HS.out _).trans hb5); clear ho5 hb5)
  go_ret2
  exact ⟨_, rfl, HO5.out, HB5.out⟩
set_option maxRecDepth 20000 in
set_option maxHeartbeats 6400000 in
theorem joined_1 (B : Nat) (v : Value) (xs : List (Int × Int)) (x : Int × Int) (pl b : Int) (pg : Nat) (w : World) (ho : OwnL B v (xs ++ [x]) w) (hB : B ≤ w.heap.size) (hlen : xs.length ≤ 2000) (hp : PtsB w pg x.1 b) (hx0 : 0 ≤ x.2) (hx1 : x.2 ≤ 2000) :
    Calls Tryz.prog 31 #[v, .int .i64 pl, .slice (some ⟨pg, 0, none⟩) 1 2] w fun e w' => ∃ v', e = .returned (.tuple #[v', .bool true]) ∧ OwnL B v' (xs ++ [(pl, x.2 + 1)]) w' ∧ Below B w w' := by
  obtain ⟨p, c, g, rfl, hc, hpp, hn, hpg, hcl, htk⟩ := ho.src
  have hl : (xs ++ [x]).length = xs.length + 1 := by simp
  rw [hl] at hc hpp hcl htk ⊢
  obtain rfl := hpp (by omega)
  have HO := hidD (htk xs.length (by omega))
  rw [List.take_left] at HO
  obtain ⟨c0, c1⟩ := hcl xs.length (by omega)
  have hgx : (xs ++ [x]).getD xs.length (0, 0) = x := by simp [List.getD]
  rw [hgx] at c0 c1
  obtain ⟨N, hN⟩ : ∃ N, xs.length = N := ⟨_, rfl⟩
  have HN := hidD hN
  rw [hN] at hlen hc HO c0 c1 ⊢
  have HS := hidD hB
  have p0 := hp.c0
  obtain ⟨xa, hxa⟩ : ∃ xa, x.1 = xa := ⟨_, rfl⟩
  obtain ⟨xd, hxd⟩ : ∃ xd, x.2 = xd := ⟨_, rfl⟩
  rw [hxa] at c0 p0
  rw [hxd] at c1 hx0 hx1 ⊢
  have i0 : (((N + 1 : Nat) : Int) - 1) = (N : Int) := by omega
  have i1 : ¬ (N : Int) < 0 := by omega
  have i2 : (0 : Int) ≤ (N : Int) := by omega
  have i3 : (N : Int) ≤ (c : Int) := by omega
  have i4 : ¬ (c : Int) < (N : Int) := by omega
  have i5 : (N : Int) < ((N + 1 : Nat) : Int) := by omega
  have i6 : max 0 xd = xd := by omega
  have i7 : (N : Int) < (N : Int) + 1 := by omega
  clear hN ho hn hpg htk hB hl hcl hgx hxa hxd hp
  go_enter Tryz.func31, Tryz.ntmps31
  go_wp2_with fail
  refine wp_loop_rounds 2 ?_
  rw [rounds_succ]
  go_wp2_with fail
  rw [rounds_succ]
  go_wp2_with (at_builtin; refine wpList_append_loo _ rfl (.tmp 47) (.tmp 52) rfl B (.slice (some ⟨g, 0, none⟩) N c) N xs rfl HN.out (HO.out.below (al_bel _ _)) w.heap.size 1 (pl, xd + 1) rfl (by simp) (by simp) (by omega) (Nat.le_trans HS.out (by simp)) ?_; intro v5 w5 ho5 hb5; have HO5 := hidD ho5; have HB5 := hidD (((Below.refl B w).alloc HS.out _).trans hb5); clear ho5 hb5)
  go_ret2
  exact ⟨_, rfl, HO5.out, HB5.out⟩
end Go.Proofs.YtiiajhomdpfafaaGreatDoor
