/- Contracts of package acc's words: settled, long, inverse, turned, size, same. -/
import Derived.Test.YtejpplcccbiplaaAccA
import Derived.Deep.LoopGhost
namespace Go.Proofs.Ytejpplcccbiplaa
open Go.RowKit

/-- A slice's block is the elder one's, or new. -/
def New (w : World) (v v' : Value) : Prop := ∀ k, v'.ownBlock = some k → v.ownBlock = some k ∨ w.heap.size ≤ k
theorem New.refl (w : World) (v : Value) : New w v v := fun _ h => Or.inl h
theorem New.trans {w w1 : World} {v v1 v2 : Value} (h : New w v v1) (h' : New w1 v1 v2) (hs : w.heap.size ≤ w1.heap.size) : New w v v2 := fun k hk => by
  rcases h' k hk with h1 | h1
  · exact h k h1
  · exact Or.inr (by omega)
/-- What the row's own block names. -/
def At (v : Value) (k : Nat) : Prop := v.ownBlock = some k

theorem run_append_word (t ty : TypeId) (ht : Try.prog.underlying t = some (.slice 38)) (w : World) (B : Nat) (v : Value) (xs : List Nat) (hown : OwnW w B v xs) (a : Addr) (c x : Nat) (hx : x < 18446744073709551616) (hcell : w.cell? (a.add 0) = some (.int .u64 (x : Int))) (hn : xs.length ≤ 100000000) (hB : B ≤ w.heap.size) :
    ∃ v' w', (Builtin.append_ #[t, t] ty #[v, .slice (some a) 1 c]).run Try.prog w = .ok v' w' ∧ OwnW w' B v' (xs ++ [x]) ∧ w.grownBy w' v.ownBlock ∧ New w v v' := by
  obtain ⟨i0, hi, hz0, hz1, hz2⟩ := info_parts infoU
  have hnews : ∀ (j : Nat) (u : Value), [uV x][j]? = some u → w.cell? (a.add j) = some u := by
    intro j u hj
    match j, hj with
    | 0, hj => simp at hj; subst hj; exact hcell
  have h1 : ∀ u ∈ [uV x], u.oneCell' = true := by intro u hu; simp at hu; subst hu; rfl
  have key : ∀ B', B' ≤ w.heap.size → w.ownsRow B' 38 1 v xs.length (xs.map uV) → ∃ v' w', (Builtin.append_ #[t, t] ty #[v, .slice (some a) 1 c]).run Try.prog w = .ok v' w' ∧ w'.ownsRow B' 38 1 v' (xs.length + 1) (xs.map uV ++ [uV x]) ∧ w.grownBy w' v.ownBlock := by
    intro B' hB' ho
    obtain ⟨v', w', hr, h2, h3, _⟩ := run_append_own (P := Try.prog) w B' t ty 38 i0 (.int .u64 0) 1 8 ht hi hz0 hz1 hz2 rfl (by decide) v xs.length (xs.map uV) ho a 1 c [uV x] rfl hnews h1 (by unfold maxLen; omega) (by omega) hB'
    exact ⟨v', w', hr, h2, h3⟩
  obtain ⟨v', w', hr, h2, h3⟩ := key B hB hown.own
  refine ⟨v', w', hr, ⟨by rw [List.length_append, List.length_singleton, List.map_append]; exact h2, hown.fit.snoc hx⟩, h3, ?_⟩
  intro k hk
  rcases hown.own.2 with ⟨rfl, hn0⟩ | ⟨g, cap, cur, rfl, hb, hg, hnc, hcm, hcs, htake⟩
  · have hx0 : xs = [] := List.length_eq_zero_iff.1 hn0
    subst hx0
    obtain ⟨v2, w2, hr2, h22, _⟩ := key w.heap.size (Nat.le_refl _) (World.ownsRow_nil _ _ _ _)
    rw [hr] at hr2
    injection hr2 with e1 e2
    subst e1
    exact Or.inr (h22.lt k hk).1
  · by_cases hroom : xs.length + 1 ≤ cap
    · obtain ⟨w2, hr2, _⟩ := run_append_fits (P := Try.prog) w B t ty 38 i0 1 ht hi hz1 g xs.length cap (xs.map uV) hown.own a 1 c [uV x] rfl hnews h1 hroom
      rw [hr] at hr2
      injection hr2 with e1 e2
      subst e1
      exact Or.inl hk
    · have hr2 := run_append_grow (P := Try.prog) w t ty 38 i0 (.int .u64 0) ht hi hz0 ⟨g, 0, none⟩ xs.length cap (xs.map uV) (by rw [hz1]; simp) (hown.own.cells rfl) a 1 c [uV x] (by rw [hz1]; rfl) hnews (by omega) (by omega) (by rw [hz2]; exact growslice_fits (by omega) (by omega))
      rw [hr] at hr2
      injection hr2 with e1 e2
      subst e1
      simp [Value.ownBlock] at hk
      exact Or.inr (by omega)

theorem wpList_append_word (w : World) {ops : Array Oper} {rest : List Oper} {o : Oper} {a : Act} {Q : Exit → Act → World → Prop} (hgd : o.guard = none) (s x : Operand) (t : TypeId)
    (ho : o.op = .call { callee := .builtin .append, args := #[s, x], argTypes := #[t, t] }) (ht : Try.prog.underlying t = some (.slice 38)) (B : Nat) (v : Value) (xs : List Nat) (hs : a.eval s = v) (hown : OwnW w B v xs)
    (ad : Addr) (c y : Nat) (hx : a.eval x = .slice (some ad) 1 c) (hy : y < 18446744073709551616) (hcell : w.cell? (ad.add 0) = some (.int .u64 (y : Int))) (hn : xs.length ≤ 100000000) (hB : B ≤ w.heap.size)
    (h : ∀ v' w', OwnW w' B v' (xs ++ [y]) → w.grownBy w' v.ownBlock → New w v v' → wpList Try.prog ops Q rest (a.put o.dst v') w') : wpList Try.prog ops Q (o :: rest) a w := by
  obtain ⟨v', w', hr, h2, h3, h4⟩ := run_append_word t o.type ht w B v xs hown ad c y hy hcell hn hB
  refine wpList_plain hgd fun K hK => ?_
  unfold Oper.wp execOp
  simp only [ho, resolve, invoke, builtin, Sem.run_bind, Sem.run_pure, Result.andThen_ok, List.map_toArray, List.map_cons, List.map_nil, hs, hx, hr]
  exact hK _ _ (h v' w' h2 h3 h4)

theorem wrote_app {w w1 : World} {v : Value} (o : Obj) (h : (w.alloc o).grownBy w1 v.ownBlock) : Wrote w w1 (At v) :=
  ⟨h.os, h.tape, h.output, Nat.le_trans (by simp) h.size, fun k hk hn => (h.block k (by simp; omega) (fun e => hn e.symm)).trans (heap_alloc_old w o hk)⟩
theorem new_app {w : World} {v v' : Value} (o : Obj) (h : New (w.alloc o) v v') : New w v v' := fun k hk => by
  rcases h k hk with h1 | h1
  · exact Or.inl h1
  · exact Or.inr (by simp at h1; omega)
theorem OwnW.alloc {w : World} {B : Nat} {v : Value} {xs : List Nat} (h : OwnW w B v xs) (o : Obj) : OwnW (w.alloc o) B v xs := ⟨h.own.alloc o, h.fit⟩

/-- The sign of a word, as a word. -/
theorem sign_word {e : Nat} (h : e < 18446744073709551616) : IntKind.u64.wrap (IntKind.i64.wrap (e : Int) / 9223372036854775808) = ((if e < 9223372036854775808 then 0 else 18446744073709551615 : Nat) : Int) := by
  rw [IntKind.wrap_u64, IntKind.wrap_i64]
  split <;> omega

set_option maxHeartbeats 400000 in
theorem settled_any (B : Nat) (v : Value) (xs : List Nat) (w : World) (h : OwnW w B v xs) (hn : xs.length ≤ 100000) (hB : B ≤ w.heap.size) :
    Calls Try.prog 59 #[v] w fun e w' => ∃ v', e = .returned v' ∧ OwnW w' B v' (settle xs) ∧ Wrote w w' (At v) ∧ New w v v' := by
  have HE := hideS (ends_any B v xs w h (by omega))
  have HO := hideS h
  have hf : endW xs < 18446744073709551616 := h.fit _
  have HS := hideS (show settle xs = if endW xs = 0 ∨ endW xs = 18446744073709551615 then xs else xs ++ [if endW xs < 9223372036854775808 then 0 else 18446744073709551615] from rfl)
  clear h
  generalize endW xs = e at *
  by_cases h0 : e = 0 ∨ e = 18446744073709551615
  · have HX : Hid (settle xs = xs) := by show _ = _; rw [HS.out, if_pos h0]
    rw [HX.out]
    clear HS HX
    rcases h0 with rfl | rfl
    · go_enter Try.func59, Try.ntmps59
      go_wp2_with (go_at_call 63; refine HE.out.mono ?_; rintro e w' ⟨rfl, rfl⟩)
      go_ret
      exact ⟨v, rfl, HO.out, Wrote.refl _ _, New.refl _ _⟩
    · go_enter Try.func59, Try.ntmps59
      go_wp2_with (go_at_call 63; refine HE.out.mono ?_; rintro e w' ⟨rfl, rfl⟩)
      go_ret
      exact ⟨v, rfl, HO.out, Wrote.refl _ _, New.refl _ _⟩
  · have HX : Hid (settle xs = xs ++ [if e < 9223372036854775808 then 0 else 18446744073709551615]) := by show _ = _; rw [HS.out, if_neg h0]
    have hw := sign_word hf
    obtain ⟨s, hs⟩ : ∃ s : Nat, (if e < 9223372036854775808 then 0 else 18446744073709551615 : Nat) = s := ⟨_, rfl⟩
    have hsf : s < 18446744073709551616 := by rw [← hs]; split <;> omega
    rw [hs] at hw HX
    rw [HX.out]
    clear HS HX hs
    obtain ⟨u, hu⟩ : ∃ u : Int, u = e := ⟨_, rfl⟩
    have h1 : (u != 0) = true := by simp; omega
    have h2 : (u != 18446744073709551615) = true := by simp; omega
    rw [← hu] at HE hw
    clear h0 hf hu
    have hw2 : IntKind.u64.wrap (wrap64 u / 9223372036854775808) = (s : Int) := by rw [← hw, IntKind.wrap_i64, wrap64]
    clear hw
    go_enter Try.func59, Try.ntmps59
    go_wp2_with (first | (go_at_call 63; refine HE.out.mono ?_; rintro e w' ⟨rfl, rfl⟩) | (at_builtin; refine wpList_append_word _ rfl _ _ 54 rfl Try.underlying54 B v xs rfl (HO.out.alloc _) ⟨_, 0, none⟩ 1 s rfl hsf ?c1 (by omega) ?c2 ?_))
    case c1 => simp [Addr.add]
    case c2 => simp; omega
    intro v' w1 ho hg hN
    have R := hideS (And.intro ho (And.intro (wrote_app _ hg) (new_app _ hN)))
    clear ho hg hN
    go_wp2
    go_ret
    exact ⟨v', rfl, R.out.1, R.out.2.1, R.out.2.2⟩
end Go.Proofs.Ytejpplcccbiplaa
