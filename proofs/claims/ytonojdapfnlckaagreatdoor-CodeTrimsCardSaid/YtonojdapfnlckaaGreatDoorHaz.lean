/- Package deal: rows of terms of one's own. Package deal: a tree is measured, where it may be. Rows of one's own, whatever their elements. -/
import Derived.Test.YtonojdapfnlckaaGreatDoorHax
import Derived.Laws.AppendOwnNone
import Derived.Test.YtonojdapfnlckaaGreatDoorDkV
namespace Go.Proofs.YtonojdapfnlckaaGreatDoor
open Go.RowKit

def rowT : List Trm → List Value
  | [] => []
  | t :: l => (trC t).toList ++ rowT l
theorem rowT_len : ∀ l : List Trm, (rowT l).length = l.length * 11
  | [] => rfl
  | t :: l => by rw [rowT, List.length_append, rowT_len l, List.length_cons]; show 11 + _ = _; omega
theorem rowT_append : ∀ a b : List Trm, rowT (a ++ b) = rowT a ++ rowT b
  | [], _ => rfl
  | t :: a, b => by rw [List.cons_append, rowT, rowT, rowT_append a b, List.append_assoc]
theorem rowT_one : ∀ (l : List Trm), ∀ u ∈ rowT l, u.oneCell' = true
  | [], u, h => by cases h
  | t :: l, u, h => by
    rw [rowT, List.mem_append] at h
    rcases h with h | h
    · simp only [trC, List.mem_cons, List.not_mem_nil, or_false] at h
      rcases h with rfl | rfl | rfl | rfl | rfl | rfl | rfl | rfl | rfl | rfl | rfl <;> rfl
    · exact rowT_one l u h
theorem info_trm : (Tryz.prog.info? 48).map (fun i => (i.zero, i.size, i.bytes)) = some (some (.agg #[.int .i64 0, .int .i64 0, .int .i64 0, .float .f64 0, .float .f64 0, .int .i64 0, .int .i64 0, .int .i64 0, .int .i64 0, .int .i64 0, .int .i64 0]), 11, 88) := by kernel_rfl
theorem info_partsD {t : TypeId} {z : Value} {sz by_ : Nat} (h : (Tryz.prog.info? t).map (fun i => (i.zero, i.size, i.bytes)) = some (some z, sz, by_)) : ∃ i, Tryz.prog.info? t = some i ∧ i.zero = some z ∧ i.size = sz ∧ i.bytes = by_ := by
  cases hi : Tryz.prog.info? t with
  | none => rw [hi] at h; cases h
  | some i =>
    rw [hi] at h
    have h' := Option.some.inj h
    exact ⟨i, rfl, (Prod.ext_iff.1 h').1, (Prod.ext_iff.1 (Prod.ext_iff.1 h').2).1, (Prod.ext_iff.1 (Prod.ext_iff.1 h').2).2⟩
def OwnT (B : Nat) (v : Value) (ts : List Trm) (w : World) : Prop := w.ownsRow B 48 11 v ts.length (rowT ts)
theorem ownT_nil (B : Nat) (w : World) : OwnT B (.slice none 0 0) [] w := ⟨rfl, .inl ⟨rfl, rfl⟩⟩
theorem OwnT.shape {B : Nat} {v : Value} {ts : List Trm} {w : World} (h : OwnT B v ts w) : (v = .slice none 0 0 ∧ ts = []) ∨ ∃ g c, v = .slice (some ⟨g, 0, none⟩) ts.length c ∧ B ≤ g ∧ ∃ cur, w.heap[g]? = some (.cells cur 48) := by
  rcases h.2 with ⟨rfl, hn⟩ | ⟨g, cap, cur, rfl, hg, hgg, _⟩
  · exact Or.inl ⟨rfl, List.length_eq_zero_iff.1 hn⟩
  · exact Or.inr ⟨g, cap, rfl, hg, cur, hgg⟩
theorem OwnT.full {B : Nat} {v : Value} {ts : List Trm} {w : World} (h : OwnT B v ts w) (hn : ts ≠ []) : ∃ g c, v = .slice (some ⟨g, 0, none⟩) ts.length c := by
  rcases h.shape with ⟨_, h⟩ | ⟨g, c, h, _⟩
  · exact absurd h hn
  · exact ⟨g, c, h⟩
theorem OwnT.keep {B : Nat} {v : Value} {ts : List Trm} {w w' : World} (h : OwnT B v ts w) (hb : ∀ g, v.ownBlock = some g → w'.heap[g]? = w.heap[g]?) : OwnT B v ts w' := by
  refine ⟨h.1, ?_⟩
  rcases h.2 with hn | ⟨g, cap, cur, rfl, hg, hgg, rest⟩
  · exact .inl hn
  · exact .inr ⟨g, cap, cur, rfl, hg, by rw [hb g rfl]; exact hgg, rest⟩
theorem OwnT.base {B g n c : Nat} {ts : List Trm} {w : World} (h : OwnT B (.slice (some ⟨g, 0, none⟩) n c) ts w) : B ≤ g := by
  rcases h.shape with ⟨h, _⟩ | ⟨g', c', h, hb, _⟩
  · cases h
  · injection h with h _ _
    injection h with h
    injection h with h _ _
    subst h
    exact hb
theorem OwnT.lower {B B' : Nat} {v : Value} {ts : List Trm} {w : World} (h : OwnT B v ts w) (hB : B' ≤ B) : OwnT B' v ts w := by
  refine ⟨h.1, ?_⟩
  rcases h.2 with hn | ⟨g, cap, cur, e, hg, rest⟩
  · exact .inl hn
  · exact .inr ⟨g, cap, cur, e, Nat.le_trans hB hg, rest⟩
theorem OwnT.below {B : Nat} {v : Value} {ts : List Trm} {w w' : World} (h : OwnT B v ts w) (hb : Below w.heap.size w w') : OwnT B v ts w' := by
  rcases h.shape with ⟨rfl, rfl⟩ | ⟨g, c, rfl, _, cur, hc⟩
  · exact ownT_nil _ _
  · exact h.keep fun k hk => by
      have : g = k := by simpa [Value.ownBlock] using hk
      subst this
      exact hb.block _ (lt_of_blk hc)
theorem step_append_tm {ops : Array Oper} {o : Oper} {a : Act} {w : World} {K : Act → World → Prop} {Q : Exit → Act → World → Prop} {E : Prop} (hgd : o.guard = none) (s x : Operand)
    (ho : o.op = .call { callee := .builtin .append, args := #[s, x], argTypes := #[39, 39] })
    (B : Nat) (v : Value) (ts : List Trm) (hs : a.eval s = v) (hown : OwnT B v ts w) (hb : B ≤ w.heap.size)
    (g : Nat) (t : Trm) (hx : a.eval x = .slice (some ⟨g, 0, none⟩) 1 1) (hc : TrB w g t) (hn : ts.length ≤ 100000)
    (h : ∀ v' w', OwnT B v' (ts ++ [t]) w' → w.grownBy w' v.ownBlock → K (a.put o.dst v') w') :
    if Region.wanted o (yielded ops a.tmps) = true then Oper.wp Tryz.prog o a w K Q else E := by
  have hw : Region.wanted o (yielded ops a.tmps) = true := by simp [Region.wanted, hgd]
  rw [if_pos hw]
  obtain ⟨i0, hi, hz0, hz1, hz2⟩ := info_partsD info_trm
  refine wp_append_own w s x 39 ho B 48 i0 (.agg #[.int .i64 0, .int .i64 0, .int .i64 0, .float .f64 0, .float .f64 0, .int .i64 0, .int .i64 0, .int .i64 0, .int .i64 0, .int .i64 0, .int .i64 0]) 11 88 Tryz.underlying39 hi hz0 hz1 hz2 rfl (by decide) v ts.length (rowT ts) hs hown ⟨g, 0, none⟩ 1 1 (rowT [t]) hx (by rw [rowT_len]; rfl) ?_ (rowT_one [t]) (by unfold maxLen; omega) (by omega) hb ?_
  · intro j u hj
    have hlt : j < 11 := by
      have := (List.getElem?_eq_some_iff.1 hj).1
      rw [rowT_len] at this
      exact this
    rw [Addr.add_lit]
    have e : rowT [t] = (trC t).toList := by simp [rowT]
    rw [e, Array.getElem?_toList] at hj
    unfold TrB at hc
    simp only [World.cell?, hc, Option.isSome_none, Bool.false_eq_true, if_false]
    rw [Nat.zero_add]
    exact hj
  · intro v' w' h1 h2 _
    refine h v' w' ?_ h2
    unfold OwnT
    rw [rowT_append, List.length_append]; exact h1
end Go.Proofs.YtonojdapfnlckaaGreatDoor
namespace Go.Proofs.YtonojdapfnlckaaGreatDoor
open Go.RowKit

def trm0 : Trm := ⟨0, 0, 0, 0, 0, 0, 0, 0, 0, 0, 0⟩
structure TmR (w : World) (g : Nat) (ts : List Trm) : Prop where
  lt : 0 < ts.length → g < w.heap.size
  c0 : ∀ i < ts.length, w.cell? ⟨g, i * 11, none⟩ = some (.int .i64 (ts.getD i trm0).kind)
  c1 : ∀ i < ts.length, w.cell? ⟨g, i * 11 + 1, none⟩ = some (.int .i64 (ts.getD i trm0).a)
  c2 : ∀ i < ts.length, w.cell? ⟨g, i * 11 + 2, none⟩ = some (.int .i64 (ts.getD i trm0).b)
  c3 : ∀ i < ts.length, w.cell? ⟨g, i * 11 + 3, none⟩ = some (.float .f64 (ts.getD i trm0).x)
  c4 : ∀ i < ts.length, w.cell? ⟨g, i * 11 + 4, none⟩ = some (.float .f64 (ts.getD i trm0).y)
  c5 : ∀ i < ts.length, w.cell? ⟨g, i * 11 + 5, none⟩ = some (.int .i64 (ts.getD i trm0).day)
  c6 : ∀ i < ts.length, w.cell? ⟨g, i * 11 + 6, none⟩ = some (.int .i64 (ts.getD i trm0).to)
  c7 : ∀ i < ts.length, w.cell? ⟨g, i * 11 + 7, none⟩ = some (.int .i64 (ts.getD i trm0).cur)
  c8 : ∀ i < ts.length, w.cell? ⟨g, i * 11 + 8, none⟩ = some (.int .i64 (ts.getD i trm0).count)
  c9 : ∀ i < ts.length, w.cell? ⟨g, i * 11 + 9, none⟩ = some (.int .i64 (ts.getD i trm0).n)
  c10 : ∀ i < ts.length, w.cell? ⟨g, i * 11 + 10, none⟩ = some (.int .i64 (ts.getD i trm0).months)
theorem TmR.below {w w' : World} {g : Nat} {ts : List Trm} (h : TmR w g ts) (hb : Below w.heap.size w w') : TmR w' g ts := by
  have k : ∀ i, i < ts.length → ∀ j, w'.cell? ⟨g, j, none⟩ = w.cell? ⟨g, j, none⟩ := fun i hi j => World.cell?_of_block (w := w) (a := ⟨g, j, none⟩) (hb.block g (h.lt (by omega)))
  exact ⟨fun hn => Nat.lt_of_lt_of_le (h.lt hn) hb.size, fun i hi => (k i hi _).trans (h.c0 i hi), fun i hi => (k i hi _).trans (h.c1 i hi), fun i hi => (k i hi _).trans (h.c2 i hi), fun i hi => (k i hi _).trans (h.c3 i hi), fun i hi => (k i hi _).trans (h.c4 i hi), fun i hi => (k i hi _).trans (h.c5 i hi), fun i hi => (k i hi _).trans (h.c6 i hi), fun i hi => (k i hi _).trans (h.c7 i hi), fun i hi => (k i hi _).trans (h.c8 i hi), fun i hi => (k i hi _).trans (h.c9 i hi), fun i hi => (k i hi _).trans (h.c10 i hi)⟩
theorem rowT_get : ∀ (l : List Trm) (i j : Nat), i < l.length → j < 11 → (rowT l)[i * 11 + j]? = (trC (l.getD i trm0))[j]?
  | [], i, j, h, _ => by simp at h
  | t :: l, 0, j, _, hj => by
    rw [rowT, Nat.zero_mul, Nat.zero_add, List.getElem?_append_left (by show j < 11; exact hj), Array.getElem?_toList]; rfl
  | t :: l, i + 1, j, h, hj => by
    rw [rowT, List.getElem?_append_right (by show 11 ≤ _; omega), show (i + 1) * 11 + j - (trC t).toList.length = i * 11 + j by show _ - 11 = _; omega, rowT_get l i j (by simpa using h) hj]
    rfl
theorem OwnT.read {B g n c : Nat} {ts : List Trm} {w : World} (h : OwnT B (.slice (some ⟨g, 0, none⟩) n c) ts w) : TmR w g ts := by
  have hn : n = ts.length := by
    rcases h.shape with ⟨h, _⟩ | ⟨_, _, h, _⟩
    · cases h
    · injection h
  subst hn
  have hlt : g < w.heap.size := by
    rcases h.shape with ⟨h, _⟩ | ⟨g', c', h, _, cur, hc⟩
    · cases h
    · injection h with h _ _
      injection h with h
      injection h with h _ _
      subst h
      exact lt_of_blk hc
  have key : ∀ i < ts.length, ∀ j < 11, w.cell? ⟨g, i * 11 + j, none⟩ = (trC (ts.getD i trm0))[j]? := fun i hi j hj => by
    rw [← rowT_get ts i j hi hj]
    exact World.ownsRow.cellAt h (i * 11 + j) (by omega)
  exact ⟨fun _ => hlt, fun i hi => key i hi 0 (by omega), fun i hi => key i hi 1 (by omega), fun i hi => key i hi 2 (by omega), fun i hi => key i hi 3 (by omega), fun i hi => key i hi 4 (by omega), fun i hi => key i hi 5 (by omega), fun i hi => key i hi 6 (by omega), fun i hi => key i hi 7 (by omega), fun i hi => key i hi 8 (by omega), fun i hi => key i hi 9 (by omega), fun i hi => key i hi 10 (by omega)⟩
theorem kd_num {j : Nat} (h : j < 8) : (kdG j).num = (j : Int) + 1 := by
  rcases (show j = 0 ∨ j = 1 ∨ j = 2 ∨ j = 3 ∨ j = 4 ∨ j = 5 ∨ j = 6 ∨ j = 7 by omega) with rfl | rfl | rfl | rfl | rfl | rfl | rfl | rfl <;> rfl
theorem fnd_num {u : Nat → Value} {v : Value} {ix : Nat} (hix : ix < 8) (h : fndV u (fun i => (kdG i).num == ((ix : Int) + 1)) v) : v = .tuple #[kV (kdG ix) (u ix), .bool true] := by
  rcases h with ⟨hn, _⟩ | ⟨i, hi, h1, h2, rfl⟩
  · have := hn ix hix
    simp only [kd_num hix, beq_self_eq_true] at this
    cases this
  · have h1' : (kdG i).num = (ix : Int) + 1 := by simpa using h1
    rw [kd_num hi] at h1'
    have : i = ix := by omega
    rw [this]
structure MsR (w0 : World) (B : Nat) (u : Nat → Value) (t : Trm) (ix m i : Nat) (xs ys : List (Int × Int)) : Prop where
  lt8 : ix < 8
  kd : t.kind = (ix : Int) + 1
  pt : (kdG ix).parts = (m : Int)
  m2 : m ≤ 2
  fit : ∀ wx, Below w0.heap.size w0 wx → Calls Tryz.prog 103 #[kV (kdG ix) (u ix), .agg (trC t)] wx fun e w' => e = .returned (.bool true) ∧ Below wx.heap.size wx w'
  jn : ∀ v g wx, OwnL B v xs wx → B ≤ wx.heap.size → PtsB wx g t.a t.b → Calls Tryz.prog 104 #[v, .int .i64 i, .slice (some ⟨g, 0, none⟩) m 2] wx fun e w' => ∃ v', e = .returned (.tuple #[v', .bool true]) ∧ OwnL B v' ys w' ∧ Below B wx w'
set_option maxRecDepth 20000 in
set_option maxHeartbeats 12800000 in
theorem measure_ok (ts : List Trm) (n g c : Nat) (hn : ts.length = n) (hn1 : 1 ≤ n) (hn2 : n ≤ 1000) (S : Nat → List (Int × Int)) (ix m : Nat → Nat) (d : Int) (hS0 : S 0 = []) (hSn : S n = [(((n : Int) - 1), d)]) (hd : d ≤ 64) (w : World) (hs : TmR w g ts)
    (hR : ∀ (u : Nat → Value) (w0 : World) (h : Nat), TabC h u w0 → ∀ k < n, MsR w0 w0.heap.size u (ts.getD k trm0) (ix k) (m k) k (S k) (S (k + 1))) :
    Calls Tryz.prog 60 #[.slice (some ⟨g, 0, none⟩) n c] w fun e w' => e = .returned (.tuple #[.int .i64 d, .int .i64 0, .int .i64 0]) ∧ Below w.heap.size w w' := by
  have HS := hidD (And.intro hs hn)
  have HR := hidD hR
  have HE := hidD (And.intro hS0 hSn)
  have i0 : ¬ (1024 : Int) < (n : Int) := by omega
  have hst := store_fltD
  clear hs hn hR hS0 hSn
  go_enter Tryz.func60, Tryz.ntmps60
  go_wp2_with fail
  refine (kinds_any _).mono ?_
  rintro e wk ⟨v, rfl, hv, hb⟩
  obtain ⟨h, u, rfl, ht⟩ := tab_open hv
  have HT := hidD ht
  have HB := hidD hb
  have HRk := hidD (HR.out u wk h ht)
  have HSk := hidD (HS.out.1.below hb)
  clear hv hb ht HR
  go_wp2_with fail
  go_loopw [6, 18] (fun sv i wr => ∃ k : Nat, k ≤ n ∧ i = .int .i64 k ∧ Hid (OwnL wk.heap.size sv (S k) wr) ∧ Hid (Below wk.heap.size wk wr)) (fun _ i _ => n - (intOf i).toNat)
  case atStart => exact ⟨0, Nat.zero_le _, rfl, by rw [HE.out.1]; exact ownL_nil _ _, Below.refl _ _⟩
  case round =>
    obtain ⟨k, hk, rfl, HO, HW⟩ := hrel
    by_cases hlt : k < n
    · have hlt' : k < ts.length := by rw [HS.out.2]; exact hlt
      have HSr := hidD (HSk.out.below HW.out)
      have c0 := HSr.out.c0 k hlt'
      have c1 := HSr.out.c1 k hlt'
      have c2 := HSr.out.c2 k hlt'
      have c3 := HSr.out.c3 k hlt'
      have c4 := HSr.out.c4 k hlt'
      have c5 := HSr.out.c5 k hlt'
      have c6 := HSr.out.c6 k hlt'
      have c7 := HSr.out.c7 k hlt'
      have c8 := HSr.out.c8 k hlt'
      have c9 := HSr.out.c9 k hlt'
      have c10 := HSr.out.c10 k hlt'
      have HM := hidD (HRk.out k hlt)
      have HTr := hidD (HT.out.below HW.out)
      generalize ht : ts.getD k trm0 = t at *
      clear ht
      have i1 : (k : Int) < (n : Int) := by omega
      obtain ⟨p, q, hu, hq⟩ := (HTr.out.slc (ix k) HM.out.lt8).shape
      clear hq
      have HU := hidD hu
      have HOf : Hid (∀ wx, TabC h u wx → Calls Tryz.prog 102 #[.slice (some ⟨h, 0, none⟩) 8 8, .int .i64 t.kind] wx fun e w' => e = .returned (.tuple #[.agg #[.int .i64 (kdG (ix k)).num, .string (kdG (ix k)).word, .slice p q q, .int .i64 (kdG (ix k)).parts, .func (.func (kdG (ix k)).mean) #[] #[]], .bool true]) ∧ Below wx.heap.size wx w') := fun wx ht => (ofNumber_any h u t.kind wx ht).mono fun e w' ⟨v, he, hv, hb⟩ => ⟨by
        rw [HM.out.kd] at hv
        have := fnd_num HM.out.lt8 hv
        rw [hu] at this
        rw [he, this]; rfl, hb⟩
      have HFt : Hid (∀ wx, Below wk.heap.size wk wx → Calls Tryz.prog 103 #[.agg #[.int .i64 (kdG (ix k)).num, .string (kdG (ix k)).word, .slice p q q, .int .i64 (kdG (ix k)).parts, .func (.func (kdG (ix k)).mean) #[] #[]], .agg #[.int .i64 t.kind, .int .i64 t.a, .int .i64 t.b, .float .f64 t.x, .float .f64 t.y, .int .i64 t.day, .int .i64 t.to, .int .i64 t.cur, .int .i64 t.count, .int .i64 t.n, .int .i64 t.months]] wx fun e w' => e = .returned (.bool true) ∧ Below wx.heap.size wx w') := fun wx hx => by
        have := HM.out.fit wx hx
        unfold kV at this
        rw [hu] at this
        exact this
      have HPa : Hid (∀ wx, Calls Tryz.prog 105 #[.agg #[.int .i64 (kdG (ix k)).num, .string (kdG (ix k)).word, .slice p q q, .int .i64 (kdG (ix k)).parts, .func (.func (kdG (ix k)).mean) #[] #[]], .agg #[.int .i64 t.kind, .int .i64 t.a, .int .i64 t.b, .float .f64 t.x, .float .f64 t.y, .int .i64 t.day, .int .i64 t.to, .int .i64 t.cur, .int .i64 t.count, .int .i64 t.n, .int .i64 t.months]] wx fun e w' => e = .returned (.slice (some ⟨wx.heap.size + 1 + 1, 0, none⟩) (m k) 2) ∧ PtsB w' (wx.heap.size + 1 + 1) t.a t.b ∧ Below wx.heap.size wx w') := fun wx => partsOf_any (kdG (ix k)) p q (m k) HM.out.pt HM.out.m2 t wx
      clear hu
      go_wp2_with fail
      have Ht1 : Hid (TrB (wr.alloc (.cells #[.int .i64 t.kind, .int .i64 t.a, .int .i64 t.b, .float .f64 t.x, .float .f64 t.y, .int .i64 t.day, .int .i64 t.to, .int .i64 t.cur, .int .i64 t.count, .int .i64 t.n, .int .i64 t.months] 48)) wr.heap.size t) := heap_alloc_new _ _
      refine (HOf.out _ (HTr.out.below (al_bel _ _))).mono ?_
      rintro e w1 ⟨rfl, hb1⟩
      have HB1 := hidD ((al_bel wr _).trans (hb1.mono (by simp)))
      have Ht2 := hidD ((Ht1.out.below hb1).below (al_bel w1 (.cells #[.int .i64 (kdG (ix k)).num, .string (kdG (ix k)).word, .slice p q q, .int .i64 (kdG (ix k)).parts, .func (.func (kdG (ix k)).mean) #[] #[]] 110)))
      have Hk2 := hidD (heap_alloc_new w1 (.cells #[.int .i64 (kdG (ix k)).num, .string (kdG (ix k)).word, .slice p q q, .int .i64 (kdG (ix k)).parts, .func (.func (kdG (ix k)).mean) #[] #[]] 110))
      have HW2 := hidD (HW.out.trans ((HB1.out.trans ((al_bel w1 (.cells #[.int .i64 (kdG (ix k)).num, .string (kdG (ix k)).word, .slice p q q, .int .i64 (kdG (ix k)).parts, .func (.func (kdG (ix k)).mean) #[] #[]] 110)).mono HB1.out.size)).mono HW.out.size))
      obtain ⟨d0, d1, d2, d3, d4, d5, d6, d7, d8, d9, d10⟩ := trm_cells Ht2.out
      obtain ⟨e0, e1, e2, e3, e4⟩ := cellK_of Hk2.out
      clear hb1 c0 c1 c2 c3 c4 c5 c6 c7 c8 c9 c10 HOf Ht1
      go_wp2_with fail
      refine (HFt.out _ HW2.out).mono ?_
      rintro e w2 ⟨rfl, hb2⟩
      have Ht3 := hidD (Ht2.out.below hb2)
      have Hk3 := hidD ((hb2.block _ (lt_of_blk Hk2.out)).trans Hk2.out)
      have HW3 := hidD (HW2.out.trans (hb2.mono HW2.out.size))
      have HO3 := hidD (((HO.out.below HB1.out).below (al_bel w1 (.cells #[.int .i64 (kdG (ix k)).num, .string (kdG (ix k)).word, .slice p q q, .int .i64 (kdG (ix k)).parts, .func (.func (kdG (ix k)).mean) #[] #[]] 110))).below hb2)
      clear hb2 d0 d1 d2 d3 d4 d5 d6 d7 d8 d9 d10 e0 e1 e2 e3 e4 HFt Ht2 Hk2 HW2
      obtain ⟨d0, d1, d2, d3, d4, d5, d6, d7, d8, d9, d10⟩ := trm_cells Ht3.out
      obtain ⟨e0, e1, e2, e3, e4⟩ := cellK_of Hk3.out
      go_wp2_with fail
      refine (HPa.out _).mono ?_
      rintro e w3 ⟨rfl, hp3, hb3⟩
      have HW4 := hidD (HW3.out.trans (hb3.mono HW3.out.size))
      have HJ := hidD (HM.out.jn _ _ w3 (HO3.out.below hb3) HW4.out.size hp3)
      clear hb3 hp3 d0 d1 d2 d3 d4 d5 d6 d7 d8 d9 d10 e0 e1 e2 e3 e4
      go_wp2_with fail
      refine HJ.out.mono ?_
      rintro e w4 ⟨v4, rfl, ho4, hb4⟩
      have HO5 := hidD ho4
      have HW5 := hidD (HW4.out.trans hb4)
      clear ho4 hb4 HJ
      go_wp2_with fail
      go_roundw
      case rel => exact ⟨k + 1, by omega, by simp, HO5, HW5⟩
      case measure => simp [intOf]; omega
    · obtain rfl : k = n := by omega
      have i1 : ¬ (k : Int) < (k : Int) := by omega
      rw [HE.out.2] at HO
      obtain ⟨p, cc, gg, hv, hcc, hp, _, _, hcl, _⟩ := HO.out.src
      obtain rfl := hp (by simp)
      have hv' : _ = Value.slice (some ⟨gg, 0, none⟩) 1 cc := hv
      obtain ⟨x0, x1⟩ := hcl 0 (by simp)
      have x1' : _ = some (Value.int .i64 d) := x1
      rw [Nat.zero_mul, Nat.zero_add] at x1'
      have HBf := hidD (HB.out.trans (HW.out.mono HB.out.size))
      have i2 : ¬ (64 : Int) < d := by omega
      clear hv hcl hp hcc x0 x1 HO
      subst hv'
      go_wp2_with fail
      go_ret3
      exact ⟨rfl, HBf.out⟩
end Go.Proofs.YtonojdapfnlckaaGreatDoor
namespace Go.Proofs.YtonojdapfnlckaaGreatDoor
open Go.RowKit

theorem orow_nil (B : Nat) (w : World) (T : TypeId) (sz : Nat) : w.ownsRow B T sz (.slice none 0 0) 0 [] := ⟨by simp, .inl ⟨rfl, rfl⟩⟩
theorem orow_keep {B sz n : Nat} {T : TypeId} {v : Value} {xs : List Value} {w w' : World} (h : w.ownsRow B T sz v n xs) (hb : ∀ g, v.ownBlock = some g → w'.heap[g]? = w.heap[g]?) : w'.ownsRow B T sz v n xs := by
  refine ⟨h.1, ?_⟩
  rcases h.2 with hn | ⟨g, cap, cur, rfl, hg, hgg, rest⟩
  · exact .inl hn
  · exact .inr ⟨g, cap, cur, rfl, hg, by rw [hb g rfl]; exact hgg, rest⟩
theorem orow_below {B sz n : Nat} {T : TypeId} {v : Value} {xs : List Value} {w w' : World} (h : w.ownsRow B T sz v n xs) (hb : Below w.heap.size w w') : w'.ownsRow B T sz v n xs :=
  orow_keep h fun g hg => hb.block _ (h.lt g hg).2
theorem orow_grown {w w' : World} {v : Value} {B n sz : Nat} {e : TypeId} {xs : List Value} (ho : w.ownsRow B e sz v n xs) (hg : w.grownBy w' v.ownBlock) (hB : B ≤ w.heap.size) : Below B w w' :=
  (Below.refl B w).grown hg hB (fun k hk => (ho.lt k hk).1)
theorem orow_src {B sz n : Nat} {T : TypeId} {v : Value} {xs : List Value} {w : World} (h : w.ownsRow B T sz v n xs) : ∃ p c g, v = .slice p n c ∧ n ≤ c ∧ c ≤ maxLen ∧ (0 < n → p = some ⟨g, 0, none⟩) ∧ (p = none → c = 0) ∧ (∀ a, p = some a → a = ⟨g, 0, none⟩ ∧ B ≤ g ∧ g < w.heap.size) ∧ (∀ j < n * sz, w.cell? ⟨g, j, none⟩ = xs[j]?) ∧ ∀ k ≤ n, w.ownsRow B T sz (.slice p k c) k (xs.take (k * sz)) := by
  rcases h.2 with ⟨rfl, rfl⟩ | ⟨g, cap, cur, rfl, hg, hgg, hnc, hcm, hsz, htk⟩
  · refine ⟨none, 0, 0, rfl, Nat.le_refl _, Nat.zero_le _, fun h => absurd h (by omega), fun _ => rfl, (fun a h => by cases h), fun j hj => absurd hj (by omega), fun k hk => ?_⟩
    obtain rfl : k = 0 := by omega
    rw [Nat.zero_mul, List.take_zero]
    exact orow_nil _ _ _ _
  · refine ⟨_, cap, g, rfl, hnc, hcm, fun _ => rfl, (fun h => by cases h), fun a ha => ⟨by injection ha with ha; exact ha.symm, hg, lt_of_blk hgg⟩, fun j hj => World.ownsRow.cellAt h j hj, fun k hk => ?_⟩
    have hks : k * sz ≤ n * sz := Nat.mul_le_mul_right sz hk
    refine ⟨by rw [List.length_take, h.1]; omega, .inr ⟨g, cap, cur, rfl, hg, hgg, by omega, hcm, hsz, ?_⟩⟩
    rw [← htk, List.take_take, Nat.min_eq_left hks]
def rowV {α : Type} (f : α → Array Value) : List α → List Value
  | [] => []
  | o :: l => (f o).toList ++ rowV f l
theorem rowV_len {α : Type} {f : α → Array Value} {s : Nat} (hf : ∀ o, (f o).size = s) : ∀ l : List α, (rowV f l).length = l.length * s
  | [] => by simp [rowV]
  | o :: l => by rw [rowV, List.length_append, rowV_len hf l, List.length_cons, Nat.add_mul, Nat.one_mul, Array.length_toList, hf]; omega
theorem rowV_append {α : Type} (f : α → Array Value) : ∀ a b : List α, rowV f (a ++ b) = rowV f a ++ rowV f b
  | [], _ => rfl
  | t :: a, b => by rw [List.cons_append, rowV, rowV, rowV_append f a b, List.append_assoc]
theorem rowV_one {α : Type} {f : α → Array Value} (hf : ∀ o, ∀ u ∈ (f o).toList, u.oneCell' = true) : ∀ (l : List α), ∀ u ∈ rowV f l, u.oneCell' = true
  | [], u, h => by cases h
  | t :: l, u, h => by
    rw [rowV, List.mem_append] at h
    rcases h with h | h
    · exact hf t u h
    · exact rowV_one hf l u h
theorem rowV_get {α : Type} {f : α → Array Value} {s : Nat} (hf : ∀ o, (f o).size = s) (d : α) : ∀ (l : List α) (i j : Nat), i < l.length → j < s → (rowV f l)[i * s + j]? = (f (l.getD i d))[j]?
  | [], i, j, h, _ => by simp at h
  | x :: l, 0, j, _, hj => by
    rw [rowV, Nat.zero_mul, Nat.zero_add, List.getElem?_append_left (by rw [Array.length_toList, hf]; exact hj), Array.getElem?_toList]
    rfl
  | x :: l, i + 1, j, h, hj => by
    have := rowV_get hf d l i j (by simpa using h) hj
    rw [rowV, List.getElem?_append_right (by rw [Array.length_toList, hf, Nat.add_mul]; omega), Array.length_toList, hf, show (i + 1) * s + j - s = i * s + j by rw [Nat.add_mul]; omega, this]
    rfl
theorem rowV_take {α : Type} {f : α → Array Value} {s : Nat} (hf : ∀ o, (f o).size = s) : ∀ (l : List α) (k : Nat), rowV f (l.take k) = (rowV f l).take (k * s)
  | [], k => by simp [rowV]
  | x :: l, 0 => by simp [rowV]
  | x :: l, k + 1 => by
    have e1 : (f x).toList.length = s := by rw [Array.length_toList, hf]
    have e2 : ((f x).toList).take ((k + 1) * s) = (f x).toList := List.take_of_length_le (by rw [e1, Nat.add_mul]; omega)
    rw [List.take_succ_cons, rowV, rowV, rowV_take hf l k, List.take_append, e1, e2, show (k + 1) * s - s = k * s by rw [Nat.add_mul]; omega]
theorem step_append_g {T ST : TypeId} {z : Value} {sz bt : Nat} (hu : Tryz.prog.underlying ST = some (.slice T)) (hinf : (Tryz.prog.info? T).map (fun i => (i.zero, i.size, i.bytes)) = some (some z, sz, bt)) (hzs : z.cells.size = sz) (hsz : 0 < sz)
    {ops : Array Oper} {o : Oper} {a : Act} {w : World} {K : Act → World → Prop} {Q : Exit → Act → World → Prop} {E : Prop} (hgd : o.guard = none) (s x : Operand)
    (ho : o.op = .call { callee := .builtin .append, args := #[s, x], argTypes := #[ST, ST] })
    (B : Nat) (v : Value) (n : Nat) (xs : List Value) (hs : a.eval s = v) (hown : w.ownsRow B T sz v n xs) (hb : B ≤ w.heap.size)
    (g m c : Nat) (news : List Value) (hx : a.eval x = .slice (some ⟨g, 0, none⟩) m c) (hl : news.length = m * sz) (hc : ∀ j u, news[j]? = some u → w.cell? ⟨g, j, none⟩ = some u) (h1 : ∀ u ∈ news, u.oneCell' = true) (hn : n + m ≤ 140737488355328) (hn2 : (n + m) * bt ≤ 140737488355328)
    (h : ∀ v' w', w'.ownsRow B T sz v' (n + m) (xs ++ news) → w.grownBy w' v.ownBlock → K (a.put o.dst v') w') :
    if Region.wanted o (yielded ops a.tmps) = true then Oper.wp Tryz.prog o a w K Q else E := by
  have hw : Region.wanted o (yielded ops a.tmps) = true := by simp [Region.wanted, hgd]
  rw [if_pos hw]
  obtain ⟨i0, hi, hz0, hz1, hz2⟩ := info_partsD hinf
  refine wp_append_own w s x ST ho B T i0 z sz bt hu hi hz0 hz1 hz2 hzs hsz v n xs hs hown ⟨g, 0, none⟩ m c news hx hl ?_ h1 (by unfold maxLen; omega) hn2 hb (fun v' w' h1 h2 _ => h v' w' h1 h2)
  intro j u hj
  rw [Addr.add_lit, Nat.zero_add]
  exact hc j u hj
theorem wpList_append_g (w : World) {T ST : TypeId} {z : Value} {sz bt : Nat} (hu : Tryz.prog.underlying ST = some (.slice T)) (hinf : (Tryz.prog.info? T).map (fun i => (i.zero, i.size, i.bytes)) = some (some z, sz, bt)) (hzs : z.cells.size = sz) (hsz : 0 < sz)
    {ops : Array Oper} {rest : List Oper} {o : Oper} {a : Act} {Q : Exit → Act → World → Prop} (hgd : o.guard = none) (s x : Operand)
    (ho : o.op = .call { callee := .builtin .append, args := #[s, x], argTypes := #[ST, ST] })
    (B : Nat) (v : Value) (n : Nat) (xs : List Value) (hs : a.eval s = v) (hown : w.ownsRow B T sz v n xs) (hb : B ≤ w.heap.size)
    (g m c : Nat) (news : List Value) (hx : a.eval x = .slice (some ⟨g, 0, none⟩) m c) (hl : news.length = m * sz) (hc : ∀ j u, news[j]? = some u → w.cell? ⟨g, j, none⟩ = some u) (h1 : ∀ u ∈ news, u.oneCell' = true) (hn : n + m ≤ 140737488355328) (hn2 : (n + m) * bt ≤ 140737488355328)
    (h : ∀ v' w', w'.ownsRow B T sz v' (n + m) (xs ++ news) → w.grownBy w' v.ownBlock → wpList Tryz.prog ops Q rest (a.put o.dst v') w') : wpList Tryz.prog ops Q (o :: rest) a w := by
  obtain ⟨i0, hi, hz0, hz1, hz2⟩ := info_partsD hinf
  refine wpList_append_own w hgd s x ST ho B T i0 z sz bt hu hi hz0 hz1 hz2 hzs hsz v n xs hs hown ⟨g, 0, none⟩ m c news hx hl ?_ h1 (by unfold maxLen; omega) hn2 hb (fun v' w' h1 h2 _ => h v' w' h1 h2)
  intro j u hj
  rw [Addr.add_lit, Nat.zero_add]
  exact hc j u hj
theorem new_cells (w : World) (xs : Array Value) (T : TypeId) : ∀ j u, xs.toList[j]? = some u → (w.alloc (.cells xs T)).cell? ⟨w.heap.size, j, none⟩ = some u := fun j u h => by
  have := box_cell w xs T j
  rw [this, ← h, Array.getElem?_toList]
end Go.Proofs.YtonojdapfnlckaaGreatDoor
