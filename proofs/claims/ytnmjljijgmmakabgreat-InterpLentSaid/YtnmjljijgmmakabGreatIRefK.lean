/- The contract of the document's Of: a table of the program's, its values as bits. -/
import Derived.Test.YtnmjljijgmmakabGreatHaj
import Derived.Test.YtnmjljijgmmakabGreatHam
import Derived.Deep.RegionLaw
namespace Go.Proofs.YtnmjljijgmmakabGreat
open Go.RowKit

/-- An append of one word to a row of one's own, as one step of a region that draws. -/
theorem step_append_ur {ops : Array Oper} {o : Oper} {a : Act} {w : World} {K : Act → World → Prop} {Q : Exit → Act → World → Prop} {E : Prop} (hgd : o.guard = none) (s x : Operand)
    (ho : o.op = .call { callee := .builtin .append, args := #[s, x], argTypes := #[27, 27] })
    (base : Nat) (v : Value) (n : Nat) (xs : List Nat) (hs : a.eval s = v) (hown : w.ownsRow base 41 1 v n (xs.map uV))
    (g : Nat) (z : Nat) (hx : a.eval x = .slice (some ⟨g, 0, none⟩) 1 1) (hc : w.cell? ⟨g, 0, none⟩ = some (.int .u64 (z : Int))) (hn : n ≤ 17592186044415) (hbase : base ≤ w.heap.size)
    (h : ∀ v' w', w'.ownsRow base 41 1 v' (n + 1) ((xs ++ [z]).map uV) → w.grownBy w' v.ownBlock → K (a.put o.dst v') w') :
    if Region.wanted o (yielded ops a.tmps) = true then Oper.wp Tryz.prog o a w K Q else E := by
  have hw : Region.wanted o (yielded ops a.tmps) = true := by simp [Region.wanted, hgd]
  rw [if_pos hw]
  obtain ⟨i0, hi, hz0, hz1, hz2⟩ := info_parts info_ur
  refine wp_append_own w s x 27 ho base 41 i0 (.int .u64 0) 1 8 Tryz.underlying27 hi hz0 hz1 hz2 rfl (by decide) v n (xs.map uV) hs hown ⟨g, 0, none⟩ 1 1 [uV z] hx rfl ?_ (fun u hu => by rw [List.mem_singleton] at hu; rw [hu]; rfl) (by unfold maxLen; omega) (by omega) hbase ?_
  · intro j u hj
    cases j with
    | zero =>
      have : uV z = u := Option.some.inj hj
      rw [← this, Addr.add_lit]
      exact hc
    | succ j => cases hj
  · intro v' w' h1 h2 _
    refine h v' w' ?_ h2
    rw [List.map_append]; exact h1
def fV10 (ys : List Nat) (j : Nat) : Value := .float .f64 (ys.getD j 0)
/-- Of's three boxes. -/
structure OfB (w : World) (kind : Int) (vx vf vo : Value) (wr : World) : Prop where
  t0 : wr.cell? ⟨w.heap.size, 0, none⟩ = some (.int .i64 kind)
  t1 : wr.cell? ⟨w.heap.size, 1, none⟩ = some vx
  t2 : wr.cell? ⟨w.heap.size, 2, none⟩ = some vf
  d0 : wr.cell? ⟨w.heap.size + 1, 0, none⟩ = some (.int .i64 0)
  d1 : wr.cell? ⟨w.heap.size + 1, 1, none⟩ = some (.slice none 0 0)
  d2 : wr.cell? ⟨w.heap.size + 1, 2, none⟩ = some (.slice none 0 0)
  e0 : wr.frozen? ⟨w.heap.size + 1, 0, none⟩ = false
  e1 : wr.frozen? ⟨w.heap.size + 1, 1, none⟩ = false
  e2 : wr.frozen? ⟨w.heap.size + 1, 2, none⟩ = false
  o0 : wr.cell? ⟨w.heap.size + 2, 0, none⟩ = some (.int .i64 kind)
  o1 : wr.cell? ⟨w.heap.size + 2, 1, none⟩ = some vx
  o2 : wr.cell? ⟨w.heap.size + 2, 2, none⟩ = some vo
  f2 : wr.frozen? ⟨w.heap.size + 2, 2, none⟩ = false
  bl : Below w.heap.size w wr
  sz : w.heap.size + 3 ≤ wr.heap.size
theorem OfB.stay {w wr w' : World} {kind : Int} {vx vf vo : Value} (h : OfB w kind vx vf vo wr) (hb : Below (w.heap.size + 3) wr w') : OfB w kind vx vf vo w' := by
  have c : ∀ k < 3, ∀ j, w'.cell? ⟨w.heap.size + k, j, none⟩ = wr.cell? ⟨w.heap.size + k, j, none⟩ := fun k hk j => hb.cell (p := ⟨w.heap.size + k, j, none⟩) (by show w.heap.size + k < _; omega)
  have g : ∀ k < 3, ∀ j, w'.frozen? ⟨w.heap.size + k, j, none⟩ = wr.frozen? ⟨w.heap.size + k, j, none⟩ := fun k hk j => hb.frozen (p := ⟨w.heap.size + k, j, none⟩) (by show w.heap.size + k < _; omega)
  exact ⟨(c 0 (by omega) 0).trans h.t0, (c 0 (by omega) 1).trans h.t1, (c 0 (by omega) 2).trans h.t2, (c 1 (by omega) 0).trans h.d0, (c 1 (by omega) 1).trans h.d1, (c 1 (by omega) 2).trans h.d2, (g 1 (by omega) 0).trans h.e0, (g 1 (by omega) 1).trans h.e1, (g 1 (by omega) 2).trans h.e2, (c 2 (by omega) 0).trans h.o0, (c 2 (by omega) 1).trans h.o1, (c 2 (by omega) 2).trans h.o2, (g 2 (by omega) 2).trans h.f2, h.bl.trans (hb.mono (by omega)), Nat.le_trans h.sz hb.size⟩
theorem OfB.put {w wr : World} {kind : Int} {vx vf vo : Value} (h : OfB w kind vx vf vo wr) (v : Value) : OfB w kind vx vf v (wr.setCell ⟨w.heap.size + 2, 2, none⟩ v) := by
  have hb : Below (w.heap.size + 2) wr (wr.setCell ⟨w.heap.size + 2, 2, none⟩ v) := (Below.refl _ wr).setCell (p := ⟨w.heap.size + 2, 2, none⟩) (Nat.le_refl _) v
  have c : ∀ k < 2, ∀ j, (wr.setCell ⟨w.heap.size + 2, 2, none⟩ v).cell? ⟨w.heap.size + k, j, none⟩ = wr.cell? ⟨w.heap.size + k, j, none⟩ := fun k hk j => hb.cell (p := ⟨w.heap.size + k, j, none⟩) (by show w.heap.size + k < _; omega)
  have g : ∀ k < 2, ∀ j, (wr.setCell ⟨w.heap.size + 2, 2, none⟩ v).frozen? ⟨w.heap.size + k, j, none⟩ = wr.frozen? ⟨w.heap.size + k, j, none⟩ := fun k hk j => hb.frozen (p := ⟨w.heap.size + k, j, none⟩) (by show w.heap.size + k < _; omega)
  refine ⟨(c 0 (by omega) 0).trans h.t0, (c 0 (by omega) 1).trans h.t1, (c 0 (by omega) 2).trans h.t2, (c 1 (by omega) 0).trans h.d0, (c 1 (by omega) 1).trans h.d1, (c 1 (by omega) 2).trans h.d2, (g 1 (by omega) 0).trans h.e0, (g 1 (by omega) 1).trans h.e1, (g 1 (by omega) 2).trans h.e2, ?_, ?_, ?_, ?_, h.bl.setCell (p := ⟨w.heap.size + 2, 2, none⟩) (by show w.heap.size ≤ w.heap.size + 2; omega) v, by simpa using h.sz⟩
  · simp [h.o0, go_sem]
  · simp [h.o1, go_sem]
  · simp [h.o2, go_sem]
  · simp [h.f2, go_sem]
theorem newC0 (W : World) (cs : Array Value) (t : TypeId) (k : Nat) : (W.alloc (.cells cs t)).cell? ⟨W.heap.size, k, none⟩ = cs[k]? := by simp
theorem ofB_at (w : World) (kind : Int) (vx vf : Value) : OfB w kind vx vf (.slice none 0 0) (((w.alloc (.cells #[.int .i64 kind, vx, vf] 25)).alloc (.cells #[.int .i64 0, .slice none 0 0, .slice none 0 0] 29)).alloc (.cells #[.int .i64 kind, vx, .slice none 0 0] 29)) := by
  have hA : ∀ (w : World) o, Below w.heap.size w (w.alloc o) := fun w o => (Below.refl _ _).alloc (Nat.le_refl _) _
  generalize hw1 : w.alloc (.cells #[.int .i64 kind, vx, vf] 25) = w1
  have z1 : w1.heap.size = w.heap.size + 1 := by rw [← hw1]; simp
  generalize hw2 : w1.alloc (.cells #[.int .i64 0, .slice none 0 0, .slice none 0 0] 29) = w2
  have z2 : w2.heap.size = w.heap.size + 2 := by rw [← hw2]; simp [z1]
  have c1 : ∀ j, w1.cell? ⟨w.heap.size, j, none⟩ = (#[.int .i64 kind, vx, vf] : Array Value)[j]? := fun j => by rw [← hw1]; exact newC0 w _ _ j
  have c2 : ∀ j, w2.cell? ⟨w.heap.size + 1, j, none⟩ = (#[.int .i64 0, .slice none 0 0, .slice none 0 0] : Array Value)[j]? := fun j => by rw [← hw2, ← z1]; exact newC0 w1 _ _ j
  have c3 : ∀ j, (w2.alloc (.cells #[.int .i64 kind, vx, .slice none 0 0] 29)).cell? ⟨w.heap.size + 2, j, none⟩ = (#[.int .i64 kind, vx, .slice none 0 0] : Array Value)[j]? := fun j => by rw [← z2]; exact newC0 w2 _ _ j
  have k2 : ∀ j, w2.cell? ⟨w.heap.size, j, none⟩ = w1.cell? ⟨w.heap.size, j, none⟩ := fun j => by rw [← hw2]; exact (hA w1 _).cell (p := ⟨w.heap.size, j, none⟩) (by show w.heap.size < w1.heap.size; omega)
  have k3 : ∀ k < 2, ∀ j o, (w2.alloc o).cell? ⟨w.heap.size + k, j, none⟩ = w2.cell? ⟨w.heap.size + k, j, none⟩ := fun k hk j o => (hA w2 o).cell (p := ⟨w.heap.size + k, j, none⟩) (by show w.heap.size + k < w2.heap.size; omega)
  have g3 : ∀ j o, (w2.alloc o).frozen? ⟨w.heap.size + 1, j, none⟩ = false := fun j o => by
    rw [(hA w2 o).frozen (p := ⟨w.heap.size + 1, j, none⟩) (by show w.heap.size + 1 < w2.heap.size; omega), ← hw2, ← z1]
    exact World.frozen?_alloc_new _ _ _ _
  have hb : Below w.heap.size w (w2.alloc (.cells #[.int .i64 kind, vx, .slice none 0 0] 29)) := by
    have b1 : Below w.heap.size w w1 := by rw [← hw1]; exact hA w _
    have b2 : Below w.heap.size w w2 := by rw [← hw2]; exact b1.alloc b1.size _
    exact b2.alloc b2.size _
  exact ⟨((k3 0 (by omega) 0 _).trans (k2 0)).trans (c1 0), ((k3 0 (by omega) 1 _).trans (k2 1)).trans (c1 1), ((k3 0 (by omega) 2 _).trans (k2 2)).trans (c1 2), (k3 1 (by omega) 0 _).trans (c2 0), (k3 1 (by omega) 1 _).trans (c2 1), (k3 1 (by omega) 2 _).trans (c2 2), g3 0 _, g3 1 _, g3 2 _, c3 0, c3 1, c3 2, by rw [← z2]; exact World.frozen?_alloc_new _ _ _ _, hb, by simp; omega⟩
theorem uown_put {w : World} {base n b j : Nat} {v : Value} {xs : List Nat} (h : w.ownsRow base 41 1 v n (xs.map uV)) (hb : b < base) (x : Value) : (w.setCell ⟨b, j, none⟩ x).ownsRow base 41 1 v n (xs.map uV) := by
  refine ⟨h.1, ?_⟩
  rcases h.2 with hn | ⟨g, cap, cur, rfl, hg, hgg, rest⟩
  · exact .inl hn
  · exact .inr ⟨g, cap, cur, rfl, hg, by rw [Below.heap_setCell w ⟨b, j, none⟩ x g (by show g ≠ b; omega)]; exact hgg, rest⟩
theorem uown_mono10 {w : World} {base base' n : Nat} {v : Value} {xs : List Value} (h : w.ownsRow base 41 1 v n xs) (hb : base' ≤ base) : w.ownsRow base' 41 1 v n xs := by
  refine ⟨h.1, ?_⟩
  rcases h.2 with hn | ⟨g, cap, cur, e, hg, rest⟩
  · exact .inl hn
  · exact .inr ⟨g, cap, cur, e, Nat.le_trans hb hg, rest⟩
theorem of_two (w : World) (cs : Array Value) (t : TypeId) (o : Obj) (j : Nat) : ((w.alloc (.cells cs t)).alloc o).cell? ⟨w.heap.size, j, none⟩ = cs[j]? :=
  (((Below.refl _ (w.alloc (.cells cs t))).alloc (Nat.le_refl _) o).cell (p := ⟨w.heap.size, j, none⟩) (by show w.heap.size < _; simp)).trans (newC0 w cs t j)
set_option maxRecDepth 20000 in
set_option maxHeartbeats 3200000 in
theorem ref10Of_any (kind : Int) (b2 oy cx cy m n : Nat) (px py : Option Addr) (ys : List Nat) (w : World) (hY : VSrc w py b2 oy n (fV10 ys)) (hyl : ys.length = n) (hn : n ≤ 17592186043904) :
    Calls Tryz.prog 5 #[.agg #[.int .i64 kind, (.slice px m cx), .slice py n cy]] w fun e w' => ∃ v, e = .returned (.agg #[.int .i64 kind, (.slice px m cx), v]) ∧ w'.ownsRow w.heap.size 41 1 v n (ys.map uV) ∧ Below w.heap.size w w' := by
  have HY := hideS hY
  have HL := hideS hyl
  have HB := hideS (ofB_at w kind (.slice px m cx) (.slice py n cy))
  have p0 : ∀ o, ((w.alloc (.cells #[.int .i64 kind, (.slice px m cx), .slice py n cy] 25)).alloc o).cell? ⟨w.heap.size, 0, none⟩ = some (.int .i64 kind) := fun o => of_two w _ _ o 0
  have p1 : ∀ o, ((w.alloc (.cells #[.int .i64 kind, (.slice px m cx), .slice py n cy] 25)).alloc o).cell? ⟨w.heap.size, 1, none⟩ = some (.slice px m cx) := fun o => of_two w _ _ o 1
  clear hY hyl
  go_enter Tryz.func5, Tryz.ntmps5
  go_wp2_with fail
  go_loopw [4] (fun i wr => ∃ k : Nat, k ≤ n ∧ i = .int .i64 k ∧ Hid (∃ v, wr.ownsRow (w.heap.size + 3) 41 1 v k ((ys.take k).map uV) ∧ OfB w kind (.slice px m cx) (.slice py n cy) v wr)) (fun i _ => n - (intOf i).toNat)
  case atStart => exact ⟨0, Nat.zero_le _, rfl, _, uown_nil _ _, HB.out⟩
  case round =>
    clear HB
    obtain ⟨k, hk, rfl, HH⟩ := hrel
    obtain ⟨v, ho, hb⟩ := HH.out
    obtain ⟨q0, g0, cc0, rfl, _, _, _, _⟩ := uown_src ho (by rw [List.length_take, HL.out]; omega)
    have HO := hideS ho
    have HB := hideS hb
    obtain ⟨t0, t1, t2, d0, d1, d2, e0, e1, e2, o0, o1, o2, f2, _, _⟩ := HB.out
    clear ho hb HH
    by_cases hlt : k < n
    · obtain rfl := HY.out.at_ (by omega)
      have hcy : wr.cell? ⟨b2, oy + k, none⟩ = some (.float .f64 (ys.getD k 0)) := (HB.out.bl.cell (p := ⟨b2, oy + k, none⟩) (HY.out.lt (by omega))).trans (HY.out.cell k hlt)
      have HN : Hid (ys.take (k + 1) = ys.take k ++ [ys.getD k 0]) := by
        show _ = _
        rw [List.take_add_one]
        congr 1
        simp [List.getD, List.getElem?_eq_getElem (show k < ys.length by rw [HL.out]; exact hlt)]
      generalize ys.getD k 0 = y at *
      have HOa : Hid (∀ o, (wr.drew.alloc o).ownsRow (w.heap.size + 3) 41 1 (.slice q0 k cc0) k ((ys.take k).map uV)) := fun o => uown_below (w := wr) HO.out ((Below.refl _ wr).drew.alloc (Nat.le_refl _) o)
      have HBa : Hid (∀ o, OfB w kind (.slice px m cx) (.slice (some ⟨b2, oy, none⟩) n cy) (.slice q0 k cc0) (wr.drew.alloc o)) := fun o => HB.out.stay ((Below.refl (w.heap.size + 3) wr).drew.alloc HB.out.sz o)
      have x2 : (wr.alloc (.cells #[.int .u64 (y : Int)] 41)).drew.cell? ⟨w.heap.size + 2, 2, none⟩ = some (.slice q0 k cc0) := (HBa.out _).o2
      have x3 : (wr.alloc (.cells #[.int .u64 (y : Int)] 41)).cell? ⟨w.heap.size + 2, 2, none⟩ = some (.slice q0 k cc0) := (HBa.out _).o2
      have g3 : (0 : Int) ≤ (k : Int) := by omega
      have g4 : (k : Int) < (n : Int) := by omega
      go_wp2_with fail
      go_region_law (first | (go_simp; go_at_call 12; refine (turned (bits_any _ _)).mono ?_; rintro e wb ⟨rfl, rfl⟩) | (refine step_append_ur rfl (.tmp 18) (.tmp 25) rfl (w.heap.size + 3) _ k (ys.take k) rfl (HOa.out _) wr.heap.size y rfl (by simp) (by omega) (HBa.out (.cells #[.int .u64 (y : Int)] 41)).sz ?_; intro v6 w6 ho6 hg6; obtain ⟨q6, g6, c6, rfl, _, _, _, _⟩ := uown_src ho6 (by rw [List.length_append, List.length_take, HL.out]; simp; omega); have HB6 := hideS ((HBa.out _).stay (ugrown_below (HOa.out _) hg6 (HBa.out (.cells #[.int .u64 (y : Int)] 41)).sz)); have HO6 := hideS ho6; have c2 := HB6.out.o2; have c3 := HB6.out.f2; clear ho6 hg6))
      all_goals
        go_wp2_with fail
        go_roundw
        case rel => exact ⟨k + 1, by omega, by simp, _, by rw [HN.out]; exact uown_put HO6.out (by omega) _, HB6.out.put _⟩
        case measure => simp [intOf]; omega
    · obtain rfl : k = n := by omega
      have hge : ¬ (k : Int) < (k : Int) := by omega
      have HE : Hid (ys.take k = ys) := by show _ = _; exact List.take_of_length_le (by rw [HL.out]; omega)
      rw [HE.out] at HO
      have hsz := HB.out.sz
      go_wp2_with fail
      refine bodyPost_ret (v := .agg #[.int .i64 kind, .slice px m cx, .slice q0 k cc0]) (by simp [results, Tryz.results5, go_sem, d0, d1, d2]) rfl ?_
      have hbl : Below w.heap.size w (((wr.setCell ⟨w.heap.size + 1, 0, none⟩ (.int .i64 kind)).setCell ⟨w.heap.size + 1, 1, none⟩ (.slice px m cx)).setCell ⟨w.heap.size + 1, 2, none⟩ (.slice q0 k cc0)) := ((HB.out.bl.setCell (p := ⟨w.heap.size + 1, 0, none⟩) (by show w.heap.size ≤ w.heap.size + 1; omega) _).setCell (p := ⟨w.heap.size + 1, 1, none⟩) (by show w.heap.size ≤ w.heap.size + 1; omega) _).setCell (p := ⟨w.heap.size + 1, 2, none⟩) (by show w.heap.size ≤ w.heap.size + 1; omega) _
      exact ⟨_, rfl, uown_mono10 (uown_put (uown_put (uown_put HO.out (by omega) _) (by omega) _) (by omega) _) (by omega), hbl⟩
end Go.Proofs.YtnmjljijgmmakabGreat
