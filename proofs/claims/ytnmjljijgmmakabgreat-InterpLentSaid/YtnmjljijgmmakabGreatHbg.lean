/- The contracts of package interp's points, Slopes and Points. The contracts of package interp's weighed, flat, linear and logarithmic. The contract of package interp's logarithmic. The contract of package interp's cubic. -/
import Derived.Test.YtnmjljijgmmakabGreatHbf
import Derived.Test.YtnmjljijgmmakabGreatHam
import Derived.Laws.MakeOwn
import Derived.Sort.Row
import Derived.Test.YtnmjljijgmmakabGreatHbe
import Derived.Test.YtnmjljijgmmakabGreatHbb
import Derived.Test.YtnmjljijgmmakabGreatHba
import Derived.Test.YtnmjljijgmmakabGreatHbd
namespace Go.Proofs.YtnmjljijgmmakabGreat
open Go.RowKit

/-- Four cells of one's own. -/
def arr4 (a b c d : Nat) : Obj := .cells #[.float .f64 a, .float .f64 b, .float .f64 c, .float .f64 d] 52
/-- What points has of its two blocks. -/
structure PBox (w : World) (kind : Int) (vx vy : Value) (wr : World) : Prop where
  t0 : wr.cell? ⟨w.heap.size, 0, none⟩ = some (.int .i64 kind)
  t1 : wr.cell? ⟨w.heap.size, 1, none⟩ = some vx
  t2 : wr.cell? ⟨w.heap.size, 2, none⟩ = some vy
  arr : wr.heap[w.heap.size + 1]? = some (arr4 0 0 0 0)
  bl : Below w.heap.size w wr
  lt : w.heap.size + 1 < wr.heap.size
theorem pbox_at (w : World) (kind : Int) (vx vy : Value) : PBox w kind vx vy ((w.alloc (.cells #[.int .i64 kind, vx, vy] 25)).alloc (arr4 0 0 0 0)) := by
  have hs : (w.alloc (.cells #[.int .i64 kind, vx, vy] 25)).heap.size = w.heap.size + 1 := by simp
  have hc : ∀ i, ((w.alloc (.cells #[.int .i64 kind, vx, vy] 25)).alloc (arr4 0 0 0 0)).cell? ⟨w.heap.size, i, none⟩ = (w.alloc (.cells #[.int .i64 kind, vx, vy] 25)).cell? ⟨w.heap.size, i, none⟩ := fun i => ((Below.refl (w.heap.size + 1) _).alloc (by omega) (arr4 0 0 0 0)).cell (p := ⟨w.heap.size, i, none⟩) (by simp)
  refine ⟨by rw [hc]; simp, by rw [hc]; simp, by rw [hc]; simp, by rw [← hs]; exact heap_alloc_new _ _, ((Below.refl _ _).alloc (Nat.le_refl _) _).alloc (by omega) _, by simp⟩
theorem PBox.step {w wr w' : World} {kind : Int} {vx vy : Value} (h : PBox w kind vx vy wr) (hb : Below wr.heap.size wr w') : PBox w kind vx vy w' := by
  have l0 : w.heap.size < wr.heap.size := by have := h.lt; omega
  exact ⟨(hb.cell (p := ⟨w.heap.size, 0, none⟩) l0).trans h.t0, (hb.cell (p := ⟨w.heap.size, 1, none⟩) l0).trans h.t1, (hb.cell (p := ⟨w.heap.size, 2, none⟩) l0).trans h.t2, by rw [hb.block _ h.lt]; exact h.arr, h.bl.trans (hb.mono h.bl.size), Nat.lt_of_lt_of_le h.lt hb.size⟩
theorem PBox.drewN {w wr : World} {kind : Int} {vx vy : Value} (h : PBox w kind vx vy wr) (m : Nat) : PBox w kind vx vy (wr.drewN m) := ⟨h.t0, h.t1, h.t2, h.arr, ⟨h.bl.os, h.bl.tape, h.bl.output, h.bl.size, h.bl.block⟩, h.lt⟩
theorem arr4_cells {w : World} {g a b c d : Nat} (h : w.heap[g]? = some (arr4 a b c d)) : (w.cell? ⟨g, 0, none⟩ = some (.float .f64 a) ∧ w.cell? ⟨g, 1, none⟩ = some (.float .f64 b) ∧ w.cell? ⟨g, 2, none⟩ = some (.float .f64 c) ∧ w.cell? ⟨g, 3, none⟩ = some (.float .f64 d)) ∧ ∀ i, w.frozen? ⟨g, i, none⟩ = false := by
  unfold arr4 at h
  refine ⟨⟨?_, ?_, ?_, ?_⟩, fun i => frozen_of_row w g i _ _ h⟩
  all_goals
    simp only [World.cell?, h, Option.isSome_none, Bool.false_eq_true, if_false]
    rfl
/-- Four cells written. -/
def set4 (w : World) (g a b c d : Nat) : World := (((w.setCell ⟨g, 0, none⟩ (.float .f64 a)).setCell ⟨g, 1, none⟩ (.float .f64 b)).setCell ⟨g, 2, none⟩ (.float .f64 c)).setCell ⟨g, 3, none⟩ (.float .f64 d)
theorem set_blockF {w : World} {g o : Nat} {cs : Array Value} {t : TypeId} (v : Value) (h : w.heap[g]? = some (.cells cs t (0, 0))) : (w.setCell ⟨g, o, none⟩ v).heap[g]? = some (.cells (cs.setIfInBounds o v) t (0, 0)) := by
  rw [Go.Sort.setCell_eq]
  simp [Go.Sort.mapBlock, Array.getElem?_modify, h, Go.Sort.onCells]
theorem set4_arr {w : World} {g a b c d a' b' c' d' : Nat} (h : w.heap[g]? = some (arr4 a b c d)) : (set4 w g a' b' c' d').heap[g]? = some (arr4 a' b' c' d') := by
  unfold arr4 at h
  exact set_blockF _ (set_blockF _ (set_blockF _ (set_blockF _ h)))
theorem set4_below (w : World) (g a b c d B : Nat) (hB : B ≤ g) : Below B w (set4 w g a b c d) :=
  ((((Below.refl B w).setCell (p := ⟨g, 0, none⟩) hB _).setCell (p := ⟨g, 1, none⟩) hB _).setCell (p := ⟨g, 2, none⟩) hB _).setCell (p := ⟨g, 3, none⟩) hB _

theorem store_flt (a : Addr) (x : Nat) (m : Mode) (w : World) : (store a (.float .f64 x) m).run Tryz.prog w = stored Tryz.prog w a (.float .f64 x) m := run_store Tryz.prog w a _ m rfl

set_option maxRecDepth 20000 in
set_option maxHeartbeats 3200000 in
theorem points_walk (kind : Int) (bx ox cx b2 oy cy n k : Nat) (x0 x1 : Int) (y0 y1 h d0 d1 m0 q0 a0 p m1 q1 s1 q : Nat) (w w0 : World) (hw0 : (w.alloc (.cells #[.int .i64 kind, .slice (some ⟨bx, ox, none⟩) n cx, .slice (some ⟨b2, oy, none⟩) n cy] 25)).alloc (arr4 0 0 0 0) = w0)
    (HB : Hid (PBox w kind (.slice (some ⟨bx, ox, none⟩) n cx) (.slice (some ⟨b2, oy, none⟩) n cy) w0)) (c0 : w0.cell? ⟨bx, ox + k, none⟩ = some (.int .i64 x0)) (c1 : w0.cell? ⟨bx, ox + (k + 1), none⟩ = some (.int .i64 x1)) (c2 : w0.cell? ⟨b2, oy + k, none⟩ = some (.float .f64 y0)) (c3 : w0.cell? ⟨b2, oy + (k + 1), none⟩ = some (.float .f64 y1))
    (hjn : k + 1 < n) (hn : n ≤ 1000) (h0 : 0 ≤ x0) (h1 : x0 ≤ 109572) (h2 : 0 ≤ x1) (h3 : x1 ≤ 109572) (qf : floatOfInt .f64 (x1 - x0) = h)
    (e1 : floatBits .mul .f64 d0 h = some m0) (e2 : floatBits .quo .f64 m0 4613937818241073152 = some q0) (e3 : floatBits .add .f64 y0 q0 = some a0) (e4 : floatBits .mul .f64 d1 h = some m1) (e5 : floatBits .quo .f64 m1 4613937818241073152 = some q1) (e6 : floatBits .sub .f64 y1 q1 = some s1)
    (HS0 : Hid (∀ wx, Below w.heap.size w wx → Calls Tryz.prog 17 #[.agg #[.int .i64 kind, .slice (some ⟨bx, ox, none⟩) n cx, .slice (some ⟨b2, oy, none⟩) n cy], .int .i64 (k : Int)] wx fun e w' => e = .returned (.float .f64 d0) ∧ Below wx.heap.size wx w'))
    (HS1 : Hid (∀ wx, Below w.heap.size w wx → Calls Tryz.prog 17 #[.agg #[.int .i64 kind, .slice (some ⟨bx, ox, none⟩) n cx, .slice (some ⟨b2, oy, none⟩) n cy], .int .i64 ((k : Int) + 1)] wx fun e w' => e = .returned (.float .f64 d1) ∧ Below wx.heap.size wx w'))
    (HH0 : Hid (∀ wx, Calls Tryz.prog 37 #[.float .f64 a0, .float .f64 y0, .float .f64 y1] wx fun e w' => e = .returned (.float .f64 p) ∧ w' = wx))
    (HH1 : Hid (∀ wx, Calls Tryz.prog 37 #[.float .f64 s1, .float .f64 p, .float .f64 y1] wx fun e w' => e = .returned (.float .f64 q) ∧ w' = wx)) :
    Calls Tryz.prog 18 #[.agg #[.int .i64 kind, .slice (some ⟨bx, ox, none⟩) n cx, .slice (some ⟨b2, oy, none⟩) n cy], .int .i64 (k : Int)] w fun e w' => e = .returned (.agg #[.float .f64 y0, .float .f64 p, .float .f64 q, .float .f64 y1]) ∧ Below w.heap.size w w' := by
  have f1 : IntKind.i64.wrap ((k : Int) + 1) = (k : Int) + 1 := by rw [IntKind.wrap_i64]; omega
  have f2 : IntKind.i64.wrap (x1 - x0) = x1 - x0 := by rw [IntKind.wrap_i64]; omega
  have g1 : (0 : Int) ≤ (k : Int) + 1 := by omega
  have g2 : (k : Int) + 1 < (n : Int) := by omega
  have g3 : (0 : Int) ≤ (k : Int) := by omega
  have g4 : (k : Int) < (n : Int) := by omega
  have r1 := fun w => run_float_arith (P := Tryz.prog) w .mul 31 .f64 _ _ _ e1
  have r2 := fun w => run_float_arith (P := Tryz.prog) w .quo 31 .f64 _ _ _ e2
  have r3 := fun w => run_float_arith (P := Tryz.prog) w .add 31 .f64 _ _ _ e3
  have r4 := fun w => run_float_arith (P := Tryz.prog) w .mul 31 .f64 _ _ _ e4
  have r5 := fun w => run_float_arith (P := Tryz.prog) w .quo 31 .f64 _ _ _ e5
  have r6 := fun w => run_float_arith (P := Tryz.prog) w .sub 31 .f64 _ _ _ e6
  have u0 := HB.out.t0
  have u1 := HB.out.t1
  have u2 := HB.out.t2
  clear e1 e2 e3 e4 e5 e6
  unfold arr4 at hw0
  go_enter Tryz.func18, Tryz.ntmps18
  go_wp2_with fail
  clear hw0
  go_quiet (fail)
  go_wp2_with fail
  go_quiet (fail)
  go_wp2_with fail
  refine (HS0.out _ (HB.out.drewN _).bl).mono ?_
  rintro e w1 ⟨rfl, hb1⟩
  have HB1 := hideS ((HB.out.drewN _).step hb1)
  clear hb1 u0 u1 u2 c0 c1 c2 c3 HB
  have u0 := HB1.out.t0
  have u1 := HB1.out.t1
  have u2 := HB1.out.t2
  go_wp2_with fail
  refine (HH0.out _).mono ?_
  rintro e w' ⟨rfl, rfl⟩
  go_wp2_with fail
  refine (HS1.out _ HB1.out.bl).mono ?_
  rintro e w2 ⟨rfl, hb2⟩
  have HB2 := hideS (HB1.out.step hb2)
  clear hb2 u0 u1 u2 HB1
  go_wp2_with fail
  refine (HH1.out _).mono ?_
  rintro e w' ⟨rfl, rfl⟩
  obtain ⟨⟨c0, c1, c2, c3⟩, fz⟩ := arr4_cells HB2.out.arr
  have hst := store_flt
  have z0 := fz 0
  have z1 := fz 1
  have z2 := fz 2
  have z3 := fz 3
  clear fz
  go_wp2_with fail
  obtain ⟨wz, hwz⟩ : ∃ wz, set4 w' (w.heap.size + 1) y0 p q y1 = wz := ⟨_, rfl⟩
  have HA := hideS (arr4_cells (set4_arr (a' := y0) (b' := p) (c' := q) (d' := y1) HB2.out.arr)).1
  have HL := hideS (HB2.out.bl.trans (set4_below w' (w.heap.size + 1) y0 p q y1 w.heap.size (by omega)))
  rw [hwz] at HA HL
  unfold set4 at hwz
  rw [hwz]
  obtain ⟨v0, v1, v2, v3⟩ := HA.out
  refine bodyPost_ret (v := .agg #[.float .f64 y0, .float .f64 p, .float .f64 q, .float .f64 y1]) (by simp [results, Tryz.results18, go_sem, v0, v1, v2, v3]) rfl ⟨rfl, HL.out⟩
theorem fi3 : fi 3 = 4613937818241073152 := by decide +kernel
theorem points_any (kind : Int) (px py : Option Addr) (bx ox cx b2 oy cy k : Nat) (xs : List Int) (ys : List Nat) (w : World) (h : OkT kind xs ys) (hs : TFl w px py bx ox b2 oy xs ys) (hk : k + 1 < xs.length) :
    Calls Tryz.prog 18 #[.agg #[.int .i64 kind, .slice px xs.length cx, .slice py ys.length cy], .int .i64 (k : Int)] w fun e w' => e = .returned (.agg #[.float .f64 ((ptL xs ys k).getD 0 0), .float .f64 ((ptL xs ys k).getD 1 0), .float .f64 ((ptL xs ys k).getD 2 0), .float .f64 ((ptL xs ys k).getD 3 0)]) ∧ Below w.heap.size w w' := by
  have hl := h.len
  have HB := pbox_at w kind (.slice px xs.length cx) (.slice py ys.length cy)
  have hs' := hs.below HB.bl
  have H0 : Hid (∀ wx, Below w.heap.size w wx → ∀ j, j < xs.length → Calls Tryz.prog 17 #[.agg #[.int .i64 kind, .slice px xs.length cx, .slice py ys.length cy], .int .i64 (j : Int)] wx fun e w' => e = .returned (.float .f64 ((slopL xs ys xs.length).getD j 0)) ∧ Below wx.heap.size wx w') := fun wx hb j hj => slope_any kind px py bx ox cx b2 oy cy j xs ys wx h (hs.below hb) hj
  obtain rfl := hs.x.at_ (by omega)
  obtain rfl := hs.y.at_ (by omega)
  have st := h.step hk
  have n0 := node_fine (h.node k (by omega))
  have n1 := node_fine (h.node (k + 1) hk)
  obtain ⟨hh, hh0⟩ := fi_numW (m := xs.getD (k + 1) 0 - xs.getD k 0) (by omega) (by omega)
  obtain ⟨t3, t30⟩ := fi_numW (m := 3) (by decide) (by decide)
  have a := node_num h hs.u (i := k) (by omega)
  have b := node_num h hs.u hk
  have d0 := slopL_nn h hs.u k
  have d1 := slopL_nn h hs.u (k + 1)
  have m0 := sMul_nn d0 hh hh0
  have q0 := sDiv_nn m0 t3 t30
  have a0 := sAdd_nn a q0
  have m1 := sMul_nn d1 hh hh0
  have q1 := sDiv_nn m1 t3 t30
  have s1 := subR_nn b q1
  have pn : NumW (ptP (fi (xs.getD (k + 1) 0 - xs.getD k 0)) ((slopL xs ys xs.length).getD k 0) (ys.getD k 0) (ys.getD (k + 1) 0)) := by
    rcases Int.le_total (rankI (ys.getD k 0 : Nat)) (rankI (ys.getD (k + 1) 0 : Nat)) with hr | hr
    · exact (held_numU a0 a b hr).1
    · exact (held_numD a0 a b hr).1
  have e2 := div_some q0
  have e5 := div_some q1
  rw [fi3] at e2 e5
  have hS1 : ∀ wx, Below w.heap.size w wx → _ := fun wx hb => H0.out wx hb (k + 1) hk
  rw [Int.natCast_add, Int.natCast_one] at hS1
  have c0 := hs'.x.cell k (by omega)
  have c1 := hs'.x.cell (k + 1) hk
  have c2 := hs'.y.cell k (by omega)
  have c3 := hs'.y.cell (k + 1) (by omega)
  rw [hl] at HB H0 hS1 c0 c1 c2 c3 ⊢
  exact points_walk kind bx ox cx b2 oy cy xs.length k _ _ _ _ _ _ _ _ _ _ _ _ _ _ _ w _ rfl HB c0 c1 c2 c3 hk (by have := h.hi; omega) n0.1 n0.2.1 n1.1 n1.2.1 (floatOf_fi _)
    (mul_some m0) e2 (fi3 ▸ add_some a0) (mul_some m1) e5 (fi3 ▸ sub_some s1) (fun wx hb => H0.out wx hb k (by omega)) hS1 (fun wx => fi3 ▸ heldP_any _ _ _ wx a0.lt a b) (fun wx => fi3 ▸ heldP_any _ _ _ wx s1.lt pn b)

/-- A row of N floats of which the first are ds. -/
def RowF (w : World) (g N : Nat) (ds : List Nat) : Prop := ∃ cs : Array Value, w.heap[g]? = some (.cells cs 31 (0, 0)) ∧ cs.size = N ∧ cs.toList.take ds.length = ds.map fV
theorem RowF.stay {w w' : World} {g N B : Nat} {ds : List Nat} (h : RowF w g N ds) (hb : Below B w w') (hg : g < B) : RowF w' g N ds := by
  obtain ⟨cs, h1, h2⟩ := h
  exact ⟨cs, by rw [hb.block g hg]; exact h1, h2⟩
theorem RowF.lt {w : World} {g N : Nat} {ds : List Nat} (h : RowF w g N ds) : g < w.heap.size := by
  obtain ⟨cs, h1, _⟩ := h
  exact (Array.getElem?_eq_some_iff.1 h1).1
theorem RowF.cell {w : World} {g N : Nat} {ds : List Nat} (h : RowF w g N ds) {k : Nat} (hk : k < N) : ∃ u, w.cell? ⟨g, k, none⟩ = some u := by
  obtain ⟨cs, h1, h2, _⟩ := h
  refine ⟨cs[k]'(by omega), ?_⟩
  simp only [World.cell?, h1, Option.isSome_none, Bool.false_eq_true, if_false]
  exact Array.getElem?_eq_getElem (by omega)
theorem RowF.frozen {w : World} {g N : Nat} {ds : List Nat} (h : RowF w g N ds) (k : Nat) : w.frozen? ⟨g, k, none⟩ = false := by
  obtain ⟨cs, h1, _⟩ := h
  exact frozen_of_row w g k cs _ h1
theorem RowF.own {w : World} {g N base : Nat} {ds : List Nat} (h : RowF w g N ds) (hl : ds.length = N) (hb : base ≤ g) (hN : N ≤ 100000) : w.ownsRow base 31 1 (.slice (some ⟨g, 0, none⟩) N N) N (ds.map fV) := by
  obtain ⟨cs, h1, h2, h3⟩ := h
  refine ⟨by rw [List.length_map, hl, Nat.mul_one], .inr ⟨g, N, cs, rfl, hb, h1, Nat.le_refl _, by unfold maxLen; omega, by omega, ?_⟩⟩
  rw [Nat.mul_one, ← hl]; exact h3
theorem set1_row {w : World} {g N k : Nat} {ds : List Nat} (d : Nat) (h : RowF w g N (ds.take k)) (hk : k < N) (hl : k < ds.length) (hd : ds.getD k 0 = d) : RowF (w.setCell ⟨g, k, none⟩ (.float .f64 d)) g N (ds.take (k + 1)) := by
  obtain ⟨cs, h1, h2, h3⟩ := h
  refine ⟨_, set_blockF _ h1, by simp [h2], ?_⟩
  have e1 : (ds.take k).length = k := by simp; omega
  have e2 : (ds.take (k + 1)).length = k + 1 := by simp; omega
  rw [e1] at h3
  rw [e2]
  apply List.ext_getElem?
  intro j
  by_cases hj : j < k + 1
  · rw [List.getElem?_take_of_lt hj]
    simp only [Array.getElem?_toList, Array.getElem?_setIfInBounds]
    by_cases hjk : k = j
    · subst hjk
      rw [if_pos rfl, if_pos (by omega), List.getElem?_map, List.getElem?_take_of_lt hj, List.getElem?_eq_getElem hl]
      rw [List.getD_eq_getElem?_getD, List.getElem?_eq_getElem hl] at hd
      simp only [Option.getD_some] at hd
      rw [Option.map_some, hd]; rfl
    · rw [if_neg hjk]
      have := congrArg (fun l => l[j]?) h3
      rw [List.getElem?_take_of_lt (by omega), Array.getElem?_toList, List.getElem?_map, List.getElem?_take_of_lt (by omega)] at this
      rw [this, List.getElem?_map, List.getElem?_take_of_lt hj]
  · rw [List.getElem?_eq_none (by simp; omega), List.getElem?_eq_none (by simp; omega)]
theorem rowF_made (w : World) (N : Nat) (z : Array Value) : RowF (w.alloc (.cells (madeCells z N) 31)) w.heap.size N [] :=
  ⟨_, heap_alloc_new w _, size_madeCells _ _, by simp⟩
theorem make_flt (w : World) (N : Nat) (hN : N ≤ 100000) : ∃ z, (Instr.makeSlice 23 (.int .i64 (N : Int)) (.int .i64 (N : Int))).run Tryz.prog w = .ok (.slice (some ⟨w.heap.size, 0, none⟩) N N) (w.alloc (.cells (madeCells z N) 31)) := by
  obtain ⟨i0, hi, hz0, hz1, hz2⟩ := info_parts info_flr
  have := run_make (P := Tryz.prog) w 23 31 i0 _ Tryz.underlying23 hi hz0 .i64 .i64 (N : Int) (N : Int) (by omega) (by omega) (by rw [hz2]; omega) (by omega)
  rw [hz1, Nat.mul_one, Int.toNat_natCast] at this
  exact ⟨_, this⟩

set_option maxHeartbeats 800000 in
theorem intSlopes_bad (kind E : Int) (v1 v2 : Value) (w : World) (hE : E ≠ 0) (HC : Hid (∀ wx, Below w.heap.size w wx → Calls Tryz.prog 16 #[.agg #[.int .i64 kind, v1, v2]] wx fun e w' => e = .returned (.int .i64 E) ∧ Below wx.heap.size wx w')) :
    Calls Tryz.prog 6 #[.agg #[.int .i64 kind, v1, v2]] w fun e w' => e = .returned (.tuple #[.slice none 0 0, .int .i64 E]) ∧ Below w.heap.size w w' := by
  have HB := hideS (abox_at w kind v1 v2)
  have hE' : (E != 0) = true := bne_iff_ne.2 hE
  clear hE
  go_enter Tryz.func6, Tryz.ntmps6
  go_wp2_with (go_at_call 16; refine (HC.out _ HB.out.bl).mono ?_; rintro e w1 ⟨rfl, hb1⟩)
  go_ret2
  exact ⟨rfl, (HB.out.step hb1).bl⟩
theorem TBox.stayA {w wr w' : World} {kind : Int} {vx vy : Value} (h : TBox w kind vx vy wr) (hb : Below (w.heap.size + 1) wr w') : TBox w kind vx vy w' :=
  ⟨(hb.cell (p := ⟨w.heap.size, 0, none⟩) (by simp)).trans h.t0, (hb.cell (p := ⟨w.heap.size, 1, none⟩) (by simp)).trans h.t1, (hb.cell (p := ⟨w.heap.size, 2, none⟩) (by simp)).trans h.t2, h.bl.trans (hb.mono (by omega)), Nat.lt_of_lt_of_le h.lt hb.size⟩

set_option maxHeartbeats 3200000 in
theorem intSlopes_go (kind : Int) (px : Option Addr) (cx n : Nat) (v2 : Value) (ds : List Nat) (w : World) (hn : 1 ≤ n) (hn' : n ≤ 256) (hd : ds.length = n) (HC : Hid (∀ wx, Below w.heap.size w wx → Calls Tryz.prog 16 #[.agg #[.int .i64 kind, .slice px n cx, v2]] wx fun e w' => e = .returned (.int .i64 0) ∧ Below wx.heap.size wx w'))
    (HS : Hid (∀ wx, Below w.heap.size w wx → ∀ k, k < n → Calls Tryz.prog 17 #[.agg #[.int .i64 kind, .slice px n cx, v2], .int .i64 (k : Int)] wx fun e w' => e = .returned (.float .f64 (ds.getD k 0)) ∧ Below wx.heap.size wx w')) :
    Calls Tryz.prog 6 #[.agg #[.int .i64 kind, .slice px n cx, v2]] w fun e w' => ∃ v, e = .returned (.tuple #[v, .int .i64 0]) ∧ w'.ownsRow w.heap.size 31 1 v n (ds.map fV) ∧ Below w.heap.size w w' := by
  have HB := hideS (abox_at w kind (.slice px n cx) v2)
  have HD := hideS hd
  have hst := store_flt
  clear hd
  go_enter Tryz.func6, Tryz.ntmps6
  go_wp2_with fail
  refine (HC.out _ HB.out.bl).mono ?_
  rintro e w1 ⟨rfl, hb1⟩
  have HB1 := hideS (HB.out.step hb1)
  clear hb1 HB
  have t1 := HB1.out.t1
  obtain ⟨z, hmk⟩ := make_flt w1 n (by omega)
  go_wp2_with fail
  clear hmk t1
  have R0 : Hid (TBox w kind (.slice px n cx) v2 (w1.alloc (.cells (madeCells z n) 31)) ∧ RowF (w1.alloc (.cells (madeCells z n) 31)) w1.heap.size n (ds.take 0)) := ⟨HB1.out.step ((Below.refl _ w1).alloc (Nat.le_refl _) _), rowF_made w1 n z⟩
  have HG : Hid (w.heap.size + 1 ≤ w1.heap.size) := HB1.out.lt
  generalize w1.alloc (.cells (madeCells z n) 31) = w2 at *
  generalize w1.heap.size = g at *
  clear HB1
  go_loopw [6, 18] (fun _ i wr => ∃ k : Nat, k ≤ n ∧ i = .int .i64 k ∧ Hid (TBox w kind (.slice px n cx) v2 wr ∧ RowF wr g n (ds.take k))) (fun _ i _ => n - (intOf i).toNat)
  case atStart => exact ⟨0, Nat.zero_le _, rfl, R0⟩
  case round =>
    clear R0
    obtain ⟨k, hk, rfl, HR⟩ := hrel
    by_cases hlt : k < n
    · have t0 := HR.out.1.t0
      have t1 := HR.out.1.t1
      have t2 := HR.out.1.t2
      go_wp2_with fail
      refine (HS.out _ HR.out.1.bl k hlt).mono ?_
      rintro e w3 ⟨rfl, hb3⟩
      have HR3 := hideS (And.intro (HR.out.1.step hb3) (HR.out.2.stay hb3 HR.out.2.lt))
      obtain ⟨d, hdd⟩ : ∃ d, ds.getD k 0 = d := ⟨_, rfl⟩
      rw [hdd]
      have HN := hideS (And.intro (HR3.out.1.stayA ((Below.refl (w.heap.size + 1) w3).setCell (p := ⟨g, k, none⟩) HG.out (.float .f64 d))) (set1_row d HR3.out.2 hlt (by rw [HD.out]; exact hlt) hdd))
      obtain ⟨u, hu⟩ := HR3.out.2.cell hlt
      have hz := HR3.out.2.frozen k
      clear hb3 t0 t1 t2 HR HR3 hdd
      go_wp2_with fail
      go_roundw
      case rel => exact ⟨k + 1, by omega, by simp, HN⟩
      case measure => simp [intOf]; omega
    · obtain rfl : k = n := by omega
      have HO := hideS (HR.out.2.own (base := w.heap.size) (by rw [List.length_take, HD.out]; omega) (by have := HG.out; omega) (by omega))
      rw [show ds.take k = ds by rw [← HD.out]; exact List.take_length] at HO
      have HL := hideS HR.out.1.bl
      clear HR
      go_wp2_with fail
      go_ret2
      exact ⟨_, rfl, HO.out, HL.out⟩
theorem intSlopes_ok (kind : Int) (px py : Option Addr) (bx ox cx b2 oy cy : Nat) (xs : List Int) (ys : List Nat) (w : World) (h : OkT kind xs ys) (hs : TFl w px py bx ox b2 oy xs ys) :
    Calls Tryz.prog 6 #[.agg #[.int .i64 kind, .slice px xs.length cx, .slice py ys.length cy]] w fun e w' => ∃ v, e = .returned (.tuple #[v, .int .i64 0]) ∧ w'.ownsRow w.heap.size 31 1 v xs.length ((slopL xs ys xs.length).map fV) ∧ Below w.heap.size w w' :=
  intSlopes_go kind px cx xs.length _ (slopL xs ys xs.length) w h.lo h.hi (slopL_len h.lo) (fun wx hb => intCheck_any kind 0 px py bx ox cx b2 oy cy xs ys wx (.ok h) (hs.below hb)) (fun wx hb k hk => slope_any kind px py bx ox cx b2 oy cy k xs ys wx h (hs.below hb) hk)

set_option maxHeartbeats 800000 in
theorem intPoints_bad (kind E k : Int) (v1 v2 : Value) (w : World) (hE : E ≠ 0) (HC : Hid (∀ wx, Below w.heap.size w wx → Calls Tryz.prog 16 #[.agg #[.int .i64 kind, v1, v2]] wx fun e w' => e = .returned (.int .i64 E) ∧ Below wx.heap.size wx w')) :
    Calls Tryz.prog 7 #[.agg #[.int .i64 kind, v1, v2], .int .i64 k] w fun e w' => e = .returned (.tuple #[.slice none 0 0, .int .i64 E]) ∧ Below w.heap.size w w' := by
  have HB := hideS (abox_at w kind v1 v2)
  have hE' : (E != 0) = true := bne_iff_ne.2 hE
  clear hE
  go_enter Tryz.func7, Tryz.ntmps7
  go_wp2_with (go_at_call 16; refine (HC.out _ HB.out.bl).mono ?_; rintro e w1 ⟨rfl, hb1⟩)
  go_ret2
  exact ⟨rfl, (HB.out.step hb1).bl⟩

set_option maxRecDepth 20000 in
set_option maxHeartbeats 1600000 in
theorem intPoints_out (kind k : Int) (px : Option Addr) (cx n : Nat) (v2 : Value) (w : World) (hn : 1 ≤ n) (hn' : n ≤ 256) (hk : k < 0 ∨ (n : Int) - 1 ≤ k) (HC : Hid (∀ wx, Below w.heap.size w wx → Calls Tryz.prog 16 #[.agg #[.int .i64 kind, .slice px n cx, v2]] wx fun e w' => e = .returned (.int .i64 0) ∧ Below wx.heap.size wx w')) :
    Calls Tryz.prog 7 #[.agg #[.int .i64 kind, .slice px n cx, v2], .int .i64 k] w fun e w' => e = .returned (.tuple #[.slice none 0 0, .int .i64 51]) ∧ Below w.heap.size w w' := by
  have HB := hideS (abox_at w kind (.slice px n cx) v2)
  have e1 : IntKind.i64.wrap ((n : Int) - 1) = (n : Int) - 1 := by rw [IntKind.wrap_i64]; omega
  go_enter Tryz.func7, Tryz.ntmps7
  go_wp2_with fail
  refine (HC.out _ HB.out.bl).mono ?_
  rintro e w1 ⟨rfl, hb1⟩
  have HB1 := hideS (HB.out.step hb1)
  have t1 := HB1.out.t1
  clear hb1
  rcases (show k < 0 ∨ (¬ k < 0 ∧ (n : Int) - 1 ≤ k) by omega) with h | ⟨h, h'⟩
  · have d1 : decide (k < 0) = true := decide_eq_true h
    clear hk e1 h
    go_wp2_with fail
    go_ret2
    exact ⟨rfl, HB1.out.bl⟩
  · have d1 : decide (k < 0) = false := decide_eq_false h
    have d2 : decide ((n : Int) - 1 ≤ k) = true := decide_eq_true h'
    clear hk h h'
    go_wp2_with fail
    go_ret2
    exact ⟨rfl, HB1.out.bl⟩

set_option maxRecDepth 20000 in
set_option maxHeartbeats 1600000 in
theorem intPoints_go (kind : Int) (px : Option Addr) (cx n k a b c d : Nat) (v2 : Value) (w : World) (hn' : n ≤ 256) (hk : k + 1 < n) (HC : Hid (∀ wx, Below w.heap.size w wx → Calls Tryz.prog 16 #[.agg #[.int .i64 kind, .slice px n cx, v2]] wx fun e w' => e = .returned (.int .i64 0) ∧ Below wx.heap.size wx w'))
    (HP : Hid (∀ wx, Below w.heap.size w wx → Calls Tryz.prog 18 #[.agg #[.int .i64 kind, .slice px n cx, v2], .int .i64 (k : Int)] wx fun e w' => e = .returned (.agg #[.float .f64 a, .float .f64 b, .float .f64 c, .float .f64 d]) ∧ Below wx.heap.size wx w')) :
    Calls Tryz.prog 7 #[.agg #[.int .i64 kind, .slice px n cx, v2], .int .i64 (k : Int)] w fun e w' => ∃ g, e = .returned (.tuple #[.slice (some ⟨g, 0, none⟩) 4 4, .int .i64 0]) ∧ (w'.heap[g]? = some (arr4 a b c d) ∧ w.heap.size ≤ g) ∧ Below w.heap.size w w' := by
  have HB := hideS (abox_at w kind (.slice px n cx) v2)
  have e1 : IntKind.i64.wrap ((n : Int) - 1) = (n : Int) - 1 := by rw [IntKind.wrap_i64]; omega
  have d1 : decide ((k : Int) < 0) = false := decide_eq_false (by omega)
  have d2 : decide ((n : Int) - 1 ≤ (k : Int)) = false := decide_eq_false (by omega)
  have hst := store_flt
  go_enter Tryz.func7, Tryz.ntmps7
  go_wp2_with fail
  refine (HC.out _ HB.out.bl).mono ?_
  rintro e w1 ⟨rfl, hb1⟩
  have HB1 := hideS (HB.out.step hb1)
  have t0 := HB1.out.t0
  have t1 := HB1.out.t1
  have t2 := HB1.out.t2
  clear hb1 HB
  go_wp2_with fail
  refine (HP.out _ HB1.out.bl).mono ?_
  rintro e w2 ⟨rfl, hb2⟩
  have HB2 := hideS (HB1.out.step hb2)
  clear hb2 t0 t1 t2 HB1
  have HA := hideS (show (w2.alloc (arr4 0 0 0 0)).heap[w2.heap.size]? = some (arr4 0 0 0 0) from heap_alloc_new w2 _)
  obtain ⟨⟨c0, c1, c2, c3⟩, fz⟩ := arr4_cells HA.out
  have z0 := fz 0
  have z1 := fz 1
  have z2 := fz 2
  have z3 := fz 3
  have HL := hideS (HB2.out.bl.trans ((((Below.refl w2.heap.size w2).alloc (Nat.le_refl _) (arr4 0 0 0 0)).trans (set4_below _ w2.heap.size a b c d w2.heap.size (Nat.le_refl _))).mono HB2.out.bl.size))
  have HZ := hideS (set4_arr (a' := a) (b' := b) (c' := c) (d' := d) HA.out)
  have HG := hideS HB2.out.bl.size
  clear fz HA HB2
  obtain ⟨w3, hw3⟩ : ∃ w3, w2.alloc (arr4 0 0 0 0) = w3 := ⟨_, rfl⟩
  rw [hw3] at c0 c1 c2 c3 z0 z1 z2 z3 HL HZ
  unfold arr4 at hw3
  obtain ⟨w4, hw4⟩ : ∃ w4, set4 w3 w2.heap.size a b c d = w4 := ⟨_, rfl⟩
  rw [hw4] at HL HZ
  unfold set4 at hw4
  go_wp2_with fail
  go_ret2
  exact ⟨_, rfl, ⟨HZ.out, HG.out⟩, HL.out⟩
theorem intPoints_ok (kind : Int) (px py : Option Addr) (bx ox cx b2 oy cy k : Nat) (xs : List Int) (ys : List Nat) (w : World) (h : OkT kind xs ys) (hs : TFl w px py bx ox b2 oy xs ys) (hk : k + 1 < xs.length) :
    Calls Tryz.prog 7 #[.agg #[.int .i64 kind, .slice px xs.length cx, .slice py ys.length cy], .int .i64 (k : Int)] w fun e w' => ∃ g, e = .returned (.tuple #[.slice (some ⟨g, 0, none⟩) 4 4, .int .i64 0]) ∧ (w'.heap[g]? = some (arr4 ((ptL xs ys k).getD 0 0) ((ptL xs ys k).getD 1 0) ((ptL xs ys k).getD 2 0) ((ptL xs ys k).getD 3 0)) ∧ w.heap.size ≤ g) ∧ Below w.heap.size w w' :=
  intPoints_go kind px cx xs.length k _ _ _ _ _ w h.hi hk (fun wx hb => intCheck_any kind 0 px py bx ox cx b2 oy cy xs ys wx (.ok h) (hs.below hb)) (fun wx hb => points_any kind px py bx ox cx b2 oy cy k xs ys wx h (hs.below hb) hk)
end Go.Proofs.YtnmjljijgmmakabGreat
namespace Go.Proofs.YtnmjljijgmmakabGreat
open Go.RowKit

set_option maxHeartbeats 1600000 in
theorem weighed_any (l r D a b R : Nat) (w : World) (hl : l ≤ 109572) (hr : r ≤ 109572) (hD : l + r = D) (hD0 : 0 < D) (ha : NumW a) (hb : NumW b) (hR : overSt (wAt [(l : Int), (r : Int)] [a, b] 2) D = R) :
    Calls Tryz.prog 83 #[.int .i64 (l : Int), .int .i64 (r : Int), .float .f64 a, .float .f64 b] w fun e w' => e = .returned (.float .f64 R) ∧ Below w.heap.size w w' := by
  have h2 := wAt_two (K := 1074) rfl (a := (l : Int)) (b := (r : Int)) ⟨by omega, by omega⟩ ⟨by omega, by omega⟩ ha.lt ha.nb hb.lt hb.nb
  have hs : (wAt [(l : Int), (r : Int)] [a, b] 2).s = 0 := by rw [h2]
  have hO : A.overF (wAt [(l : Int), (r : Int)] [a, b] 2).N D = R := by rw [← hR]; unfold overSt; rw [if_pos hs]
  have hW : wAt [(l : Int), (r : Int)] [a, b] 2 = ((⟨0, 0⟩ : A.St).merge (A.prodG (fi (l : Int)) a)).merge (A.prodG (fi (r : Int)) b) := rfl
  have ux := u64N (fi_lt (n := (l : Int)) (by omega) (by omega))
  have uy := u64N (fi_lt (n := (r : Int)) (by omega) (by omega))
  have ua := u64N ha.lt
  have ub := u64N hb.lt
  have f1 := floatOf_fi (l : Int)
  have f2 := floatOf_fi (r : Int)
  have f3 : IntKind.i64.wrap ((l : Int) + (r : Int)) = (D : Int) := by rw [IntKind.wrap_i64]; omega
  clear h2 hR
  generalize fi (l : Int) = X at *
  generalize fi (r : Int) = Y at *
  generalize wAt [(l : Int), (r : Int)] [a, b] 2 = T at *
  have HNw := hideS (A.new_any w w.heap.size (Nat.le_refl _))
  have HT := hideS (And.intro hW (And.intro hs hO))
  have HU := hideS (And.intro ux (And.intro uy (And.intro ua ub)))
  have HD := hideS (And.intro hD0 (show D < 9223372036854775808 by omega))
  clear hW hs hO ux uy ua ub ha hb hD hD0 hl hr
  go_enter Tryz.func83, Tryz.ntmps83
  go_wp2_with fail
  refine HNw.out.mono ?_
  rintro e w0 ⟨rfl, a0, b0⟩
  have R0 : Hid (A.Run w w0 w.heap.size (.slice none 0 0) 0 ⟨0, 0⟩) := ⟨a0, b0⟩
  clear a0 b0 HNw
  have HP0 := hideS (A.prod_gen w.heap.size w.heap.size _ 0 _ X a w0 R0.out.acc R0.out.bl.size HU.out.1 HU.out.2.2.1 (by omega))
  go_wp2_with fail
  refine HP0.out.mono ?_
  rintro e w1 ⟨rfl, q1, v1, hd1⟩
  have R1 := hideS ((R0.out.drewN q1).did hd1)
  clear hd1 R0 HP0
  have HP1 := hideS (A.prod_gen w.heap.size w.heap.size v1 _ _ Y b w1 R1.out.acc R1.out.bl.size HU.out.2.1 HU.out.2.2.2 (by omega))
  go_wp2_with fail
  refine HP1.out.mono ?_
  rintro e w2 ⟨rfl, q2, v2, hd2⟩
  have R2 := hideS ((R1.out.drewN q2).did hd2)
  clear hd2 R1 HP1
  rw [← HT.out.1] at R2
  have HOv := hideS (A.over_any w.heap.size w.heap.size v2 _ T D w2 R2.out.acc R2.out.bl.size (by omega) HD.out.1 HD.out.2 HT.out.2.1 (A.divOk_any HD.out.1 (by have := HD.out.2; omega)))
  rw [HT.out.2.2] at HOv
  go_wp2_with fail
  refine HOv.out.mono ?_
  rintro e w3 ⟨rfl, hb3⟩
  have HL := hideS (R2.out.bl.trans (hb3.mono R2.out.bl.size))
  clear hb3 R2 HOv
  go_wp2_with fail
  go_ret
  exact ⟨rfl, HL.out⟩

set_option maxHeartbeats 800000 in
theorem flat_any (kind x : Int) (px py : Option Addr) (bx ox cx b2 oy cy k : Nat) (xs : List Int) (ys : List Nat) (w : World) (hn : ys.length ≤ 256) (hs : TFl w px py bx ox b2 oy xs ys) (hk : k < ys.length) :
    Calls Tryz.prog 62 #[.agg #[.int .i64 kind, .slice px xs.length cx, .slice py ys.length cy], .int .i64 (k : Int), .int .i64 x] w fun e w' => e = .returned (.float .f64 (ys.getD k 0)) ∧ Below w.heap.size w w' := by
  have HB := hideS (abox_at w kind (.slice px xs.length cx) (.slice py ys.length cy))
  obtain rfl := hs.y.at_ (by omega)
  have c0 : (w.alloc (.cells #[.int .i64 kind, .slice px xs.length cx, .slice (some ⟨b2, oy, none⟩) ys.length cy] 25)).cell? ⟨b2, oy + k, none⟩ = some (.float .f64 (ys.getD k 0)) := (hs.below HB.out.bl).y.cell k hk
  have t2 := HB.out.t2
  clear hs
  generalize ys.getD k 0 = y at *
  generalize ys.length = n at *
  generalize xs.length = m at *
  obtain ⟨w0, hw0⟩ : ∃ w0, w.alloc (.cells #[.int .i64 kind, .slice px m cx, .slice (some ⟨b2, oy, none⟩) n cy] 25) = w0 := ⟨_, rfl⟩
  rw [hw0] at c0 t2 HB
  go_enter Tryz.func62, Tryz.ntmps62
  go_wp2_with fail
  go_ret
  exact ⟨rfl, HB.out.bl⟩
/-- What a piece's regions read. -/
structure PieR (w : World) (kind : Int) (vx vy : Value) (bx ox b2 oy k : Nat) (x0 x1 : Int) (y0 y1 : Nat) (wr : World) : Prop where
  box : TBox w kind vx vy wr
  a0 : wr.cell? ⟨bx, ox + k, none⟩ = some (.int .i64 x0)
  a1 : wr.cell? ⟨bx, ox + (k + 1), none⟩ = some (.int .i64 x1)
  b0 : wr.cell? ⟨b2, oy + k, none⟩ = some (.float .f64 y0)
  b1 : wr.cell? ⟨b2, oy + (k + 1), none⟩ = some (.float .f64 y1)
  lx : bx < wr.heap.size
  ly : b2 < wr.heap.size
theorem PieR.step {w wr w' : World} {kind : Int} {vx vy : Value} {bx ox b2 oy k : Nat} {x0 x1 : Int} {y0 y1 : Nat} (h : PieR w kind vx vy bx ox b2 oy k x0 x1 y0 y1 wr) (hb : Below wr.heap.size wr w') : PieR w kind vx vy bx ox b2 oy k x0 x1 y0 y1 w' :=
  ⟨h.box.step hb, (hb.cell (p := ⟨bx, ox + k, none⟩) h.lx).trans h.a0, (hb.cell (p := ⟨bx, ox + (k + 1), none⟩) h.lx).trans h.a1, (hb.cell (p := ⟨b2, oy + k, none⟩) h.ly).trans h.b0, (hb.cell (p := ⟨b2, oy + (k + 1), none⟩) h.ly).trans h.b1, Nat.lt_of_lt_of_le h.lx hb.size, Nat.lt_of_lt_of_le h.ly hb.size⟩
theorem PieR.drewN {w wr : World} {kind : Int} {vx vy : Value} {bx ox b2 oy k : Nat} {x0 x1 : Int} {y0 y1 : Nat} (h : PieR w kind vx vy bx ox b2 oy k x0 x1 y0 y1 wr) (m : Nat) : PieR w kind vx vy bx ox b2 oy k x0 x1 y0 y1 (wr.drewN m) := ⟨h.box.drewN m, h.a0, h.a1, h.b0, h.b1, h.lx, h.ly⟩
theorem PieR.drew {w wr : World} {kind : Int} {vx vy : Value} {bx ox b2 oy k : Nat} {x0 x1 : Int} {y0 y1 : Nat} (h : PieR w kind vx vy bx ox b2 oy k x0 x1 y0 y1 wr) : PieR w kind vx vy bx ox b2 oy k x0 x1 y0 y1 wr.drew := h.drewN 1
theorem pie_of {w : World} {kind : Int} {px py : Option Addr} {bx ox cx b2 oy cy k : Nat} {xs : List Int} {ys : List Nat} (hs : TFl w px py bx ox b2 oy xs ys) (hl : ys.length = xs.length) (hk : k + 1 < xs.length) :
    PieR w kind (.slice px xs.length cx) (.slice py ys.length cy) bx ox b2 oy k (xs.getD k 0) (xs.getD (k + 1) 0) (ys.getD k 0) (ys.getD (k + 1) 0) (w.alloc (.cells #[.int .i64 kind, .slice px xs.length cx, .slice py ys.length cy] 25)) := by
  have hB := abox_at w kind (.slice px xs.length cx) (.slice py ys.length cy)
  have hs' := hs.below hB.bl
  exact ⟨hB, hs'.x.cell k (by omega), hs'.x.cell (k + 1) hk, hs'.y.cell k (by omega), hs'.y.cell (k + 1) (by omega), hs'.x.lt (by omega), hs'.y.lt (by omega)⟩

set_option maxRecDepth 20000 in
set_option maxHeartbeats 3200000 in
theorem linear_walk (kind x : Int) (bx ox cx b2 oy cy n k l r : Nat) (x0 x1 : Int) (y0 y1 R : Nat) (w w0 : World) (hw0 : w.alloc (.cells #[.int .i64 kind, .slice (some ⟨bx, ox, none⟩) n cx, .slice (some ⟨b2, oy, none⟩) n cy] 25) = w0)
    (HB : Hid (PieR w kind (.slice (some ⟨bx, ox, none⟩) n cx) (.slice (some ⟨b2, oy, none⟩) n cy) bx ox b2 oy k x0 x1 y0 y1 w0)) (hjn : k + 1 < n) (hn : n ≤ 1000) (hl : x1 - x = (l : Int)) (hr : x - x0 = (r : Int)) (bl : l ≤ 109572) (br : r ≤ 109572)
    (HW : Hid (∀ wx, Calls Tryz.prog 83 #[.int .i64 (l : Int), .int .i64 (r : Int), .float .f64 y0, .float .f64 y1] wx fun e w' => e = .returned (.float .f64 R) ∧ Below wx.heap.size wx w')) :
    Calls Tryz.prog 63 #[.agg #[.int .i64 kind, .slice (some ⟨bx, ox, none⟩) n cx, .slice (some ⟨b2, oy, none⟩) n cy], .int .i64 (k : Int), .int .i64 x] w fun e w' => e = .returned (.float .f64 R) ∧ Below w.heap.size w w' := by
  have f1 : IntKind.i64.wrap ((k : Int) + 1) = (k : Int) + 1 := by rw [IntKind.wrap_i64]; omega
  have f2 : IntKind.i64.wrap (x1 - x) = (l : Int) := by rw [IntKind.wrap_i64]; omega
  have f3 : IntKind.i64.wrap (x - x0) = (r : Int) := by rw [IntKind.wrap_i64]; omega
  have g1 : (0 : Int) ≤ (k : Int) + 1 := by omega
  have g2 : (k : Int) + 1 < (n : Int) := by omega
  have g3 : (0 : Int) ≤ (k : Int) := by omega
  have g4 : (k : Int) < (n : Int) := by omega
  have t1 := HB.out.box.t1
  have t2 := HB.out.box.t2
  have a0 := HB.out.a0
  have a1 := HB.out.a1
  have b0 := HB.out.b0
  have b1 := HB.out.b1
  clear hl hr
  go_enter Tryz.func63, Tryz.ntmps63
  go_wp2_with fail
  clear hw0
  go_quiet (fail)
  go_wp2_with fail
  go_region_with ((go_at_call 83; refine (HW.out _).mono ?_; rintro e w2 ⟨rfl, hb2⟩; have HL := hideS ((HB.out.drewN _).box.step hb2).bl; clear hb2))
  all_goals
    go_wp2_with fail
    go_ret
    exact ⟨rfl, HL.out⟩

theorem PieR.all {w wr : World} {kind : Int} {vx vy : Value} {bx ox b2 oy k : Nat} {x0 x1 : Int} {y0 y1 : Nat} (h : PieR w kind vx vy bx ox b2 oy k x0 x1 y0 y1 wr) : wr.cell? ⟨w.heap.size, 2, none⟩ = some vy ∧ wr.cell? ⟨b2, oy + k, none⟩ = some (.float .f64 y0) ∧ wr.cell? ⟨b2, oy + (k + 1), none⟩ = some (.float .f64 y1) := ⟨h.box.t2, h.b0, h.b1⟩
end Go.Proofs.YtnmjljijgmmakabGreat
namespace Go.Proofs.YtnmjljijgmmakabGreat
open Go.RowKit

set_option maxRecDepth 20000 in
set_option maxHeartbeats 6400000 in
theorem logar_walk (kind x : Int) (bx ox cx b2 oy cy n k l r : Nat) (x0 x1 : Int) (y0 y1 l0 l1 R E H : Nat) (w w0 : World) (hw0 : w.alloc (.cells #[.int .i64 kind, .slice (some ⟨bx, ox, none⟩) n cx, .slice (some ⟨b2, oy, none⟩) n cy] 25) = w0)
    (HB : Hid (PieR w kind (.slice (some ⟨bx, ox, none⟩) n cx) (.slice (some ⟨b2, oy, none⟩) n cy) bx ox b2 oy k x0 x1 y0 y1 w0)) (hjn : k + 1 < n) (hn : n ≤ 1000) (hl : x1 - x = (l : Int)) (hr : x - x0 = (r : Int)) (bl : l ≤ 109572) (br : r ≤ 109572)
    (HL0 : Hid (∀ wx, Calls Tryz.prog 88 #[.float .f64 y0] wx fun e w' => e = .returned (.float .f64 l0) ∧ Below wx.heap.size wx w'))
    (HL1 : Hid (∀ wx, Calls Tryz.prog 88 #[.float .f64 y1] wx fun e w' => e = .returned (.float .f64 l1) ∧ Below wx.heap.size wx w'))
    (HW : Hid (∀ wx, Calls Tryz.prog 83 #[.int .i64 (l : Int), .int .i64 (r : Int), .float .f64 l0, .float .f64 l1] wx fun e w' => e = .returned (.float .f64 R) ∧ Below wx.heap.size wx w'))
    (HE : Hid (∀ wx, Calls Tryz.prog 87 #[.float .f64 R] wx fun e w' => e = .returned (.float .f64 E) ∧ Below wx.heap.size wx w'))
    (HH : Hid (∀ wx, Calls Tryz.prog 37 #[.float .f64 E, .float .f64 y0, .float .f64 y1] wx fun e w' => e = .returned (.float .f64 H) ∧ w' = wx)) :
    Calls Tryz.prog 65 #[.agg #[.int .i64 kind, .slice (some ⟨bx, ox, none⟩) n cx, .slice (some ⟨b2, oy, none⟩) n cy], .int .i64 (k : Int), .int .i64 x] w fun e w' => e = .returned (.float .f64 H) ∧ Below w.heap.size w w' := by
  have f1 : IntKind.i64.wrap ((k : Int) + 1) = (k : Int) + 1 := by rw [IntKind.wrap_i64]; omega
  have f2 : IntKind.i64.wrap (x1 - x) = (l : Int) := by rw [IntKind.wrap_i64]; omega
  have f3 : IntKind.i64.wrap (x - x0) = (r : Int) := by rw [IntKind.wrap_i64]; omega
  have g1 : (0 : Int) ≤ (k : Int) + 1 := by omega
  have g2 : (k : Int) + 1 < (n : Int) := by omega
  have g3 : (0 : Int) ≤ (k : Int) := by omega
  have g4 : (k : Int) < (n : Int) := by omega
  have K00 : Hid (∀ m, PieR w kind (.slice (some ⟨bx, ox, none⟩) n cx) (.slice (some ⟨b2, oy, none⟩) n cy) bx ox b2 oy k x0 x1 y0 y1 (w0.drewN m)) := fun m => HB.out.drewN m
  have t1 := HB.out.box.t1
  have a0 := HB.out.a0
  have a1 := HB.out.a1
  clear hl hr
  go_enter Tryz.func65, Tryz.ntmps65
  go_wp2_with fail
  clear hw0
  go_quiet (fail)
  go_wp2_with fail
  clear t1 a0 a1 HB
  generalize hw1 : w0.drewN _ = w1 at *
  have K0 : Hid (PieR w kind (.slice (some ⟨bx, ox, none⟩) n cx) (.slice (some ⟨b2, oy, none⟩) n cy) bx ox b2 oy k x0 x1 y0 y1 w1) := by show PieR _ _ _ _ _ _ _ _ _ _ _ _ _ _; rw [← hw1]; exact K00.out _
  clear hw1 K00
  have t2 := K0.out.box.t2
  have b0 := K0.out.b0
  have b1 := K0.out.b1
  go_region_held3 (fun x => x.cell? ⟨w.heap.size, 2, none⟩ = some (.slice (some ⟨b2, oy, none⟩) n cy) ∧ x.cell? ⟨b2, oy + k, none⟩ = some (.float .f64 y0) ∧ x.cell? ⟨b2, oy + (k + 1), none⟩ = some (.float .f64 y1)) (first | exact K0.out.all | exact K1.out.all | exact K2.out.all | exact K3.out.all | exact K4.out.all | go_keep) (first | ((go_at_call_of 88 (Value.float FloatKind.f64 y0); refine (HL0.out _).mono ?_; rintro e w2 ⟨rfl, hb2⟩; have K1 := hideS (K0.out.drew.step hb2); clear hb2)) | ((go_at_call_of 88 (Value.float FloatKind.f64 y1); refine (HL1.out _).mono ?_; rintro e w3 ⟨rfl, hb3⟩; have K2 := hideS (K1.out.step hb3); clear hb3)) | ((go_at_call 83; refine (HW.out _).mono ?_; rintro e w4 ⟨rfl, hb4⟩; have K3 := hideS (K2.out.step hb4); clear hb4)) | ((go_at_call 87; refine (HE.out _).mono ?_; rintro e w5 ⟨rfl, hb5⟩; have K4 := hideS (K3.out.step hb5); clear hb5)))
  all_goals
    clear t2 b0 b1
    have t2 := K4.out.box.t2
    have b0 := K4.out.b0
    have b1 := K4.out.b1
    have HL := hideS K4.out.box.bl
    clear K0 K1 K2 K3 K4
    go_wp2_with fail
    go_region_with ((go_at_call 37; refine (HH.out _).mono ?_; rintro e w6 ⟨rfl, rfl⟩))
    all_goals
      go_wp2_with fail
      go_ret
      exact ⟨rfl, HL.out.os, HL.out.tape, HL.out.output, HL.out.size, HL.out.block⟩
end Go.Proofs.YtnmjljijgmmakabGreat
namespace Go.Proofs.YtnmjljijgmmakabGreat
open Go.RowKit

def arr4i (a b c d : Int) : Obj := .cells #[.int .i64 a, .int .i64 b, .int .i64 c, .int .i64 d] 112
theorem arr4i_cells {w : World} {g : Nat} {a b c d : Int} (h : w.heap[g]? = some (arr4i a b c d)) : (w.cell? ⟨g, 0, none⟩ = some (.int .i64 a) ∧ w.cell? ⟨g, 1, none⟩ = some (.int .i64 b) ∧ w.cell? ⟨g, 2, none⟩ = some (.int .i64 c) ∧ w.cell? ⟨g, 3, none⟩ = some (.int .i64 d)) ∧ ∀ i, w.frozen? ⟨g, i, none⟩ = false := by
  unfold arr4i at h
  refine ⟨⟨?_, ?_, ?_, ?_⟩, fun i => frozen_of_row w g i _ _ h⟩
  all_goals
    simp only [World.cell?, h, Option.isSome_none, Bool.false_eq_true, if_false]
    rfl
def set4i (w : World) (g : Nat) (a b c d : Int) : World := (((w.setCell ⟨g, 0, none⟩ (.int .i64 a)).setCell ⟨g, 1, none⟩ (.int .i64 b)).setCell ⟨g, 2, none⟩ (.int .i64 c)).setCell ⟨g, 3, none⟩ (.int .i64 d)
theorem set4i_arr {w : World} {g : Nat} {a b c d a' b' c' d' : Int} (h : w.heap[g]? = some (arr4i a b c d)) : (set4i w g a' b' c' d').heap[g]? = some (arr4i a' b' c' d') := by
  unfold arr4i at h
  exact set_blockF _ (set_blockF _ (set_blockF _ (set_blockF _ h)))
theorem set4i_below (w : World) (g : Nat) (a b c d : Int) (B : Nat) (hB : B ≤ g) : Below B w (set4i w g a b c d) :=
  ((((Below.refl B w).setCell (p := ⟨g, 0, none⟩) hB _).setCell (p := ⟨g, 1, none⟩) hB _).setCell (p := ⟨g, 2, none⟩) hB _).setCell (p := ⟨g, 3, none⟩) hB _
theorem run_below {w wr w' : World} {b : Nat} {v : Value} {L : Nat} {a : A.St} (h : A.Run w wr b v L a) (hb : Below wr.heap.size wr w') : A.Run w w' b v L a := ⟨h.acc.below hb, h.bl.trans (hb.mono h.bl.size)⟩
theorem index4 (a b c d : Nat) (w : World) : (Instr.index 52 (.agg #[.float .f64 a, .float .f64 b, .float .f64 c, .float .f64 d]) (.int .i64 0)).run Tryz.prog w = .ok (.float .f64 a) w ∧ (Instr.index 52 (.agg #[.float .f64 a, .float .f64 b, .float .f64 c, .float .f64 d]) (.int .i64 1)).run Tryz.prog w = .ok (.float .f64 b) w ∧ (Instr.index 52 (.agg #[.float .f64 a, .float .f64 b, .float .f64 c, .float .f64 d]) (.int .i64 2)).run Tryz.prog w = .ok (.float .f64 c) w ∧ (Instr.index 52 (.agg #[.float .f64 a, .float .f64 b, .float .f64 c, .float .f64 d]) (.int .i64 3)).run Tryz.prog w = .ok (.float .f64 d) w := by
  refine ⟨?_, ?_, ?_, ?_⟩ <;> kernel_rfl
/-- A place among four, as what the round needs. -/
structure CubR (g : Nat) (ws : List Int) (ps : List Nat) (k : Nat) (q : Int) (c : Nat) : Prop where
  f : floatOfInt .f64 q = fi q
  nx : wAt ws ps (k + 1) = (wAt ws ps k).merge (A.prodG (fi q) c)
  u : U64 (fi q : Nat)
  v : U64 (c : Nat)

set_option maxRecDepth 20000 in
set_option maxHeartbeats 12800000 in
theorem cubic_walk (kind x : Int) (bx ox cx b2 oy cy n k D D3 : Nat) (x0 x1 i e q1 q2 r1 r2 r3 s2 s3 t1 t2 n1 : Int) (y0 y1 a b c d R : Nat) (w w0 : World) (hw0 : w.alloc (.cells #[.int .i64 kind, .slice (some ⟨bx, ox, none⟩) n cx, .slice (some ⟨b2, oy, none⟩) n cy] 25) = w0)
    (HB : Hid (PieR w kind (.slice (some ⟨bx, ox, none⟩) n cx) (.slice (some ⟨b2, oy, none⟩) n cy) bx ox b2 oy k x0 x1 y0 y1 w0)) (hjn : k + 1 < n) (hn : n ≤ 1000) (he : x1 - x = e) (hi : x - x0 = i) (hD : e + i = (D : Int)) (_e0 : 0 ≤ e) (_e1 : e ≤ 109572) (i0 : 0 ≤ i) (i1 : i ≤ 109572) (hDl : (D : Int) ≤ 109572) (hC : CubW (D : Int) i e q1 q2 r1 r2 r3 s2 s3 t1 t2 n1 (D3 : Int)) (hD3 : 1 ≤ D3) (na : NumW a) (nb : NumW b) (nc : NumW c) (nd : NumW d) (hR : overSt (wAt [q2, r3, s3, t2] [a, b, c, d] 4) D3 = R)
    (HP : Hid (∀ wx, Below w.heap.size w wx → Calls Tryz.prog 18 #[.agg #[.int .i64 kind, .slice (some ⟨bx, ox, none⟩) n cx, .slice (some ⟨b2, oy, none⟩) n cy], .int .i64 (k : Int)] wx fun e w' => e = .returned (.agg #[.float .f64 a, .float .f64 b, .float .f64 c, .float .f64 d]) ∧ Below wx.heap.size wx w')) :
    Calls Tryz.prog 64 #[.agg #[.int .i64 kind, .slice (some ⟨bx, ox, none⟩) n cx, .slice (some ⟨b2, oy, none⟩) n cy], .int .i64 (k : Int), .int .i64 x] w fun e w' => e = .returned (.float .f64 R) ∧ Below w.heap.size w w' := by
  obtain ⟨hq1, hq2, hr1, hr2, hr3, hs2, hs3, ht1, ht2, hn1, hn2, ⟨p1, p1'⟩, ⟨p2, p2'⟩, ⟨p3, p3'⟩, ⟨p4, p4'⟩, ⟨p5, p5'⟩, ⟨p6, p6'⟩, ⟨p7, p7'⟩, ⟨p8, p8'⟩, ⟨p9, p9'⟩, ⟨p10, p10'⟩, ⟨p11, p11'⟩⟩ := hC
  have h4 := wAt_four (K := 1074) rfl (a := q2) (b := r3) (c := s3) (d := t2) ⟨by omega, by omega⟩ ⟨by omega, by omega⟩ ⟨by omega, by omega⟩ ⟨by omega, by omega⟩ na.lt na.nb nb.lt nb.nb nc.lt nc.nb nd.lt nd.nb
  have hs : (wAt [q2, r3, s3, t2] [a, b, c, d] 4).s = 0 := by rw [h4]
  have hO : A.overF (wAt [q2, r3, s3, t2] [a, b, c, d] 4).N D3 = R := by rw [← hR]; unfold overSt; rw [if_pos hs]
  have C0 : Hid (CubR 0 [q2, r3, s3, t2] [a, b, c, d] 0 q2 a) := ⟨floatOf_fi _, rfl, u64N (fi_lt (by omega) (by omega)), u64N na.lt⟩
  have C1 : Hid (CubR 0 [q2, r3, s3, t2] [a, b, c, d] 1 r3 b) := ⟨floatOf_fi _, rfl, u64N (fi_lt (by omega) (by omega)), u64N nb.lt⟩
  have C2 : Hid (CubR 0 [q2, r3, s3, t2] [a, b, c, d] 2 s3 c) := ⟨floatOf_fi _, rfl, u64N (fi_lt (by omega) (by omega)), u64N nc.lt⟩
  have C3 : Hid (CubR 0 [q2, r3, s3, t2] [a, b, c, d] 3 t2 d) := ⟨floatOf_fi _, rfl, u64N (fi_lt (by omega) (by omega)), u64N nd.lt⟩
  have hz : wAt [q2, r3, s3, t2] [a, b, c, d] 0 = ⟨0, 0⟩ := rfl
  obtain ⟨F, hF⟩ : ∃ F, wAt [q2, r3, s3, t2] [a, b, c, d] = F := ⟨_, rfl⟩
  have HT := hideS (And.intro hs (And.intro hO (And.intro hD3 (show D3 < 9223372036854775808 by omega))))
  rw [hF] at HT
  have HZ := hideS hz
  rw [hF] at HZ
  have f1 : IntKind.i64.wrap ((k : Int) + 1) = (k : Int) + 1 := by rw [IntKind.wrap_i64]; omega
  have f2 : IntKind.i64.wrap (x1 - x) = e := by rw [IntKind.wrap_i64]; omega
  have f3 : IntKind.i64.wrap (x - x0) = i := by rw [IntKind.wrap_i64]; omega
  have g1 : (0 : Int) ≤ (k : Int) + 1 := by omega
  have g2 : (k : Int) + 1 < (n : Int) := by omega
  have g3 : (0 : Int) ≤ (k : Int) := by omega
  have g4 : (k : Int) < (n : Int) := by omega
  have K00 : Hid (∀ m, PieR w kind (.slice (some ⟨bx, ox, none⟩) n cx) (.slice (some ⟨b2, oy, none⟩) n cy) bx ox b2 oy k x0 x1 y0 y1 (w0.drewN m)) := fun m => HB.out.drewN m
  have u1 := HB.out.box.t1
  have a0 := HB.out.a0
  have a1 := HB.out.a1
  have HQ := hideS (And.intro hn1 (And.intro hn2 (And.intro p10 (And.intro p10' (And.intro p11 p11')))))
  clear he hi hs hO hR h4 na nb nc nd hz hn1 hn2 p10 p10' p11 p11' hD3
  go_enter Tryz.func64, Tryz.ntmps64
  go_wp2_with fail
  clear hw0
  go_quiet (fail)
  clear u1 a0 a1 HB f1 f2 f3
  generalize hw1 : w0.drewN _ = w1 at *
  have K0 : Hid (PieR w kind (.slice (some ⟨bx, ox, none⟩) n cx) (.slice (some ⟨b2, oy, none⟩) n cy) bx ox b2 oy k x0 x1 y0 y1 w1) := by show PieR _ _ _ _ _ _ _ _ _ _ _ _ _ _; rw [← hw1]; exact K00.out _
  clear hw1 K00
  have HA := hideS (show (w1.alloc (arr4i 0 0 0 0)).heap[w1.heap.size]? = some (arr4i 0 0 0 0) from heap_alloc_new w1 _)
  obtain ⟨⟨c0, c1, c2, c3⟩, fz⟩ := arr4i_cells HA.out
  have z0 := fz 0
  have z1 := fz 1
  have z2 := fz 2
  have z3 := fz 3
  have HL := hideS (((Below.refl w1.heap.size w1).alloc (Nat.le_refl _) (arr4i 0 0 0 0)).trans (set4i_below _ w1.heap.size q2 r3 s3 t2 w1.heap.size (Nat.le_refl _)))
  have HY := hideS (arr4i_cells (set4i_arr (a' := q2) (b' := r3) (c' := s3) (d' := t2) HA.out)).1
  have HG : Hid (w1.heap.size < (set4i (w1.alloc (arr4i 0 0 0 0)) w1.heap.size q2 r3 s3 t2).heap.size) := (Array.getElem?_eq_some_iff.1 (set4i_arr (a' := q2) (b' := r3) (c' := s3) (d' := t2) HA.out)).1
  clear fz HA
  obtain ⟨w2, hw2⟩ : ∃ w2, w1.alloc (arr4i 0 0 0 0) = w2 := ⟨_, rfl⟩
  rw [hw2] at c0 c1 c2 c3 z0 z1 z2 z3 HL HY HG
  unfold arr4i at hw2
  obtain ⟨w3, hw3⟩ : ∃ w3, set4i w2 w1.heap.size q2 r3 s3 t2 = w3 := ⟨_, rfl⟩
  rw [hw3] at HL HY HG
  unfold set4i at hw3
  have HNw := hideS (A.new_any w3 w3.heap.size (Nat.le_refl _))
  have K3 := hideS (K0.out.step HL.out)
  have HW3 : Hid (w.heap.size ≤ w3.heap.size ∧ Below w.heap.size w w3) := ⟨K3.out.box.bl.size, K3.out.box.bl⟩
  clear HL K0
  go_wp2_with fail
  clear hw2 hw3 c0 c1 c2 c3 z0 z1 z2 z3 hq1 hq2 hr1 hr2 hr3 hs2 hs3 ht1 ht2
  refine HNw.out.mono ?_
  rintro er w4 ⟨rfl, ac, bc⟩
  have R0 : Hid (A.Run w3 w4 w3.heap.size (.slice none 0 0) (72 * 0) (F 0)) := by show A.Run _ _ _ _ _ _; rw [HZ.out]; exact ⟨ac, bc⟩
  have K4 := hideS (K3.out.step bc)
  clear ac bc HNw K3
  have u0 := K4.out.box.t0
  have u1 := K4.out.box.t1
  have u2 := K4.out.box.t2
  go_wp2_with fail
  refine (HP.out _ K4.out.box.bl).mono ?_
  rintro er w5 ⟨rfl, hb5⟩
  have R1 := hideS (run_below R0.out hb5)
  clear hb5 u0 u1 u2 K4 R0 HP
  have HF := hideS hF
  have HX : Hid (w.heap.size ≤ w3.heap.size ∧ Below w.heap.size w w3) := HW3
  clear hF HZ HW3
  go_wp2_with fail
  go_loopw [12, 13, 61] (fun _ _ i wr => ∃ k : Nat, k ≤ 4 ∧ i = .int .i64 k ∧ Hid (∃ v, A.Run w3 wr w3.heap.size v (72 * k) (F k))) (fun _ _ i _ => 4 - (intOf i).toNat)
  case atStart => exact ⟨0, Nat.zero_le _, rfl, ⟨_, R1.out⟩⟩
  case round =>
    clear R1
    obtain ⟨k, hk, rfl, HR⟩ := hrel
    obtain ⟨v, hr⟩ := HR.out
    by_cases hlt : k < 4
    · rcases (show k = 0 ∨ k = 1 ∨ k = 2 ∨ k = 3 by omega) with rfl | rfl | rfl | rfl
      · have hc : wr.cell? ⟨w1.heap.size, 0, none⟩ = some (.int .i64 q2) := (hr.bl.cell (p := ⟨w1.heap.size, 0, none⟩) HG.out).trans HY.out.1
        have hf := C0.out.f
        have hx4 := (index4 a b c d wr).1
        have HN := hideS C0.out.nx
        rw [HF.out] at HN
        have HAd := hideS (A.prod_gen w3.heap.size w3.heap.size v (72 * 0) _ (fi q2) a wr hr.acc hr.bl.size C0.out.u C0.out.v (by omega))
        have H1 := hideS hr
        generalize fi q2 = X at *
        clear hr HR
        go_wp2_with fail
        refine HAd.out.mono ?_
        rintro er w6 ⟨rfl, q6, v6, hd6⟩
        have H2 : Hid (∃ v, A.Run w3 w6 w3.heap.size v (72 * 1) (F 1)) := ⟨v6, by rw [HN.out]; exact ((H1.out.drewN q6).did hd6).mono (by omega)⟩
        clear hd6 HAd H1
        go_wp2_with fail
        go_roundw
        case rel => exact ⟨1, by omega, by simp, H2⟩
        case measure => simp [intOf]
      · have hc : wr.cell? ⟨w1.heap.size, 1, none⟩ = some (.int .i64 r3) := (hr.bl.cell (p := ⟨w1.heap.size, 1, none⟩) HG.out).trans HY.out.2.1
        have hf := C1.out.f
        have hx4 := (index4 a b c d wr).2.1
        have HN := hideS C1.out.nx
        rw [HF.out] at HN
        have HAd := hideS (A.prod_gen w3.heap.size w3.heap.size v (72 * 1) _ (fi r3) b wr hr.acc hr.bl.size C1.out.u C1.out.v (by omega))
        have H1 := hideS hr
        generalize fi r3 = X at *
        clear hr HR
        go_wp2_with fail
        refine HAd.out.mono ?_
        rintro er w6 ⟨rfl, q6, v6, hd6⟩
        have H2 : Hid (∃ v, A.Run w3 w6 w3.heap.size v (72 * 2) (F 2)) := ⟨v6, by rw [HN.out]; exact ((H1.out.drewN q6).did hd6).mono (by omega)⟩
        clear hd6 HAd H1
        go_wp2_with fail
        go_roundw
        case rel => exact ⟨2, by omega, by simp, H2⟩
        case measure => simp [intOf]
      · have hc : wr.cell? ⟨w1.heap.size, 2, none⟩ = some (.int .i64 s3) := (hr.bl.cell (p := ⟨w1.heap.size, 2, none⟩) HG.out).trans HY.out.2.2.1
        have hf := C2.out.f
        have hx4 := (index4 a b c d wr).2.2.1
        have HN := hideS C2.out.nx
        rw [HF.out] at HN
        have HAd := hideS (A.prod_gen w3.heap.size w3.heap.size v (72 * 2) _ (fi s3) c wr hr.acc hr.bl.size C2.out.u C2.out.v (by omega))
        have H1 := hideS hr
        generalize fi s3 = X at *
        clear hr HR
        go_wp2_with fail
        refine HAd.out.mono ?_
        rintro er w6 ⟨rfl, q6, v6, hd6⟩
        have H2 : Hid (∃ v, A.Run w3 w6 w3.heap.size v (72 * 3) (F 3)) := ⟨v6, by rw [HN.out]; exact ((H1.out.drewN q6).did hd6).mono (by omega)⟩
        clear hd6 HAd H1
        go_wp2_with fail
        go_roundw
        case rel => exact ⟨3, by omega, by simp, H2⟩
        case measure => simp [intOf]
      · have hc : wr.cell? ⟨w1.heap.size, 3, none⟩ = some (.int .i64 t2) := (hr.bl.cell (p := ⟨w1.heap.size, 3, none⟩) HG.out).trans HY.out.2.2.2
        have hf := C3.out.f
        have hx4 := (index4 a b c d wr).2.2.2
        have HN := hideS C3.out.nx
        rw [HF.out] at HN
        have HAd := hideS (A.prod_gen w3.heap.size w3.heap.size v (72 * 3) _ (fi t2) d wr hr.acc hr.bl.size C3.out.u C3.out.v (by omega))
        have H1 := hideS hr
        generalize fi t2 = X at *
        clear hr HR
        go_wp2_with fail
        refine HAd.out.mono ?_
        rintro er w6 ⟨rfl, q6, v6, hd6⟩
        have H2 : Hid (∃ v, A.Run w3 w6 w3.heap.size v (72 * 4) (F 4)) := ⟨v6, by rw [HN.out]; exact ((H1.out.drewN q6).did hd6).mono (by omega)⟩
        clear hd6 HAd H1
        go_wp2_with fail
        go_roundw
        case rel => exact ⟨4, by omega, by simp, H2⟩
        case measure => simp [intOf]
    · obtain rfl : k = 4 := by omega
      have HOv := hideS (A.over_any w3.heap.size w3.heap.size v (72 * 4) (F 4) D3 wr hr.acc hr.bl.size (by omega) HT.out.2.2.1 HT.out.2.2.2 HT.out.1 (A.divOk_any HT.out.2.2.1 (by have := HT.out.2.2.2; omega)))
      rw [HT.out.2.1] at HOv
      have HLr := hideS (HX.out.2.trans (hr.bl.mono HX.out.1))
      have HSz := hideS (Nat.le_trans HX.out.1 hr.bl.size)
      obtain ⟨m1, m2, p10, p10', p11, p11'⟩ := HQ.out
      clear hr HR
      go_wp2_with fail
      refine HOv.out.mono ?_
      rintro er w6 ⟨rfl, hb6⟩
      have HLz := hideS (HLr.out.trans (hb6.mono HSz.out))
      clear hb6 HOv
      go_wp2_with fail
      go_ret
      exact ⟨rfl, HLz.out⟩
end Go.Proofs.YtnmjljijgmmakabGreat
