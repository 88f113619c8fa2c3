/- The contract of the document's Bond. A leg of both sides: what Fixed and Bond tell. What tenorlaw14's short tells. Made by gen_short.py. Boxes of legs and of schedules that are filled; the document's OfLeg. Made by gen_leg.py. -/
import Derived.Test.YtpcgbcdldkmibaaGreatHbs
import Derived.Test.YtpcgbcdldkmibaaGreatHbf
import Derived.Test.YtpcgbcdldkmibaaGreatJgS
import Derived.Lib.MinMax
import Derived.Deep.QuietTactic
import Derived.BigQuiet
namespace Go.Proofs.YtpcgbcdldkmibaaGreat
open Go.RowKit

set_option maxRecDepth 20000 in
set_option maxHeartbeats 6400000 in
theorem ref14Bond_any (g : LegJ) (v : Value) (o : Except Int (List Flw)) (w : World) (ho : ∀ m, o = .ok m → 0 < m.length ∧ m.length ≤ 2000) (hE : ∀ E, o = .error E → E ≠ 0)
    (HF : Hid (∀ wx, Below w.heap.size w wx → Calls Tryz.prog 8 #[.agg #[.int .i64 g.kind, .int .i64 g.count, .int .i64 g.cur, .int .u64 (g.n : Int), .int .u64 (g.r : Int), .int .i64 g.s.st, .int .i64 g.s.en, .int .i64 g.s.n, .int .i64 g.s.unit, .int .i64 g.s.stub, .int .i64 g.s.roll, .int .i64 g.s.conv, .int .i64 g.s.lag, .int .i64 g.W, v]] wx fun e w' => LstX aB 65 o wx.heap.size e w' ∧ Below wx.heap.size wx w')) :
    Calls Tryz.prog 10 #[.agg #[.int .i64 g.kind, .int .i64 g.count, .int .i64 g.cur, .int .u64 (g.n : Int), .int .u64 (g.r : Int), .int .i64 g.s.st, .int .i64 g.s.en, .int .i64 g.s.n, .int .i64 g.s.unit, .int .i64 g.s.stub, .int .i64 g.s.roll, .int .i64 g.s.conv, .int .i64 g.s.lag, .int .i64 g.W, v]] w fun e w' => LstX aB 65 (bondR g o) w.heap.size e w' ∧ Below w.heap.size w w' := by
  have H0 := hideS (lbx_b w g v)
  obtain ⟨w0, hw0⟩ : ∃ w0, w.alloc (.cells #[.int .i64 g.kind, .int .i64 g.count, .int .i64 g.cur, .int .u64 (g.n : Int), .int .u64 (g.r : Int), .int .i64 g.s.st, .int .i64 g.s.en, .int .i64 g.s.n, .int .i64 g.s.unit, .int .i64 g.s.stub, .int .i64 g.s.roll, .int .i64 g.s.conv, .int .i64 g.s.lag, .int .i64 g.W, v] 34) = w0 := ⟨_, rfl⟩
  rw [hw0] at H0
  have H1 := hideS (HF.out w0 H0.out.bl)
  cases o with
  | error E =>
    have hE' := hE E rfl
    have HPo : Hid (∀ wx, LstX aB 65 (bondR g (.error E)) w.heap.size (.returned (.tuple #[.slice none 0 0, .int .i64 E])) wx) := fun wx => Or.inl ⟨E, rfl, rfl⟩
    generalize LstX aB 65 (bondR g (.error E)) w.heap.size = Lo at *
    have d1 : (E != 0) = true := bne_iff_ne.2 hE'
    obtain ⟨z0, z1, z2, z3, z4, z5, z6, z7, z8, z9, z10, z11, z12, z13, z14, _, _⟩ := H0.out
    obtain ⟨gk, gc, gu, gn, gr, s, W⟩ := g
    obtain ⟨st, en, n, unit, stub, roll, conv, lag⟩ := s
    dsimp only [aB] at *
    clear ho hE hE'
    go_enter Tryz.func10, Tryz.ntmps10
    go_wp2_with fail
    refine H1.out.mono ?_
    rintro e w1 ⟨hL, hb1⟩
    rcases hL with ⟨E', hE', rfl⟩ | ⟨m, u, h, _, _⟩
    · cases hE'
      have HB := hideS (H0.out.bl.trans (hb1.mono H0.out.bl.size))
      clear hb1
      go_wp2_with fail
      go_ret2
      exact ⟨HPo.out _, HB.out⟩
    · cases h
  | ok m =>
    obtain ⟨m0, m1⟩ := ho m rfl
    have HPo : Hid (∀ u wx, wx.ownsRow w.heap.size 65 3 u (m.length + 1) (rowF aB (m ++ [⟨(m.getD (m.length - 1) flw0).day, g.n, g.cur⟩])) → LstX aB 65 (bondR g (.ok m)) w.heap.size (.returned (.tuple #[u, .int .i64 0])) wx) := fun u wx h => Or.inr ⟨_, u, rfl, rfl, by rw [List.length_append]; exact h⟩
    generalize LstX aB 65 (bondR g (.ok m)) w.heap.size = Lo at *
    have HM := hideS (And.intro m0 m1)
    obtain ⟨z0, z1, z2, z3, z4, z5, z6, z7, z8, z9, z10, z11, z12, z13, z14, _, _⟩ := H0.out
    obtain ⟨gk, gc, gu, gn, gr, s, W⟩ := g
    obtain ⟨st, en, n, unit, stub, roll, conv, lag⟩ := s
    dsimp only [aB] at *
    clear ho hE m0 m1
    go_enter Tryz.func10, Tryz.ntmps10
    go_wp2_with fail
    refine H1.out.mono ?_
    rintro e w1 ⟨hL, hb1⟩
    rcases hL with ⟨E', hE', _⟩ | ⟨m', u, h, rfl, hw⟩
    · cases hE'
    · cases h
      obtain ⟨pm, gm, cm, rfl, hs, hlo, _, _⟩ := fown_src hw rfl
      obtain rfl := hs.at_ HM.out.1
      have HL1 := hideS (H0.out.step hb1)
      have HB1 := hideS (H0.out.bl.trans (hb1.mono H0.out.bl.size))
      have hcl := (hs.cell (m.length - 1) (by have := HM.out.1; omega)).c0
      rw [Nat.zero_add] at hcl
      have HOm := hideS (fown_mono hw H0.out.bl.size)
      obtain ⟨N, hN⟩ : ∃ N, m.length = N + 1 := ⟨m.length - 1, by have := HM.out.1; omega⟩
      rw [hN] at hcl HOm HPo HM
      rw [hN]
      rw [Nat.add_sub_cancel] at hcl HPo
      have x2 := HL1.out.c2
      have x3 := HL1.out.c3
      dsimp only [aB] at x2 x3
      generalize (m.getD N flw0).day = dd at *
      have hNl : N ≤ 2000 := by have := HM.out.2; omega
      have HBw := hideS ((Below.refl w1.heap.size w1).drew.alloc (Nat.le_refl _) (.cells #[.int .i64 dd, .int .u64 (gn : Int), .int .i64 gu] 65))
      have HO4 := hideS (fown_below HOm.out HBw.out)
      have HFc : Hid (FCells aB (w1.drew.alloc (.cells #[.int .i64 dd, .int .u64 (gn : Int), .int .i64 gu] 65)) w1.heap.size 0 ⟨dd, gn, gu⟩) := dcells_new w1.drew ⟨dd, gn, gu⟩
      have HB4 := hideS (HB1.out.trans (HBw.out.mono HB1.out.size))
      have i1 : ((N : Int) + 1 - 1) = N := by omega
      have i2 : IntKind.i64.wrap (N : Int) = (N : Int) := by rw [IntKind.wrap_i64]; omega
      have g3 : (0 : Int) ≤ (N : Int) := by omega
      have g4 : (N : Int) < (N : Int) + 1 := by omega
      have hgm : gm ≠ w1.heap.size := Nat.ne_of_lt (hs.lt (by have := HM.out.1; omega))
      have hwm : w.heap.size ≠ w1.heap.size := Nat.ne_of_lt (Nat.lt_of_lt_of_le H0.out.lt hb1.size)
      clear hb1 hs hlo hw hN H1
      go_wp2_with fail
      go_region_law (refine step_append_fd rfl (.tmp 14) (.tmp 27) rfl w.heap.size (.slice (some ⟨gm, 0, none⟩) (N + 1) cm) (N + 1) m rfl HO4.out HB4.out.size w1.heap.size ⟨dd, gn, gu⟩ rfl HFc.out (by omega) ?_; intro v5 w5 ho5 hb5; have HB5 := hideS (HB4.out.trans hb5); have HO5 := hideS ho5; clear ho5 hb5)
      all_goals
        go_wp2_with fail
        go_ret2
        exact ⟨HPo.out _ _ HO5.out, HB5.out⟩
end Go.Proofs.YtpcgbcdldkmibaaGreat
namespace Go.Proofs.YtpcgbcdldkmibaaGreat
open Go.RowKit

theorem periods_twoJ (s : Spc) (W : Int) (p : Option Addr) (b off c : Nat) (rs : List Rul) (w : World) (hs : RSrc w p b off rs) (hl : rs.length ≤ 1000000) : ∃ (xs : List Per) (E : Int), xs.length ≤ 2000 ∧ (E = 0 → 0 < xs.length) ∧
    (∀ wx, Below w.heap.size w wx → Calls Tryz.prog 33 #[.agg #[.int .i64 s.st, .int .i64 s.en, .int .i64 s.n, .int .i64 s.unit, .int .i64 s.stub, .int .i64 s.roll, .int .i64 s.conv, .int .i64 s.lag, .int .i64 W, .slice p rs.length c]] wx fun e w' => PersOut xs E wx e w' ∧ Below wx.heap.size wx w') ∧
    (∀ wx, Below w.heap.size w wx → Calls Tryz.prog 36 #[.agg #[.int .i64 s.st, .int .i64 s.en, .int .i64 s.n, .int .i64 s.unit, .int .i64 s.stub, .int .i64 s.roll, .int .i64 s.conv, .int .i64 s.lag, .int .i64 W, .slice p rs.length c]] wx fun e w' => PersOut xs E wx e w' ∧ Below wx.heap.size wx w') := by
  obtain ⟨A, B, hA⟩ := chk_ex W rs
  obtain ⟨E, hE⟩ := spc_ex s A
  by_cases h0 : E = 0
  · subst h0
    obtain ⟨hok, rfl⟩ := spc_ok hE
    obtain ⟨hC, _⟩ := chk_ok hA
    obtain ⟨K, hK⟩ := dat_ex hok
    refine ⟨_, _, ?_, ?_, fun wx hb => (schPeriods_yes s W K p b off c rs wx hok hC hK (hs.below hb)).mono fun e w' ⟨a, b⟩ => ⟨pers_of a, b⟩, fun wx hb => (ref8Periods_ok s W K p b off c rs wx hok hC hK (hs.below hb)).mono fun e w' ⟨a, b⟩ => ⟨pers_of a, b⟩⟩
    · split
      · rw [perL_len]; have := cut_le s K; omega
      · simp
    · intro h
      split at h
      · split at h
        · rename_i h1 h2
          rw [if_pos ⟨h1, h2⟩, perL_len]; omega
        · cases h
      · cases h
  · exact ⟨[], E, by simp, fun h => absurd h h0, fun wx hb => (schPeriods_no s W A B E p b off c rs wx hA hE h0 (hs.below hb) (by omega)).mono fun e w' ⟨a, b⟩ => ⟨by rw [a]; exact pers_nil _ _ _, b⟩, fun wx hb => (ref8Periods_no s W A B E p b off c rs wx hA hE h0 (hs.below hb) hl).mono fun e w' ⟨a, b⟩ => ⟨by rw [a]; exact pers_nil _ _ _, b⟩⟩
def xL : Except Int (List Flw) → List Flw
  | .ok m => m
  | .error _ => []
def xE : Except Int (List Flw) → Int
  | .ok _ => 0
  | .error E => E
theorem jl_nil (w : World) : JL w (.slice none 0 0) [] := ⟨none, 0, 0, 0, rfl, ⟨fun h => by simp at h, fun h => by simp at h, fun i hi => by simp at hi⟩⟩
theorem jd_nil (w : World) : JD w (.slice none 0 0) [] := ⟨none, 0, 0, rfl, ⟨fun h => by simp at h, fun h => by simp at h, fun i hi => by simp at hi⟩⟩
theorem lstX_get {o : Except Int (List Flw)} {base : Nat} {e : Ending} {w : World} (h : LstX aF 45 o base e w) : ∃ u, e = .returned (.tuple #[u, .int .i64 (xE o)]) ∧ JL w u (xL o) := by
  rcases h with ⟨E, rfl, he⟩ | ⟨m, u, rfl, he, hw⟩
  · exact ⟨_, he, jl_nil w⟩
  · exact ⟨u, he, JL.own hw⟩
theorem lstXD_get {o : Except Int (List Flw)} {base : Nat} {e : Ending} {w : World} (h : LstX aB 65 o base e w) : ∃ u, e = .returned (.tuple #[u, .int .i64 (xE o)]) ∧ JD w u (xL o) := by
  rcases h with ⟨E, rfl, he⟩ | ⟨m, u, rfl, he, hw⟩
  · exact ⟨_, he, jd_nil w⟩
  · exact ⟨u, he, JD.own hw⟩
theorem payO_fit {g : LegJ} {y : Per → Nat} {ye : Per → Int} {p : Per} {f : Flw} (h : payO g y ye p = .ok f) : f.am < 18446744073709551616 := by
  unfold payO at h
  split at h
  · cases h
  · split at h
    · rename_i a ha
      split at h
      · injection h with h
        rw [← h]
        cases hm : floatBits .mul .f64 g.n g.r with
        | none => rw [hm] at ha; cases ha
        | some x => rw [hm] at ha; exact float_lt (Or.inr (Or.inr (Or.inl rfl))) ha
      · cases h
    · cases h
theorem payO_err {g : LegJ} {y : Per → Nat} {ye : Per → Int} {p : Per} {E : Int} (h : payO g y ye p = .error E) : E ≠ 0 := by
  unfold payO at h
  split at h
  · rename_i h0
    injection h with h
    rw [← h]; exact h0
  · split at h
    · split at h
      · cases h
      · have h9 := Except.error.inj h; clear h; omega
    · have h9 := Except.error.inj h; clear h; omega
theorem payN_err {g : LegJ} {y : Per → Nat} {ye : Per → Int} {xs : List Per} : ∀ {k : Nat} {E : Int}, payN g y ye xs k = .error E → E ≠ 0
  | 0, E, h => by cases h
  | k + 1, E, h => by
    unfold payN at h
    cases hk : payN g y ye xs k with
    | error F =>
      rw [hk] at h
      injection h with h
      rw [← h]; exact payN_err hk
    | ok m =>
      rw [hk] at h
      cases ho : payO g y ye (xs.getD k per0) with
      | error F =>
        dsimp only at h
        rw [ho] at h
        injection h with h
        rw [← h]; exact payO_err ho
      | ok f =>
        dsimp only at h
        rw [ho] at h
        cases h
theorem payN_fit {g : LegJ} {y : Per → Nat} {ye : Per → Int} {xs : List Per} : ∀ {k : Nat} {m : List Flw}, payN g y ye xs k = .ok m → m.length = k ∧ ∀ f ∈ m, f.am < 18446744073709551616
  | 0, m, h => by
    injection h with h
    rw [← h]; exact ⟨rfl, fun f hf => by cases hf⟩
  | k + 1, m, h => by
    unfold payN at h
    cases hk : payN g y ye xs k with
    | error F => rw [hk] at h; cases h
    | ok m0 =>
      rw [hk] at h
      cases ho : payO g y ye (xs.getD k per0) with
      | error F =>
        dsimp only at h
        rw [ho] at h; cases h
      | ok f =>
        dsimp only at h
        rw [ho] at h
        injection h with h
        obtain ⟨h1, h2⟩ := payN_fit hk
        rw [← h, List.length_append, h1]
        refine ⟨rfl, fun x hx => ?_⟩
        rcases List.mem_append.1 hx with hx | hx
        · exact h2 x hx
        · rw [List.mem_singleton.1 hx]; exact payO_fit ho
theorem fit_all {l : List Flw} (h : ∀ f ∈ l, f.am < 18446744073709551616) : FitJ l := fun i => by
  by_cases hi : i < l.length
  · rw [List.getD_eq_getElem?_getD, List.getElem?_eq_getElem hi]; exact h _ (List.getElem_mem hi)
  · rw [List.getD_eq_getElem?_getD, List.getElem?_eq_none (by omega)]; decide
structure LegT (g : LegJ) (v : Value) (o : Except Int (List Flw)) (w : World) : Prop where
  fp : ∀ wx, Below w.heap.size w wx → Calls Tryz.prog 7 #[.agg #[.int .i64 g.kind, .int .i64 g.count, .int .i64 g.cur, .float .f64 g.n, .float .f64 g.r, .int .i64 g.s.st, .int .i64 g.s.en, .int .i64 g.s.n, .int .i64 g.s.unit, .int .i64 g.s.stub, .int .i64 g.s.roll, .int .i64 g.s.conv, .int .i64 g.s.lag, .int .i64 g.W, v]] wx fun e w' => (∃ u, e = .returned (.tuple #[u, .int .i64 (xE o)]) ∧ JL w' u (xL o)) ∧ Below wx.heap.size wx w'
  fd : ∀ wx, Below w.heap.size w wx → Calls Tryz.prog 8 #[.agg #[.int .i64 g.kind, .int .i64 g.count, .int .i64 g.cur, .int .u64 (g.n : Int), .int .u64 (g.r : Int), .int .i64 g.s.st, .int .i64 g.s.en, .int .i64 g.s.n, .int .i64 g.s.unit, .int .i64 g.s.stub, .int .i64 g.s.roll, .int .i64 g.s.conv, .int .i64 g.s.lag, .int .i64 g.W, v]] wx fun e w' => (∃ u, e = .returned (.tuple #[u, .int .i64 (xE o)]) ∧ JD w' u (xL o)) ∧ Below wx.heap.size wx w'
  bp : ∀ wx, Below w.heap.size w wx → Calls Tryz.prog 9 #[.agg #[.int .i64 g.kind, .int .i64 g.count, .int .i64 g.cur, .float .f64 g.n, .float .f64 g.r, .int .i64 g.s.st, .int .i64 g.s.en, .int .i64 g.s.n, .int .i64 g.s.unit, .int .i64 g.s.stub, .int .i64 g.s.roll, .int .i64 g.s.conv, .int .i64 g.s.lag, .int .i64 g.W, v]] wx fun e w' => (∃ u, e = .returned (.tuple #[u, .int .i64 (xE (bondR g o))]) ∧ JL w' u (xL (bondR g o))) ∧ Below wx.heap.size wx w'
  bd : ∀ wx, Below w.heap.size w wx → Calls Tryz.prog 10 #[.agg #[.int .i64 g.kind, .int .i64 g.count, .int .i64 g.cur, .int .u64 (g.n : Int), .int .u64 (g.r : Int), .int .i64 g.s.st, .int .i64 g.s.en, .int .i64 g.s.n, .int .i64 g.s.unit, .int .i64 g.s.stub, .int .i64 g.s.roll, .int .i64 g.s.conv, .int .i64 g.s.lag, .int .i64 g.W, v]] wx fun e w' => (∃ u, e = .returned (.tuple #[u, .int .i64 (xE (bondR g o))]) ∧ JD w' u (xL (bondR g o))) ∧ Below wx.heap.size wx w'
  f1 : FitJ (xL o)
  n1 : (xL o).length ≤ 2000
  f2 : FitJ (xL (bondR g o))
  n2 : (xL (bondR g o)).length ≤ 2001
theorem leg_two (g : LegJ) (p : Option Addr) (b off c : Nat) (rs : List Rul) (w : World) (hs : RSrc w p b off rs) (hl : rs.length ≤ 100) (hn : g.n < 18446744073709551616) (hr : g.r < 18446744073709551616) : ∃ o, LegT g (.slice p rs.length c) o w := by
  obtain ⟨xs, E, hx, hx0, hp, hd⟩ := periods_twoJ g.s g.W p b off c rs w hs (by omega)
  have h : ∀ q : Per, ∃ P Q E, FracR g.count g.W q.st q.en rs P Q E := fun q => fracR_ex ..
  obtain ⟨P, h1⟩ := Classical.skolem.1 h
  obtain ⟨Q, h2⟩ := Classical.skolem.1 h1
  obtain ⟨ye, h3⟩ := Classical.skolem.1 h2
  have hy : ∀ q, yW (P q) (Q q) < 18446744073709551616 := fun q => yW_lt (h3 q).bd.1 (h3 q).bd.2.1
  obtain ⟨o, ho⟩ : ∃ o, fixR g (fun q => yW (P q) (Q q)) ye (legX g 1 xs) (legE g 1 E) = o := ⟨_, rfl⟩
  have hfp : ∀ wx, Below w.heap.size w wx → Calls Tryz.prog 7 #[.agg #[.int .i64 g.kind, .int .i64 g.count, .int .i64 g.cur, .float .f64 g.n, .float .f64 g.r, .int .i64 g.s.st, .int .i64 g.s.en, .int .i64 g.s.n, .int .i64 g.s.unit, .int .i64 g.s.stub, .int .i64 g.s.roll, .int .i64 g.s.conv, .int .i64 g.s.lag, .int .i64 g.W, .slice p rs.length c]] wx fun e w' => LstX aF 45 o wx.heap.size e w' ∧ Below wx.heap.size wx w' := fun wx hb => by
    rw [← ho]
    exact jFixed_any g (.slice p rs.length c) E xs (fun q => yW (P q) (Q q)) ye wx hn hr hy hx (fun wy hy => hp wy (hb.trans (hy.mono hb.size))) (fun q wy hy => (h3 q).year p b off c wx (hs.below hb) (by omega) wy hy)
  have hfd : ∀ wx, Below w.heap.size w wx → Calls Tryz.prog 8 #[.agg #[.int .i64 g.kind, .int .i64 g.count, .int .i64 g.cur, .int .u64 (g.n : Int), .int .u64 (g.r : Int), .int .i64 g.s.st, .int .i64 g.s.en, .int .i64 g.s.n, .int .i64 g.s.unit, .int .i64 g.s.stub, .int .i64 g.s.roll, .int .i64 g.s.conv, .int .i64 g.s.lag, .int .i64 g.W, .slice p rs.length c]] wx fun e w' => LstX aB 65 o wx.heap.size e w' ∧ Below wx.heap.size wx w' := fun wx hb => by
    rw [← ho]
    exact ref14Fixed_any g (.slice p rs.length c) E xs (fun q => yW (P q) (Q q)) ye wx hn hr hy hx (fun wy hy => hd wy (hb.trans (hy.mono hb.size))) (fun q wy hy => (h3 q).refY p b off c wx (hs.below hb) (by omega) wy hy)
  have hX : (legX g 1 xs).length ≤ 2000 := by unfold legX; split; exact hx; simp
  have hok : ∀ m, o = .ok m → 0 < m.length ∧ m.length ≤ 2000 ∧ ∀ f ∈ m, f.am < 18446744073709551616 := fun m hm => by
    rw [hm] at ho
    unfold fixR at ho
    split at ho
    · cases ho
    · rename_i h0
      obtain ⟨a, b⟩ := payN_fit ho
      refine ⟨?_, by rw [a]; exact hX, b⟩
      have h0' : legE g 1 E = 0 := by simpa using h0
      unfold legE at h0'
      split at h0'
      · rename_i hb
        rw [a]; unfold legX; rw [if_pos hb]; exact hx0 h0'
      · rename_i hb; exact absurd h0' hb
  have herr : ∀ F, o = .error F → F ≠ 0 := fun F hF => by
    rw [hF] at ho
    unfold fixR at ho
    split at ho
    · rename_i h0; injection ho with ho; rw [← ho]; exact h0
    · exact payN_err ho
  have hok2 : ∀ m, o = .ok m → 0 < m.length ∧ m.length ≤ 2000 := fun m hm => ⟨(hok m hm).1, (hok m hm).2.1⟩
  refine ⟨o, fun wx hb => (hfp wx hb).mono fun e w' ⟨a, b⟩ => ⟨lstX_get a, b⟩, fun wx hb => (hfd wx hb).mono fun e w' ⟨a, b⟩ => ⟨lstXD_get a, b⟩, fun wx hb => ?_, fun wx hb => ?_, ?_, ?_, ?_, ?_⟩
  · exact (jBond_any g (.slice p rs.length c) o wx hok2 herr (fun wy hy => hfp wy (hb.trans (hy.mono hb.size)))).mono fun e w' ⟨a, b⟩ => ⟨lstX_get a, b⟩
  · exact (ref14Bond_any g (.slice p rs.length c) o wx hok2 herr (fun wy hy => hfd wy (hb.trans (hy.mono hb.size)))).mono fun e w' ⟨a, b⟩ => ⟨lstXD_get a, b⟩
  · cases o with
    | error F => exact fit_all (fun f hf => by cases hf)
    | ok m => exact fit_all (hok m rfl).2.2
  · cases o with
    | error F => exact Nat.zero_le _
    | ok m => exact (hok m rfl).2.1
  · cases o with
    | error F => exact fit_all (fun f hf => by cases hf)
    | ok m =>
      refine fit_all (fun f hf => ?_)
      rcases List.mem_append.1 (show f ∈ m ++ [_] from hf) with hf | hf
      · exact (hok m rfl).2.2 f hf
      · rw [List.mem_singleton.1 hf]; exact hn
  · cases o with
    | error F => exact Nat.zero_le _
    | ok m =>
      have : (xL (bondR g (.ok m))).length = m.length + 1 := by
        show (m ++ [_]).length = _
        rw [List.length_append]; rfl
      have := (hok m rfl).2.1
      omega
end Go.Proofs.YtpcgbcdldkmibaaGreat
namespace Go.Proofs.YtpcgbcdldkmibaaGreat
open Go.RowKit

def zeroSc : Obj := .cells #[.int .i64 0, .int .i64 0, .int .i64 0, .int .i64 0, .int .i64 0, .int .i64 0, .int .i64 0, .int .i64 0, .int .i64 0, .slice none 0 0] 27
theorem fill_sch (w : World) (s : Spc) (W : Int) (v : Value) (wr : World) (h : wr.heap[w.heap.size]? = some zeroSc) (hb : Below w.heap.size w wr) : ∃ u1 u2 u3 u4 u5 u6 u7 u8 u9 u10 : World, (wr.setCell ⟨w.heap.size, 0, none⟩ (.int .i64 s.st) = u1 ∧ wr.cell? ⟨w.heap.size, 0, none⟩ = some (.int .i64 0) ∧ wr.frozen? ⟨w.heap.size, 0, none⟩ = false) ∧ (u1.setCell ⟨w.heap.size, 1, none⟩ (.int .i64 s.en) = u2 ∧ u1.cell? ⟨w.heap.size, 1, none⟩ = some (.int .i64 0) ∧ u1.frozen? ⟨w.heap.size, 1, none⟩ = false) ∧ (u2.setCell ⟨w.heap.size, 2, none⟩ (.int .i64 s.n) = u3 ∧ u2.cell? ⟨w.heap.size, 2, none⟩ = some (.int .i64 0) ∧ u2.frozen? ⟨w.heap.size, 2, none⟩ = false) ∧ (u3.setCell ⟨w.heap.size, 3, none⟩ (.int .i64 s.unit) = u4 ∧ u3.cell? ⟨w.heap.size, 3, none⟩ = some (.int .i64 0) ∧ u3.frozen? ⟨w.heap.size, 3, none⟩ = false) ∧ (u4.setCell ⟨w.heap.size, 4, none⟩ (.int .i64 s.stub) = u5 ∧ u4.cell? ⟨w.heap.size, 4, none⟩ = some (.int .i64 0) ∧ u4.frozen? ⟨w.heap.size, 4, none⟩ = false) ∧ (u5.setCell ⟨w.heap.size, 5, none⟩ (.int .i64 s.roll) = u6 ∧ u5.cell? ⟨w.heap.size, 5, none⟩ = some (.int .i64 0) ∧ u5.frozen? ⟨w.heap.size, 5, none⟩ = false) ∧ (u6.setCell ⟨w.heap.size, 6, none⟩ (.int .i64 s.conv) = u7 ∧ u6.cell? ⟨w.heap.size, 6, none⟩ = some (.int .i64 0) ∧ u6.frozen? ⟨w.heap.size, 6, none⟩ = false) ∧ (u7.setCell ⟨w.heap.size, 7, none⟩ (.int .i64 s.lag) = u8 ∧ u7.cell? ⟨w.heap.size, 7, none⟩ = some (.int .i64 0) ∧ u7.frozen? ⟨w.heap.size, 7, none⟩ = false) ∧ (u8.setCell ⟨w.heap.size, 8, none⟩ (.int .i64 W) = u9 ∧ u8.cell? ⟨w.heap.size, 8, none⟩ = some (.int .i64 0) ∧ u8.frozen? ⟨w.heap.size, 8, none⟩ = false) ∧ (u9.setCell ⟨w.heap.size, 9, none⟩ (v) = u10 ∧ u9.cell? ⟨w.heap.size, 9, none⟩ = some (.slice none 0 0) ∧ u9.frozen? ⟨w.heap.size, 9, none⟩ = false) ∧ (u10.cell? ⟨w.heap.size, 0, none⟩ = some (.int .i64 s.st) ∧ u10.cell? ⟨w.heap.size, 1, none⟩ = some (.int .i64 s.en) ∧ u10.cell? ⟨w.heap.size, 2, none⟩ = some (.int .i64 s.n) ∧ u10.cell? ⟨w.heap.size, 3, none⟩ = some (.int .i64 s.unit) ∧ u10.cell? ⟨w.heap.size, 4, none⟩ = some (.int .i64 s.stub) ∧ u10.cell? ⟨w.heap.size, 5, none⟩ = some (.int .i64 s.roll) ∧ u10.cell? ⟨w.heap.size, 6, none⟩ = some (.int .i64 s.conv) ∧ u10.cell? ⟨w.heap.size, 7, none⟩ = some (.int .i64 s.lag) ∧ u10.cell? ⟨w.heap.size, 8, none⟩ = some (.int .i64 W) ∧ u10.cell? ⟨w.heap.size, 9, none⟩ = some (v)) ∧ Below w.heap.size w u10 := by
  unfold zeroSc at h
  obtain ⟨u1, e1⟩ : ∃ u1, wr.setCell ⟨w.heap.size, 0, none⟩ (.int .i64 s.st) = u1 := ⟨_, rfl⟩
  have h1 : u1.heap[w.heap.size]? = some (.cells #[.int .i64 s.st, .int .i64 0, .int .i64 0, .int .i64 0, .int .i64 0, .int .i64 0, .int .i64 0, .int .i64 0, .int .i64 0, .slice none 0 0] 27) := by rw [← e1]; exact set_blockJ _ h
  have b1 : Below w.heap.size w u1 := by rw [← e1]; exact hb.setCell (p := ⟨w.heap.size, 0, none⟩) (Nat.le_refl _) _
  obtain ⟨u2, e2⟩ : ∃ u2, u1.setCell ⟨w.heap.size, 1, none⟩ (.int .i64 s.en) = u2 := ⟨_, rfl⟩
  have h2 : u2.heap[w.heap.size]? = some (.cells #[.int .i64 s.st, .int .i64 s.en, .int .i64 0, .int .i64 0, .int .i64 0, .int .i64 0, .int .i64 0, .int .i64 0, .int .i64 0, .slice none 0 0] 27) := by rw [← e2]; exact set_blockJ _ h1
  have b2 : Below w.heap.size w u2 := by rw [← e2]; exact b1.setCell (p := ⟨w.heap.size, 1, none⟩) (Nat.le_refl _) _
  obtain ⟨u3, e3⟩ : ∃ u3, u2.setCell ⟨w.heap.size, 2, none⟩ (.int .i64 s.n) = u3 := ⟨_, rfl⟩
  have h3 : u3.heap[w.heap.size]? = some (.cells #[.int .i64 s.st, .int .i64 s.en, .int .i64 s.n, .int .i64 0, .int .i64 0, .int .i64 0, .int .i64 0, .int .i64 0, .int .i64 0, .slice none 0 0] 27) := by rw [← e3]; exact set_blockJ _ h2
  have b3 : Below w.heap.size w u3 := by rw [← e3]; exact b2.setCell (p := ⟨w.heap.size, 2, none⟩) (Nat.le_refl _) _
  obtain ⟨u4, e4⟩ : ∃ u4, u3.setCell ⟨w.heap.size, 3, none⟩ (.int .i64 s.unit) = u4 := ⟨_, rfl⟩
  have h4 : u4.heap[w.heap.size]? = some (.cells #[.int .i64 s.st, .int .i64 s.en, .int .i64 s.n, .int .i64 s.unit, .int .i64 0, .int .i64 0, .int .i64 0, .int .i64 0, .int .i64 0, .slice none 0 0] 27) := by rw [← e4]; exact set_blockJ _ h3
  have b4 : Below w.heap.size w u4 := by rw [← e4]; exact b3.setCell (p := ⟨w.heap.size, 3, none⟩) (Nat.le_refl _) _
  obtain ⟨u5, e5⟩ : ∃ u5, u4.setCell ⟨w.heap.size, 4, none⟩ (.int .i64 s.stub) = u5 := ⟨_, rfl⟩
  have h5 : u5.heap[w.heap.size]? = some (.cells #[.int .i64 s.st, .int .i64 s.en, .int .i64 s.n, .int .i64 s.unit, .int .i64 s.stub, .int .i64 0, .int .i64 0, .int .i64 0, .int .i64 0, .slice none 0 0] 27) := by rw [← e5]; exact set_blockJ _ h4
  have b5 : Below w.heap.size w u5 := by rw [← e5]; exact b4.setCell (p := ⟨w.heap.size, 4, none⟩) (Nat.le_refl _) _
  obtain ⟨u6, e6⟩ : ∃ u6, u5.setCell ⟨w.heap.size, 5, none⟩ (.int .i64 s.roll) = u6 := ⟨_, rfl⟩
  have h6 : u6.heap[w.heap.size]? = some (.cells #[.int .i64 s.st, .int .i64 s.en, .int .i64 s.n, .int .i64 s.unit, .int .i64 s.stub, .int .i64 s.roll, .int .i64 0, .int .i64 0, .int .i64 0, .slice none 0 0] 27) := by rw [← e6]; exact set_blockJ _ h5
  have b6 : Below w.heap.size w u6 := by rw [← e6]; exact b5.setCell (p := ⟨w.heap.size, 5, none⟩) (Nat.le_refl _) _
  obtain ⟨u7, e7⟩ : ∃ u7, u6.setCell ⟨w.heap.size, 6, none⟩ (.int .i64 s.conv) = u7 := ⟨_, rfl⟩
  have h7 : u7.heap[w.heap.size]? = some (.cells #[.int .i64 s.st, .int .i64 s.en, .int .i64 s.n, .int .i64 s.unit, .int .i64 s.stub, .int .i64 s.roll, .int .i64 s.conv, .int .i64 0, .int .i64 0, .slice none 0 0] 27) := by rw [← e7]; exact set_blockJ _ h6
  have b7 : Below w.heap.size w u7 := by rw [← e7]; exact b6.setCell (p := ⟨w.heap.size, 6, none⟩) (Nat.le_refl _) _
  obtain ⟨u8, e8⟩ : ∃ u8, u7.setCell ⟨w.heap.size, 7, none⟩ (.int .i64 s.lag) = u8 := ⟨_, rfl⟩
  have h8 : u8.heap[w.heap.size]? = some (.cells #[.int .i64 s.st, .int .i64 s.en, .int .i64 s.n, .int .i64 s.unit, .int .i64 s.stub, .int .i64 s.roll, .int .i64 s.conv, .int .i64 s.lag, .int .i64 0, .slice none 0 0] 27) := by rw [← e8]; exact set_blockJ _ h7
  have b8 : Below w.heap.size w u8 := by rw [← e8]; exact b7.setCell (p := ⟨w.heap.size, 7, none⟩) (Nat.le_refl _) _
  obtain ⟨u9, e9⟩ : ∃ u9, u8.setCell ⟨w.heap.size, 8, none⟩ (.int .i64 W) = u9 := ⟨_, rfl⟩
  have h9 : u9.heap[w.heap.size]? = some (.cells #[.int .i64 s.st, .int .i64 s.en, .int .i64 s.n, .int .i64 s.unit, .int .i64 s.stub, .int .i64 s.roll, .int .i64 s.conv, .int .i64 s.lag, .int .i64 W, .slice none 0 0] 27) := by rw [← e9]; exact set_blockJ _ h8
  have b9 : Below w.heap.size w u9 := by rw [← e9]; exact b8.setCell (p := ⟨w.heap.size, 8, none⟩) (Nat.le_refl _) _
  obtain ⟨u10, e10⟩ : ∃ u10, u9.setCell ⟨w.heap.size, 9, none⟩ (v) = u10 := ⟨_, rfl⟩
  have h10 : u10.heap[w.heap.size]? = some (.cells #[.int .i64 s.st, .int .i64 s.en, .int .i64 s.n, .int .i64 s.unit, .int .i64 s.stub, .int .i64 s.roll, .int .i64 s.conv, .int .i64 s.lag, .int .i64 W, v] 27) := by rw [← e10]; exact set_blockJ _ h9
  have b10 : Below w.heap.size w u10 := by rw [← e10]; exact b9.setCell (p := ⟨w.heap.size, 9, none⟩) (Nat.le_refl _) _
  refine ⟨u1, u2, u3, u4, u5, u6, u7, u8, u9, u10, ⟨e1, by simp only [World.cell?, h, Option.isSome_none, Bool.false_eq_true, if_false]; rfl, frozen_of_row _ _ 0 _ _ h⟩, ⟨e2, by simp only [World.cell?, h1, Option.isSome_none, Bool.false_eq_true, if_false]; rfl, frozen_of_row _ _ 1 _ _ h1⟩, ⟨e3, by simp only [World.cell?, h2, Option.isSome_none, Bool.false_eq_true, if_false]; rfl, frozen_of_row _ _ 2 _ _ h2⟩, ⟨e4, by simp only [World.cell?, h3, Option.isSome_none, Bool.false_eq_true, if_false]; rfl, frozen_of_row _ _ 3 _ _ h3⟩, ⟨e5, by simp only [World.cell?, h4, Option.isSome_none, Bool.false_eq_true, if_false]; rfl, frozen_of_row _ _ 4 _ _ h4⟩, ⟨e6, by simp only [World.cell?, h5, Option.isSome_none, Bool.false_eq_true, if_false]; rfl, frozen_of_row _ _ 5 _ _ h5⟩, ⟨e7, by simp only [World.cell?, h6, Option.isSome_none, Bool.false_eq_true, if_false]; rfl, frozen_of_row _ _ 6 _ _ h6⟩, ⟨e8, by simp only [World.cell?, h7, Option.isSome_none, Bool.false_eq_true, if_false]; rfl, frozen_of_row _ _ 7 _ _ h7⟩, ⟨e9, by simp only [World.cell?, h8, Option.isSome_none, Bool.false_eq_true, if_false]; rfl, frozen_of_row _ _ 8 _ _ h8⟩, ⟨e10, by simp only [World.cell?, h9, Option.isSome_none, Bool.false_eq_true, if_false]; rfl, frozen_of_row _ _ 9 _ _ h9⟩, ⟨?_, ?_, ?_, ?_, ?_, ?_, ?_, ?_, ?_, ?_⟩, b10⟩
  all_goals
    simp only [World.cell?, h10, Option.isSome_none, Bool.false_eq_true, if_false]
    rfl
set_option maxRecDepth 20000 in
set_option maxHeartbeats 6400000 in
theorem short_many (g : LegJ) (p : Option Addr) (rl c : Nat) (w : World) (h : 100 < rl) (hl : rl ≤ 9223372036854775807) :
    Calls Tryz.prog 4 #[.agg #[.int .i64 g.kind, .int .i64 g.count, .int .i64 g.cur, .float .f64 g.n, .float .f64 g.r, .int .i64 g.s.st, .int .i64 g.s.en, .int .i64 g.s.n, .int .i64 g.s.unit, .int .i64 g.s.stub, .int .i64 g.s.roll, .int .i64 g.s.conv, .int .i64 g.s.lag, .int .i64 g.W, .slice p rl c]] w fun e w' => e = .returned (.bool false) ∧ Below w.heap.size w w' := by
  have H0 := hideS (lbx_f w g (.slice p rl c))
  obtain ⟨w0, hw0⟩ : ∃ w0, w.alloc (.cells  #[.int .i64 g.kind, .int .i64 g.count, .int .i64 g.cur, .float .f64 g.n, .float .f64 g.r, .int .i64 g.s.st, .int .i64 g.s.en, .int .i64 g.s.n, .int .i64 g.s.unit, .int .i64 g.s.stub, .int .i64 g.s.roll, .int .i64 g.s.conv, .int .i64 g.s.lag, .int .i64 g.W, .slice p rl c] 29) = w0 := ⟨_, rfl⟩
  rw [hw0] at H0
  have HA := hideS ((Below.refl w0.heap.size w0).alloc (Nat.le_refl _) zeroSc)
  have HX := hideS (fill_sch w0 g.s g.W (.slice p rl c) (w0.alloc zeroSc) (heap_alloc_new w0 zeroSc) HA.out)
  have HL2 := hideS (H0.out.step HA.out)
  obtain ⟨w2, hw2⟩ : ∃ w2, w0.alloc zeroSc = w2 := ⟨_, rfl⟩
  rw [hw2] at HX HL2 HA
  unfold zeroSc at hw2
  obtain ⟨u1, u2, u3, u4, u5, u6, u7, u8, u9, u10, ⟨e0, z0, y0⟩, ⟨e1, z1, y1⟩, ⟨e2, z2, y2⟩, ⟨e3, z3, y3⟩, ⟨e4, z4, y4⟩, ⟨e5, z5, y5⟩, ⟨e6, z6, y6⟩, ⟨e7, z7, y7⟩, ⟨e8, z8, y8⟩, ⟨e9, z9, y9⟩, ⟨s0, s1, s2, s3, s4, s5, s6, s7, s8, s9⟩, HZ⟩ := HX.out
  have HBz := hideS (H0.out.bl.trans (HZ.mono H0.out.bl.size))
  have HLz := hideS (H0.out.step HZ)
  have q1 := HLz.out.c1
  have HL0 := hideS H0.out
  obtain ⟨x0, x1, x2, x3, x4, x5, x6, x7, x8, x9, x10, x11, x12, x13, x14, _, _⟩ := HL0.out
  obtain ⟨a0, a1, a2, a3, a4, a5, a6, a7, a8, a9, a10, a11, a12, a13, a14, _, _⟩ := HL2.out
  obtain ⟨gk, gc, gu, gn, gr, s, W⟩ := g
  obtain ⟨st, en, nn, unit, stub, roll, conv, lag⟩ := s
  dsimp only [aF] at *
  clear HX HL2 HL0 HLz HA H0 HZ
  have h1 : (3 : Int) < (rl : Int) := by omega
  have h2 : ¬ (rl : Int) ≤ 100 := by omega
  have d1 : decide ((3 : Int) < (rl : Int)) = true := decide_eq_true h1
  have d2 : decide ((rl : Int) ≤ 100) = false := decide_eq_false h2
  go_enter Tryz.func4, Tryz.ntmps4
  go_wp2_with fail
  go_ret
  exact ⟨by first | rfl | simp [d2], HBz.out⟩

set_option maxRecDepth 20000 in
set_option maxHeartbeats 6400000 in
theorem short_few (g : LegJ) (p : Option Addr) (rl c : Nat) (w : World) (hl : rl ≤ 100) (hn1 : g.s.n ≤ 9223372036854775807) :
    Calls Tryz.prog 4 #[.agg #[.int .i64 g.kind, .int .i64 g.count, .int .i64 g.cur, .float .f64 g.n, .float .f64 g.r, .int .i64 g.s.st, .int .i64 g.s.en, .int .i64 g.s.n, .int .i64 g.s.unit, .int .i64 g.s.stub, .int .i64 g.s.roll, .int .i64 g.s.conv, .int .i64 g.s.lag, .int .i64 g.W, .slice p rl c]] w fun e w' => (∃ b, e = .returned (.bool b)) ∧ Below w.heap.size w w' := by
  have H0 := hideS (lbx_f w g (.slice p rl c))
  obtain ⟨w0, hw0⟩ : ∃ w0, w.alloc (.cells  #[.int .i64 g.kind, .int .i64 g.count, .int .i64 g.cur, .float .f64 g.n, .float .f64 g.r, .int .i64 g.s.st, .int .i64 g.s.en, .int .i64 g.s.n, .int .i64 g.s.unit, .int .i64 g.s.stub, .int .i64 g.s.roll, .int .i64 g.s.conv, .int .i64 g.s.lag, .int .i64 g.W, .slice p rl c] 29) = w0 := ⟨_, rfl⟩
  rw [hw0] at H0
  have HA := hideS ((Below.refl w0.heap.size w0).alloc (Nat.le_refl _) zeroSc)
  have HX := hideS (fill_sch w0 g.s g.W (.slice p rl c) (w0.alloc zeroSc) (heap_alloc_new w0 zeroSc) HA.out)
  have HL2 := hideS (H0.out.step HA.out)
  obtain ⟨w2, hw2⟩ : ∃ w2, w0.alloc zeroSc = w2 := ⟨_, rfl⟩
  rw [hw2] at HX HL2 HA
  unfold zeroSc at hw2
  obtain ⟨u1, u2, u3, u4, u5, u6, u7, u8, u9, u10, ⟨e0, z0, y0⟩, ⟨e1, z1, y1⟩, ⟨e2, z2, y2⟩, ⟨e3, z3, y3⟩, ⟨e4, z4, y4⟩, ⟨e5, z5, y5⟩, ⟨e6, z6, y6⟩, ⟨e7, z7, y7⟩, ⟨e8, z8, y8⟩, ⟨e9, z9, y9⟩, ⟨s0, s1, s2, s3, s4, s5, s6, s7, s8, s9⟩, HZ⟩ := HX.out
  have HBz := hideS (H0.out.bl.trans (HZ.mono H0.out.bl.size))
  have HLz := hideS (H0.out.step HZ)
  have q1 := HLz.out.c1
  have HL0 := hideS H0.out
  obtain ⟨x0, x1, x2, x3, x4, x5, x6, x7, x8, x9, x10, x11, x12, x13, x14, _, _⟩ := HL0.out
  obtain ⟨a0, a1, a2, a3, a4, a5, a6, a7, a8, a9, a10, a11, a12, a13, a14, _, _⟩ := HL2.out
  obtain ⟨gk, gc, gu, gn, gr, s, W⟩ := g
  obtain ⟨st, en, nn, unit, stub, roll, conv, lag⟩ := s
  dsimp only [aF] at *
  clear HX HL2 HL0 HLz HA H0 HZ
  have HBd := hideS HBz.out.drew
  have h2 : decide ((rl : Int) ≤ 100) = true := decide_eq_true (by omega)
  have hc : decide ((3 : Int) < (rl : Int)) = true ∨ (decide ((3 : Int) < (rl : Int)) = false ∧ decide (nn < 1) = true) ∨ (decide ((3 : Int) < (rl : Int)) = false ∧ decide (nn < 1) = false ∧ decide (st < 0) = true) ∨ (decide ((3 : Int) < (rl : Int)) = false ∧ decide (nn < 1) = false ∧ decide (st < 0) = false ∧ decide (109572 < en) = true) ∨ (decide ((3 : Int) < (rl : Int)) = false ∧ decide (nn < 1) = false ∧ decide (st < 0) = false ∧ decide (109572 < en) = false ∧ decide (en ≤ st) = true) ∨ (decide ((3 : Int) < (rl : Int)) = false ∧ decide (nn < 1) = false ∧ decide (st < 0) = false ∧ decide (109572 < en) = false ∧ decide (en ≤ st) = false) := by
    cases decide ((3 : Int) < (rl : Int)) <;> cases decide (nn < 1) <;> cases decide (st < 0) <;> cases decide (109572 < en) <;> cases decide (en ≤ st) <;> simp
  rcases hc with a | ⟨a, b⟩ | ⟨a, b, d⟩ | ⟨a, b, d, e⟩ | ⟨a, b, d, e, f⟩ | ⟨a, b, d, e, f⟩
  iterate 5
    · go_enter Tryz.func4, Tryz.ntmps4
      go_wp2_with fail
      go_ret
      exact ⟨⟨_, rfl⟩, HBz.out⟩
  · have n1 : 1 ≤ nn := by have := of_decide_eq_false b; omega
    have t0 : 0 ≤ st := by have := of_decide_eq_false d; omega
    have t1 : en ≤ 109572 := by have := of_decide_eq_false e; omega
    have te : st < en := by have := of_decide_eq_false f; omega
    obtain ⟨mn, hmn⟩ : ∃ mn, min nn 2000 = mn := ⟨_, rfl⟩
    have m0 : 1 ≤ mn := by omega
    have m1 : mn ≤ 2000 := by omega
    have hu : ∃ x y z : Bool, (unit == 2) = x ∧ (unit == 3) = y ∧ (unit == 4) = z := ⟨_, _, _, rfl, rfl, rfl⟩
    obtain ⟨x, y, z, hx, hy, hz⟩ := hu
    have f1 : IntKind.i64.wrap (en - st) = en - st := by rw [IntKind.wrap_i64]; omega
    have f6 : IntKind.i64.wrap (30 * mn) = 30 * mn := by rw [IntKind.wrap_i64]; omega
    cases x
    · cases y
      · cases z
        · have f3 : (en - st).tdiv 1 = (en - st) / 1 := Int.tdiv_eq_ediv_of_nonneg (by omega)
          have f4 : IntKind.i64.wrap ((en - st) / 1) = (en - st) / 1 := by rw [IntKind.wrap_i64]; omega
          go_enter Tryz.func4, Tryz.ntmps4
          go_wp2_with fail
          refine short_reg (w := u10) s0 s1 s2 s9 q1 f1 (by decide) (by decide) f3 f4 hmn f6 ?_
          intro nq B v47 v48 v49 v50 v51 v52 v53 v54 v55 v56 v57 v58 v59 v60 v61 v62 v63 v64 v65 v66 v67 v68 v69 v70 v71 v72 v73 v74 v75 v76 v77 v78
          go_wp2_with fail
          go_ret
          exact ⟨⟨B, rfl⟩, below_drewJ HBz.out _⟩
        · have f3 : (en - st).tdiv 365 = (en - st) / 365 := Int.tdiv_eq_ediv_of_nonneg (by omega)
          have f4 : IntKind.i64.wrap ((en - st) / 365) = (en - st) / 365 := by rw [IntKind.wrap_i64]; omega
          go_enter Tryz.func4, Tryz.ntmps4
          go_wp2_with fail
          refine short_reg (w := u10) s0 s1 s2 s9 q1 f1 (by decide) (by decide) f3 f4 hmn f6 ?_
          intro nq B v47 v48 v49 v50 v51 v52 v53 v54 v55 v56 v57 v58 v59 v60 v61 v62 v63 v64 v65 v66 v67 v68 v69 v70 v71 v72 v73 v74 v75 v76 v77 v78
          go_wp2_with fail
          go_ret
          exact ⟨⟨B, rfl⟩, below_drewJ HBz.out _⟩
      · have f3 : (en - st).tdiv 28 = (en - st) / 28 := Int.tdiv_eq_ediv_of_nonneg (by omega)
        have f4 : IntKind.i64.wrap ((en - st) / 28) = (en - st) / 28 := by rw [IntKind.wrap_i64]; omega
        go_enter Tryz.func4, Tryz.ntmps4
        go_wp2_with fail
        refine short_reg (w := u10) s0 s1 s2 s9 q1 f1 (by decide) (by decide) f3 f4 hmn f6 ?_
        intro nq B v47 v48 v49 v50 v51 v52 v53 v54 v55 v56 v57 v58 v59 v60 v61 v62 v63 v64 v65 v66 v67 v68 v69 v70 v71 v72 v73 v74 v75 v76 v77 v78
        go_wp2_with fail
        go_ret
        exact ⟨⟨B, rfl⟩, below_drewJ HBz.out _⟩
    · have f3 : (en - st).tdiv 7 = (en - st) / 7 := Int.tdiv_eq_ediv_of_nonneg (by omega)
      have f4 : IntKind.i64.wrap ((en - st) / 7) = (en - st) / 7 := by rw [IntKind.wrap_i64]; omega
      go_enter Tryz.func4, Tryz.ntmps4
      go_wp2_with fail
      refine short_reg (w := u10) s0 s1 s2 s9 q1 f1 (by decide) (by decide) f3 f4 hmn f6 ?_
      intro nq B v47 v48 v49 v50 v51 v52 v53 v54 v55 v56 v57 v58 v59 v60 v61 v62 v63 v64 v65 v66 v67 v68 v69 v70 v71 v72 v73 v74 v75 v76 v77 v78
      go_wp2_with fail
      go_ret
      exact ⟨⟨B, rfl⟩, below_drewJ HBz.out _⟩
end Go.Proofs.YtpcgbcdldkmibaaGreat
namespace Go.Proofs.YtpcgbcdldkmibaaGreat
open Go.RowKit

def zeroLg : Obj := .cells #[.int .i64 0, .int .i64 0, .int .i64 0, .int .u64 0, .int .u64 0, .int .i64 0, .int .i64 0, .int .i64 0, .int .i64 0, .int .i64 0, .int .i64 0, .int .i64 0, .int .i64 0, .int .i64 0, .slice none 0 0] 34
theorem fill_leg (w : World) (g : LegJ) (v : Value) (wr : World) (h : wr.heap[w.heap.size]? = some zeroLg) (hb : Below w.heap.size w wr) : ∃ u1 u2 u3 u4 u5 u6 u7 u8 u9 u10 u11 u12 u13 u14 u15 : World, (wr.setCell ⟨w.heap.size, 0, none⟩ (.int .i64 g.kind) = u1 ∧ wr.cell? ⟨w.heap.size, 0, none⟩ = some (.int .i64 0) ∧ wr.frozen? ⟨w.heap.size, 0, none⟩ = false) ∧ (u1.setCell ⟨w.heap.size, 1, none⟩ (.int .i64 g.count) = u2 ∧ u1.cell? ⟨w.heap.size, 1, none⟩ = some (.int .i64 0) ∧ u1.frozen? ⟨w.heap.size, 1, none⟩ = false) ∧ (u2.setCell ⟨w.heap.size, 2, none⟩ (.int .i64 g.cur) = u3 ∧ u2.cell? ⟨w.heap.size, 2, none⟩ = some (.int .i64 0) ∧ u2.frozen? ⟨w.heap.size, 2, none⟩ = false) ∧ (u3.setCell ⟨w.heap.size, 3, none⟩ (.int .u64 (g.n : Int)) = u4 ∧ u3.cell? ⟨w.heap.size, 3, none⟩ = some (.int .u64 0) ∧ u3.frozen? ⟨w.heap.size, 3, none⟩ = false) ∧ (u4.setCell ⟨w.heap.size, 4, none⟩ (.int .u64 (g.r : Int)) = u5 ∧ u4.cell? ⟨w.heap.size, 4, none⟩ = some (.int .u64 0) ∧ u4.frozen? ⟨w.heap.size, 4, none⟩ = false) ∧ (u5.setCell ⟨w.heap.size, 5, none⟩ (.int .i64 g.s.st) = u6 ∧ u5.cell? ⟨w.heap.size, 5, none⟩ = some (.int .i64 0) ∧ u5.frozen? ⟨w.heap.size, 5, none⟩ = false) ∧ (u6.setCell ⟨w.heap.size, 6, none⟩ (.int .i64 g.s.en) = u7 ∧ u6.cell? ⟨w.heap.size, 6, none⟩ = some (.int .i64 0) ∧ u6.frozen? ⟨w.heap.size, 6, none⟩ = false) ∧ (u7.setCell ⟨w.heap.size, 7, none⟩ (.int .i64 g.s.n) = u8 ∧ u7.cell? ⟨w.heap.size, 7, none⟩ = some (.int .i64 0) ∧ u7.frozen? ⟨w.heap.size, 7, none⟩ = false) ∧ (u8.setCell ⟨w.heap.size, 8, none⟩ (.int .i64 g.s.unit) = u9 ∧ u8.cell? ⟨w.heap.size, 8, none⟩ = some (.int .i64 0) ∧ u8.frozen? ⟨w.heap.size, 8, none⟩ = false) ∧ (u9.setCell ⟨w.heap.size, 9, none⟩ (.int .i64 g.s.stub) = u10 ∧ u9.cell? ⟨w.heap.size, 9, none⟩ = some (.int .i64 0) ∧ u9.frozen? ⟨w.heap.size, 9, none⟩ = false) ∧ (u10.setCell ⟨w.heap.size, 10, none⟩ (.int .i64 g.s.roll) = u11 ∧ u10.cell? ⟨w.heap.size, 10, none⟩ = some (.int .i64 0) ∧ u10.frozen? ⟨w.heap.size, 10, none⟩ = false) ∧ (u11.setCell ⟨w.heap.size, 11, none⟩ (.int .i64 g.s.conv) = u12 ∧ u11.cell? ⟨w.heap.size, 11, none⟩ = some (.int .i64 0) ∧ u11.frozen? ⟨w.heap.size, 11, none⟩ = false) ∧ (u12.setCell ⟨w.heap.size, 12, none⟩ (.int .i64 g.s.lag) = u13 ∧ u12.cell? ⟨w.heap.size, 12, none⟩ = some (.int .i64 0) ∧ u12.frozen? ⟨w.heap.size, 12, none⟩ = false) ∧ (u13.setCell ⟨w.heap.size, 13, none⟩ (.int .i64 g.W) = u14 ∧ u13.cell? ⟨w.heap.size, 13, none⟩ = some (.int .i64 0) ∧ u13.frozen? ⟨w.heap.size, 13, none⟩ = false) ∧ (u14.setCell ⟨w.heap.size, 14, none⟩ (v) = u15 ∧ u14.cell? ⟨w.heap.size, 14, none⟩ = some (.slice none 0 0) ∧ u14.frozen? ⟨w.heap.size, 14, none⟩ = false) ∧ LBx aB w g v u15 := by
  unfold zeroLg at h
  obtain ⟨u1, e1⟩ : ∃ u1, wr.setCell ⟨w.heap.size, 0, none⟩ (.int .i64 g.kind) = u1 := ⟨_, rfl⟩
  have h1 : u1.heap[w.heap.size]? = some (.cells #[.int .i64 g.kind, .int .i64 0, .int .i64 0, .int .u64 0, .int .u64 0, .int .i64 0, .int .i64 0, .int .i64 0, .int .i64 0, .int .i64 0, .int .i64 0, .int .i64 0, .int .i64 0, .int .i64 0, .slice none 0 0] 34) := by rw [← e1]; exact set_blockJ _ h
  have b1 : Below w.heap.size w u1 := by rw [← e1]; exact hb.setCell (p := ⟨w.heap.size, 0, none⟩) (Nat.le_refl _) _
  obtain ⟨u2, e2⟩ : ∃ u2, u1.setCell ⟨w.heap.size, 1, none⟩ (.int .i64 g.count) = u2 := ⟨_, rfl⟩
  have h2 : u2.heap[w.heap.size]? = some (.cells #[.int .i64 g.kind, .int .i64 g.count, .int .i64 0, .int .u64 0, .int .u64 0, .int .i64 0, .int .i64 0, .int .i64 0, .int .i64 0, .int .i64 0, .int .i64 0, .int .i64 0, .int .i64 0, .int .i64 0, .slice none 0 0] 34) := by rw [← e2]; exact set_blockJ _ h1
  have b2 : Below w.heap.size w u2 := by rw [← e2]; exact b1.setCell (p := ⟨w.heap.size, 1, none⟩) (Nat.le_refl _) _
  obtain ⟨u3, e3⟩ : ∃ u3, u2.setCell ⟨w.heap.size, 2, none⟩ (.int .i64 g.cur) = u3 := ⟨_, rfl⟩
  have h3 : u3.heap[w.heap.size]? = some (.cells #[.int .i64 g.kind, .int .i64 g.count, .int .i64 g.cur, .int .u64 0, .int .u64 0, .int .i64 0, .int .i64 0, .int .i64 0, .int .i64 0, .int .i64 0, .int .i64 0, .int .i64 0, .int .i64 0, .int .i64 0, .slice none 0 0] 34) := by rw [← e3]; exact set_blockJ _ h2
  have b3 : Below w.heap.size w u3 := by rw [← e3]; exact b2.setCell (p := ⟨w.heap.size, 2, none⟩) (Nat.le_refl _) _
  obtain ⟨u4, e4⟩ : ∃ u4, u3.setCell ⟨w.heap.size, 3, none⟩ (.int .u64 (g.n : Int)) = u4 := ⟨_, rfl⟩
  have h4 : u4.heap[w.heap.size]? = some (.cells #[.int .i64 g.kind, .int .i64 g.count, .int .i64 g.cur, .int .u64 (g.n : Int), .int .u64 0, .int .i64 0, .int .i64 0, .int .i64 0, .int .i64 0, .int .i64 0, .int .i64 0, .int .i64 0, .int .i64 0, .int .i64 0, .slice none 0 0] 34) := by rw [← e4]; exact set_blockJ _ h3
  have b4 : Below w.heap.size w u4 := by rw [← e4]; exact b3.setCell (p := ⟨w.heap.size, 3, none⟩) (Nat.le_refl _) _
  obtain ⟨u5, e5⟩ : ∃ u5, u4.setCell ⟨w.heap.size, 4, none⟩ (.int .u64 (g.r : Int)) = u5 := ⟨_, rfl⟩
  have h5 : u5.heap[w.heap.size]? = some (.cells #[.int .i64 g.kind, .int .i64 g.count, .int .i64 g.cur, .int .u64 (g.n : Int), .int .u64 (g.r : Int), .int .i64 0, .int .i64 0, .int .i64 0, .int .i64 0, .int .i64 0, .int .i64 0, .int .i64 0, .int .i64 0, .int .i64 0, .slice none 0 0] 34) := by rw [← e5]; exact set_blockJ _ h4
  have b5 : Below w.heap.size w u5 := by rw [← e5]; exact b4.setCell (p := ⟨w.heap.size, 4, none⟩) (Nat.le_refl _) _
  obtain ⟨u6, e6⟩ : ∃ u6, u5.setCell ⟨w.heap.size, 5, none⟩ (.int .i64 g.s.st) = u6 := ⟨_, rfl⟩
  have h6 : u6.heap[w.heap.size]? = some (.cells #[.int .i64 g.kind, .int .i64 g.count, .int .i64 g.cur, .int .u64 (g.n : Int), .int .u64 (g.r : Int), .int .i64 g.s.st, .int .i64 0, .int .i64 0, .int .i64 0, .int .i64 0, .int .i64 0, .int .i64 0, .int .i64 0, .int .i64 0, .slice none 0 0] 34) := by rw [← e6]; exact set_blockJ _ h5
  have b6 : Below w.heap.size w u6 := by rw [← e6]; exact b5.setCell (p := ⟨w.heap.size, 5, none⟩) (Nat.le_refl _) _
  obtain ⟨u7, e7⟩ : ∃ u7, u6.setCell ⟨w.heap.size, 6, none⟩ (.int .i64 g.s.en) = u7 := ⟨_, rfl⟩
  have h7 : u7.heap[w.heap.size]? = some (.cells #[.int .i64 g.kind, .int .i64 g.count, .int .i64 g.cur, .int .u64 (g.n : Int), .int .u64 (g.r : Int), .int .i64 g.s.st, .int .i64 g.s.en, .int .i64 0, .int .i64 0, .int .i64 0, .int .i64 0, .int .i64 0, .int .i64 0, .int .i64 0, .slice none 0 0] 34) := by rw [← e7]; exact set_blockJ _ h6
  have b7 : Below w.heap.size w u7 := by rw [← e7]; exact b6.setCell (p := ⟨w.heap.size, 6, none⟩) (Nat.le_refl _) _
  obtain ⟨u8, e8⟩ : ∃ u8, u7.setCell ⟨w.heap.size, 7, none⟩ (.int .i64 g.s.n) = u8 := ⟨_, rfl⟩
  have h8 : u8.heap[w.heap.size]? = some (.cells #[.int .i64 g.kind, .int .i64 g.count, .int .i64 g.cur, .int .u64 (g.n : Int), .int .u64 (g.r : Int), .int .i64 g.s.st, .int .i64 g.s.en, .int .i64 g.s.n, .int .i64 0, .int .i64 0, .int .i64 0, .int .i64 0, .int .i64 0, .int .i64 0, .slice none 0 0] 34) := by rw [← e8]; exact set_blockJ _ h7
  have b8 : Below w.heap.size w u8 := by rw [← e8]; exact b7.setCell (p := ⟨w.heap.size, 7, none⟩) (Nat.le_refl _) _
  obtain ⟨u9, e9⟩ : ∃ u9, u8.setCell ⟨w.heap.size, 8, none⟩ (.int .i64 g.s.unit) = u9 := ⟨_, rfl⟩
  have h9 : u9.heap[w.heap.size]? = some (.cells #[.int .i64 g.kind, .int .i64 g.count, .int .i64 g.cur, .int .u64 (g.n : Int), .int .u64 (g.r : Int), .int .i64 g.s.st, .int .i64 g.s.en, .int .i64 g.s.n, .int .i64 g.s.unit, .int .i64 0, .int .i64 0, .int .i64 0, .int .i64 0, .int .i64 0, .slice none 0 0] 34) := by rw [← e9]; exact set_blockJ _ h8
  have b9 : Below w.heap.size w u9 := by rw [← e9]; exact b8.setCell (p := ⟨w.heap.size, 8, none⟩) (Nat.le_refl _) _
  obtain ⟨u10, e10⟩ : ∃ u10, u9.setCell ⟨w.heap.size, 9, none⟩ (.int .i64 g.s.stub) = u10 := ⟨_, rfl⟩
  have h10 : u10.heap[w.heap.size]? = some (.cells #[.int .i64 g.kind, .int .i64 g.count, .int .i64 g.cur, .int .u64 (g.n : Int), .int .u64 (g.r : Int), .int .i64 g.s.st, .int .i64 g.s.en, .int .i64 g.s.n, .int .i64 g.s.unit, .int .i64 g.s.stub, .int .i64 0, .int .i64 0, .int .i64 0, .int .i64 0, .slice none 0 0] 34) := by rw [← e10]; exact set_blockJ _ h9
  have b10 : Below w.heap.size w u10 := by rw [← e10]; exact b9.setCell (p := ⟨w.heap.size, 9, none⟩) (Nat.le_refl _) _
  obtain ⟨u11, e11⟩ : ∃ u11, u10.setCell ⟨w.heap.size, 10, none⟩ (.int .i64 g.s.roll) = u11 := ⟨_, rfl⟩
  have h11 : u11.heap[w.heap.size]? = some (.cells #[.int .i64 g.kind, .int .i64 g.count, .int .i64 g.cur, .int .u64 (g.n : Int), .int .u64 (g.r : Int), .int .i64 g.s.st, .int .i64 g.s.en, .int .i64 g.s.n, .int .i64 g.s.unit, .int .i64 g.s.stub, .int .i64 g.s.roll, .int .i64 0, .int .i64 0, .int .i64 0, .slice none 0 0] 34) := by rw [← e11]; exact set_blockJ _ h10
  have b11 : Below w.heap.size w u11 := by rw [← e11]; exact b10.setCell (p := ⟨w.heap.size, 10, none⟩) (Nat.le_refl _) _
  obtain ⟨u12, e12⟩ : ∃ u12, u11.setCell ⟨w.heap.size, 11, none⟩ (.int .i64 g.s.conv) = u12 := ⟨_, rfl⟩
  have h12 : u12.heap[w.heap.size]? = some (.cells #[.int .i64 g.kind, .int .i64 g.count, .int .i64 g.cur, .int .u64 (g.n : Int), .int .u64 (g.r : Int), .int .i64 g.s.st, .int .i64 g.s.en, .int .i64 g.s.n, .int .i64 g.s.unit, .int .i64 g.s.stub, .int .i64 g.s.roll, .int .i64 g.s.conv, .int .i64 0, .int .i64 0, .slice none 0 0] 34) := by rw [← e12]; exact set_blockJ _ h11
  have b12 : Below w.heap.size w u12 := by rw [← e12]; exact b11.setCell (p := ⟨w.heap.size, 11, none⟩) (Nat.le_refl _) _
  obtain ⟨u13, e13⟩ : ∃ u13, u12.setCell ⟨w.heap.size, 12, none⟩ (.int .i64 g.s.lag) = u13 := ⟨_, rfl⟩
  have h13 : u13.heap[w.heap.size]? = some (.cells #[.int .i64 g.kind, .int .i64 g.count, .int .i64 g.cur, .int .u64 (g.n : Int), .int .u64 (g.r : Int), .int .i64 g.s.st, .int .i64 g.s.en, .int .i64 g.s.n, .int .i64 g.s.unit, .int .i64 g.s.stub, .int .i64 g.s.roll, .int .i64 g.s.conv, .int .i64 g.s.lag, .int .i64 0, .slice none 0 0] 34) := by rw [← e13]; exact set_blockJ _ h12
  have b13 : Below w.heap.size w u13 := by rw [← e13]; exact b12.setCell (p := ⟨w.heap.size, 12, none⟩) (Nat.le_refl _) _
  obtain ⟨u14, e14⟩ : ∃ u14, u13.setCell ⟨w.heap.size, 13, none⟩ (.int .i64 g.W) = u14 := ⟨_, rfl⟩
  have h14 : u14.heap[w.heap.size]? = some (.cells #[.int .i64 g.kind, .int .i64 g.count, .int .i64 g.cur, .int .u64 (g.n : Int), .int .u64 (g.r : Int), .int .i64 g.s.st, .int .i64 g.s.en, .int .i64 g.s.n, .int .i64 g.s.unit, .int .i64 g.s.stub, .int .i64 g.s.roll, .int .i64 g.s.conv, .int .i64 g.s.lag, .int .i64 g.W, .slice none 0 0] 34) := by rw [← e14]; exact set_blockJ _ h13
  have b14 : Below w.heap.size w u14 := by rw [← e14]; exact b13.setCell (p := ⟨w.heap.size, 13, none⟩) (Nat.le_refl _) _
  obtain ⟨u15, e15⟩ : ∃ u15, u14.setCell ⟨w.heap.size, 14, none⟩ (v) = u15 := ⟨_, rfl⟩
  have h15 : u15.heap[w.heap.size]? = some (.cells #[.int .i64 g.kind, .int .i64 g.count, .int .i64 g.cur, .int .u64 (g.n : Int), .int .u64 (g.r : Int), .int .i64 g.s.st, .int .i64 g.s.en, .int .i64 g.s.n, .int .i64 g.s.unit, .int .i64 g.s.stub, .int .i64 g.s.roll, .int .i64 g.s.conv, .int .i64 g.s.lag, .int .i64 g.W, v] 34) := by rw [← e15]; exact set_blockJ _ h14
  have b15 : Below w.heap.size w u15 := by rw [← e15]; exact b14.setCell (p := ⟨w.heap.size, 14, none⟩) (Nat.le_refl _) _
  refine ⟨u1, u2, u3, u4, u5, u6, u7, u8, u9, u10, u11, u12, u13, u14, u15, ⟨e1, by simp only [World.cell?, h, Option.isSome_none, Bool.false_eq_true, if_false]; rfl, frozen_of_row _ _ 0 _ _ h⟩, ⟨e2, by simp only [World.cell?, h1, Option.isSome_none, Bool.false_eq_true, if_false]; rfl, frozen_of_row _ _ 1 _ _ h1⟩, ⟨e3, by simp only [World.cell?, h2, Option.isSome_none, Bool.false_eq_true, if_false]; rfl, frozen_of_row _ _ 2 _ _ h2⟩, ⟨e4, by simp only [World.cell?, h3, Option.isSome_none, Bool.false_eq_true, if_false]; rfl, frozen_of_row _ _ 3 _ _ h3⟩, ⟨e5, by simp only [World.cell?, h4, Option.isSome_none, Bool.false_eq_true, if_false]; rfl, frozen_of_row _ _ 4 _ _ h4⟩, ⟨e6, by simp only [World.cell?, h5, Option.isSome_none, Bool.false_eq_true, if_false]; rfl, frozen_of_row _ _ 5 _ _ h5⟩, ⟨e7, by simp only [World.cell?, h6, Option.isSome_none, Bool.false_eq_true, if_false]; rfl, frozen_of_row _ _ 6 _ _ h6⟩, ⟨e8, by simp only [World.cell?, h7, Option.isSome_none, Bool.false_eq_true, if_false]; rfl, frozen_of_row _ _ 7 _ _ h7⟩, ⟨e9, by simp only [World.cell?, h8, Option.isSome_none, Bool.false_eq_true, if_false]; rfl, frozen_of_row _ _ 8 _ _ h8⟩, ⟨e10, by simp only [World.cell?, h9, Option.isSome_none, Bool.false_eq_true, if_false]; rfl, frozen_of_row _ _ 9 _ _ h9⟩, ⟨e11, by simp only [World.cell?, h10, Option.isSome_none, Bool.false_eq_true, if_false]; rfl, frozen_of_row _ _ 10 _ _ h10⟩, ⟨e12, by simp only [World.cell?, h11, Option.isSome_none, Bool.false_eq_true, if_false]; rfl, frozen_of_row _ _ 11 _ _ h11⟩, ⟨e13, by simp only [World.cell?, h12, Option.isSome_none, Bool.false_eq_true, if_false]; rfl, frozen_of_row _ _ 12 _ _ h12⟩, ⟨e14, by simp only [World.cell?, h13, Option.isSome_none, Bool.false_eq_true, if_false]; rfl, frozen_of_row _ _ 13 _ _ h13⟩, ⟨e15, by simp only [World.cell?, h14, Option.isSome_none, Bool.false_eq_true, if_false]; rfl, frozen_of_row _ _ 14 _ _ h14⟩, ⟨?_, ?_, ?_, ?_, ?_, ?_, ?_, ?_, ?_, ?_, ?_, ?_, ?_, ?_, ?_, b15, (Array.getElem?_eq_some_iff.1 h15).1⟩⟩
  all_goals
    simp only [World.cell?, h15, Option.isSome_none, Bool.false_eq_true, if_false]
    rfl
theorem legs_all {mk : Nat → Value} {w wr : World} {g : LegJ} {v : Value} (h : LBx mk w g v wr) : wr.cell? ⟨w.heap.size, 0, none⟩ = some (.int .i64 g.kind) ∧ wr.cell? ⟨w.heap.size, 1, none⟩ = some (.int .i64 g.count) ∧ wr.cell? ⟨w.heap.size, 2, none⟩ = some (.int .i64 g.cur) ∧ wr.cell? ⟨w.heap.size, 3, none⟩ = some (mk g.n) ∧ wr.cell? ⟨w.heap.size, 4, none⟩ = some (mk g.r) ∧ wr.cell? ⟨w.heap.size, 5, none⟩ = some (.int .i64 g.s.st) ∧ wr.cell? ⟨w.heap.size, 6, none⟩ = some (.int .i64 g.s.en) ∧ wr.cell? ⟨w.heap.size, 7, none⟩ = some (.int .i64 g.s.n) ∧ wr.cell? ⟨w.heap.size, 8, none⟩ = some (.int .i64 g.s.unit) ∧ wr.cell? ⟨w.heap.size, 9, none⟩ = some (.int .i64 g.s.stub) ∧ wr.cell? ⟨w.heap.size, 10, none⟩ = some (.int .i64 g.s.roll) ∧ wr.cell? ⟨w.heap.size, 11, none⟩ = some (.int .i64 g.s.conv) ∧ wr.cell? ⟨w.heap.size, 12, none⟩ = some (.int .i64 g.s.lag) ∧ wr.cell? ⟨w.heap.size, 13, none⟩ = some (.int .i64 g.W) ∧ wr.cell? ⟨w.heap.size, 14, none⟩ = some (v) := ⟨h.c0, h.c1, h.c2, h.c3, h.c4, h.c5, h.c6, h.c7, h.c8, h.c9, h.c10, h.c11, h.c12, h.c13, h.c14⟩
set_option maxRecDepth 20000 in
set_option maxHeartbeats 6400000 in
theorem ref14OfLeg_any (g : LegJ) (p : Option Addr) (n c : Nat) (w : World) :
    Calls Tryz.prog 6 #[.agg #[.int .i64 g.kind, .int .i64 g.count, .int .i64 g.cur, .float .f64 g.n, .float .f64 g.r, .int .i64 g.s.st, .int .i64 g.s.en, .int .i64 g.s.n, .int .i64 g.s.unit, .int .i64 g.s.stub, .int .i64 g.s.roll, .int .i64 g.s.conv, .int .i64 g.s.lag, .int .i64 g.W, .slice p n c]] w fun e w' => e = .returned (.agg #[.int .i64 g.kind, .int .i64 g.count, .int .i64 g.cur, .int .u64 (g.n : Int), .int .u64 (g.r : Int), .int .i64 g.s.st, .int .i64 g.s.en, .int .i64 g.s.n, .int .i64 g.s.unit, .int .i64 g.s.stub, .int .i64 g.s.roll, .int .i64 g.s.conv, .int .i64 g.s.lag, .int .i64 g.W, .slice p n c]) ∧ Below w.heap.size w w' := by
  have H0 := hideS (lbx_f w g (.slice p n c))
  obtain ⟨w0, hw0⟩ : ∃ w0, w.alloc (.cells #[.int .i64 g.kind, .int .i64 g.count, .int .i64 g.cur, .float .f64 g.n, .float .f64 g.r, .int .i64 g.s.st, .int .i64 g.s.en, .int .i64 g.s.n, .int .i64 g.s.unit, .int .i64 g.s.stub, .int .i64 g.s.roll, .int .i64 g.s.conv, .int .i64 g.s.lag, .int .i64 g.W, .slice p n c] 29) = w0 := ⟨_, rfl⟩
  rw [hw0] at H0
  have HA := hideS ((Below.refl w0.heap.size w0).alloc (Nat.le_refl _) zeroLg)
  have HX := hideS (fill_leg w0 g (.slice p n c) (w0.alloc zeroLg).drew (heap_alloc_new w0 zeroLg) HA.out.drew)
  have HL2 := hideS (H0.out.step HA.out)
  obtain ⟨w2, hw2⟩ : ∃ w2, w0.alloc zeroLg = w2 := ⟨_, rfl⟩
  rw [hw2] at HX HL2 HA
  unfold zeroLg at hw2
  obtain ⟨u1, u2, u3, u4, u5, u6, u7, u8, u9, u10, u11, u12, u13, u14, u15, ⟨e0, z0, y0⟩, ⟨e1, z1, y1⟩, ⟨e2, z2, y2⟩, ⟨e3, z3, y3⟩, ⟨e4, z4, y4⟩, ⟨e5, z5, y5⟩, ⟨e6, z6, y6⟩, ⟨e7, z7, y7⟩, ⟨e8, z8, y8⟩, ⟨e9, z9, y9⟩, ⟨e10, z10, y10⟩, ⟨e11, z11, y11⟩, ⟨e12, z12, y12⟩, ⟨e13, z13, y13⟩, ⟨e14, z14, y14⟩, HZ⟩ := HX.out
  have HBz := hideS (H0.out.bl.trans (HZ.bl.mono H0.out.bl.size))
  have HL3 := hideS (H0.out.step HA.out.drew)
  have HL4 := hideS (H0.out.step HZ.bl)
  have K0 := hideS (legs_all HL3.out)
  have K1 := hideS (legs_all HL4.out)
  obtain ⟨x0, x1, x2, x3, x4, x5, x6, x7, x8, x9, x10, x11, x12, x13, x14, _, _⟩ := HL2.out
  obtain ⟨s0, s1, s2, s3, s4, s5, s6, s7, s8, s9, s10, s11, s12, s13, s14, _, _⟩ := HZ
  obtain ⟨gk, gc, gu, gn, gr, s, W⟩ := g
  obtain ⟨st, en, nn, unit, stub, roll, conv, lag⟩ := s
  dsimp only [aF, aB] at *
  have hst := store_flj
  clear HX HL2 HL3 HL4 HA H0
  go_enter Tryz.func6, Tryz.ntmps6
  go_wp2_with fail
  go_region_held3 (fun x => x.cell? ⟨w.heap.size, 0, none⟩ = some (.int .i64 gk) ∧ x.cell? ⟨w.heap.size, 1, none⟩ = some (.int .i64 gc) ∧ x.cell? ⟨w.heap.size, 2, none⟩ = some (.int .i64 gu) ∧ x.cell? ⟨w.heap.size, 3, none⟩ = some (.float .f64 gn) ∧ x.cell? ⟨w.heap.size, 4, none⟩ = some (.float .f64 gr) ∧ x.cell? ⟨w.heap.size, 5, none⟩ = some (.int .i64 st) ∧ x.cell? ⟨w.heap.size, 6, none⟩ = some (.int .i64 en) ∧ x.cell? ⟨w.heap.size, 7, none⟩ = some (.int .i64 nn) ∧ x.cell? ⟨w.heap.size, 8, none⟩ = some (.int .i64 unit) ∧ x.cell? ⟨w.heap.size, 9, none⟩ = some (.int .i64 stub) ∧ x.cell? ⟨w.heap.size, 10, none⟩ = some (.int .i64 roll) ∧ x.cell? ⟨w.heap.size, 11, none⟩ = some (.int .i64 conv) ∧ x.cell? ⟨w.heap.size, 12, none⟩ = some (.int .i64 lag) ∧ x.cell? ⟨w.heap.size, 13, none⟩ = some (.int .i64 W) ∧ x.cell? ⟨w.heap.size, 14, none⟩ = some (.slice p n c)) (first | exact K0.out | exact K1.out | go_keep) (first | (go_at_call 16; (with_reducible refine (turned (bits_any gn _)).mono ?_); rintro e wb ⟨rfl, rfl⟩) | (go_at_call 16; (with_reducible refine (turned (bits_any gr _)).mono ?_); rintro e wb ⟨rfl, rfl⟩))
  all_goals
    go_wp2_with fail
    (try simp only [Exit.inBlock, Exit.then])
    refine bodyPost_ret (v := .agg #[.int .i64 gk, .int .i64 gc, .int .i64 gu, .int .u64 (gn : Int), .int .u64 (gr : Int), .int .i64 st, .int .i64 en, .int .i64 nn, .int .i64 unit, .int .i64 stub, .int .i64 roll, .int .i64 conv, .int .i64 lag, .int .i64 W, .slice p n c]) (by simp [results, Tryz.results6, go_sem, s0, s1, s2, s3, s4, s5, s6, s7, s8, s9, s10, s11, s12, s13, s14]) rfl ?_
    exact ⟨rfl, HBz.out⟩
end Go.Proofs.YtpcgbcdldkmibaaGreat
