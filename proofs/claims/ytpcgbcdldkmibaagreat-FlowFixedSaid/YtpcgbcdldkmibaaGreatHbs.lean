/- Legs: in their boxes; what periods and begun tell. The contracts of package flow's payments and of the rate that Fixed hands it. The contracts of package flow's Fixed and Bond. The contracts of the document's OfLeg, Fixed and Bond. -/
import Derived.Test.YtpcgbcdldkmibaaGreatHbh
import Derived.Test.YtpcgbcdldkmibaaGreatSpM
import Derived.Test.YtpcgbcdldkmibaaGreatHba
import Derived.Test.YtpcgbcdldkmibaaGreatHbe
namespace Go.Proofs.YtpcgbcdldkmibaaGreat
open Go.RowKit

structure LegJ where
  (kind count cur : Int) (n r : Nat) (s : Spc) (W : Int)
structure LBx (mk : Nat → Value) (w : World) (g : LegJ) (v : Value) (wr : World) : Prop where
  c0 : wr.cell? ⟨w.heap.size, 0, none⟩ = some (.int .i64 g.kind)
  c1 : wr.cell? ⟨w.heap.size, 1, none⟩ = some (.int .i64 g.count)
  c2 : wr.cell? ⟨w.heap.size, 2, none⟩ = some (.int .i64 g.cur)
  c3 : wr.cell? ⟨w.heap.size, 3, none⟩ = some (mk g.n)
  c4 : wr.cell? ⟨w.heap.size, 4, none⟩ = some (mk g.r)
  c5 : wr.cell? ⟨w.heap.size, 5, none⟩ = some (.int .i64 g.s.st)
  c6 : wr.cell? ⟨w.heap.size, 6, none⟩ = some (.int .i64 g.s.en)
  c7 : wr.cell? ⟨w.heap.size, 7, none⟩ = some (.int .i64 g.s.n)
  c8 : wr.cell? ⟨w.heap.size, 8, none⟩ = some (.int .i64 g.s.unit)
  c9 : wr.cell? ⟨w.heap.size, 9, none⟩ = some (.int .i64 g.s.stub)
  c10 : wr.cell? ⟨w.heap.size, 10, none⟩ = some (.int .i64 g.s.roll)
  c11 : wr.cell? ⟨w.heap.size, 11, none⟩ = some (.int .i64 g.s.conv)
  c12 : wr.cell? ⟨w.heap.size, 12, none⟩ = some (.int .i64 g.s.lag)
  c13 : wr.cell? ⟨w.heap.size, 13, none⟩ = some (.int .i64 g.W)
  c14 : wr.cell? ⟨w.heap.size, 14, none⟩ = some (v)
  bl : Below w.heap.size w wr
  lt : w.heap.size < wr.heap.size
theorem LBx.step {mk : Nat → Value} {w wr w' : World} {g : LegJ} {v : Value} (h : LBx mk w g v wr) (hb : Below wr.heap.size wr w') : LBx mk w g v w' :=
  ⟨(hb.cell (p := ⟨w.heap.size, 0, none⟩) h.lt).trans h.c0, (hb.cell (p := ⟨w.heap.size, 1, none⟩) h.lt).trans h.c1, (hb.cell (p := ⟨w.heap.size, 2, none⟩) h.lt).trans h.c2, (hb.cell (p := ⟨w.heap.size, 3, none⟩) h.lt).trans h.c3, (hb.cell (p := ⟨w.heap.size, 4, none⟩) h.lt).trans h.c4, (hb.cell (p := ⟨w.heap.size, 5, none⟩) h.lt).trans h.c5, (hb.cell (p := ⟨w.heap.size, 6, none⟩) h.lt).trans h.c6, (hb.cell (p := ⟨w.heap.size, 7, none⟩) h.lt).trans h.c7, (hb.cell (p := ⟨w.heap.size, 8, none⟩) h.lt).trans h.c8, (hb.cell (p := ⟨w.heap.size, 9, none⟩) h.lt).trans h.c9, (hb.cell (p := ⟨w.heap.size, 10, none⟩) h.lt).trans h.c10, (hb.cell (p := ⟨w.heap.size, 11, none⟩) h.lt).trans h.c11, (hb.cell (p := ⟨w.heap.size, 12, none⟩) h.lt).trans h.c12, (hb.cell (p := ⟨w.heap.size, 13, none⟩) h.lt).trans h.c13, (hb.cell (p := ⟨w.heap.size, 14, none⟩) h.lt).trans h.c14, h.bl.trans (hb.mono h.bl.size), Nat.lt_of_lt_of_le h.lt hb.size⟩
theorem LBx.stay {mk : Nat → Value} {w wr w' : World} {B : Nat} {g : LegJ} {v : Value} (h : LBx mk w g v wr) (hb : Below B wr w') (hB : w.heap.size < B) : LBx mk w g v w' :=
  ⟨(hb.cell (p := ⟨w.heap.size, 0, none⟩) hB).trans h.c0, (hb.cell (p := ⟨w.heap.size, 1, none⟩) hB).trans h.c1, (hb.cell (p := ⟨w.heap.size, 2, none⟩) hB).trans h.c2, (hb.cell (p := ⟨w.heap.size, 3, none⟩) hB).trans h.c3, (hb.cell (p := ⟨w.heap.size, 4, none⟩) hB).trans h.c4, (hb.cell (p := ⟨w.heap.size, 5, none⟩) hB).trans h.c5, (hb.cell (p := ⟨w.heap.size, 6, none⟩) hB).trans h.c6, (hb.cell (p := ⟨w.heap.size, 7, none⟩) hB).trans h.c7, (hb.cell (p := ⟨w.heap.size, 8, none⟩) hB).trans h.c8, (hb.cell (p := ⟨w.heap.size, 9, none⟩) hB).trans h.c9, (hb.cell (p := ⟨w.heap.size, 10, none⟩) hB).trans h.c10, (hb.cell (p := ⟨w.heap.size, 11, none⟩) hB).trans h.c11, (hb.cell (p := ⟨w.heap.size, 12, none⟩) hB).trans h.c12, (hb.cell (p := ⟨w.heap.size, 13, none⟩) hB).trans h.c13, (hb.cell (p := ⟨w.heap.size, 14, none⟩) hB).trans h.c14, h.bl.trans (hb.mono (Nat.le_of_lt hB)), Nat.lt_of_lt_of_le h.lt hb.size⟩
theorem lbx_f (w : World) (g : LegJ) (v : Value) : LBx aF w g v (w.alloc (.cells #[.int .i64 g.kind, .int .i64 g.count, .int .i64 g.cur, .float .f64 g.n, .float .f64 g.r, .int .i64 g.s.st, .int .i64 g.s.en, .int .i64 g.s.n, .int .i64 g.s.unit, .int .i64 g.s.stub, .int .i64 g.s.roll, .int .i64 g.s.conv, .int .i64 g.s.lag, .int .i64 g.W, v] 29)) :=
  ⟨by simp, by simp, by simp, by simp [aF], by simp [aF], by simp, by simp, by simp, by simp, by simp, by simp, by simp, by simp, by simp, by simp, (Below.refl _ _).alloc (Nat.le_refl _) _, by simp⟩
theorem lbx_b (w : World) (g : LegJ) (v : Value) : LBx aB w g v (w.alloc (.cells #[.int .i64 g.kind, .int .i64 g.count, .int .i64 g.cur, .int .u64 (g.n : Int), .int .u64 (g.r : Int), .int .i64 g.s.st, .int .i64 g.s.en, .int .i64 g.s.n, .int .i64 g.s.unit, .int .i64 g.s.stub, .int .i64 g.s.roll, .int .i64 g.s.conv, .int .i64 g.s.lag, .int .i64 g.W, v] 34)) :=
  ⟨by simp, by simp, by simp, by simp [aB], by simp [aB], by simp, by simp, by simp, by simp, by simp, by simp, by simp, by simp, by simp, by simp, (Below.refl _ _).alloc (Nat.le_refl _) _, by simp⟩
def begE (g : LegJ) (kind : Int) : Int := if g.kind ≠ kind then 90 else if ¬ (1 ≤ g.cur ∧ g.cur ≤ 8) then 140 else if finB g.n = false ∨ finB g.r = false then 91 else 0
theorem begE_cases (g : LegJ) (kind : Int) : (g.kind ≠ kind ∧ begE g kind = 90) ∨ (g.kind = kind ∧ ¬ (1 ≤ g.cur ∧ g.cur ≤ 8) ∧ begE g kind = 140) ∨ (g.kind = kind ∧ (1 ≤ g.cur ∧ g.cur ≤ 8) ∧ finB g.n = false ∧ begE g kind = 91) ∨ (g.kind = kind ∧ (1 ≤ g.cur ∧ g.cur ≤ 8) ∧ finB g.n = true ∧ finB g.r = false ∧ begE g kind = 91) ∨ (g.kind = kind ∧ (1 ≤ g.cur ∧ g.cur ≤ 8) ∧ finB g.n = true ∧ finB g.r = true ∧ begE g kind = 0) := by
  unfold begE
  by_cases h1 : g.kind = kind
  · rw [if_neg (not_not_intro h1)]
    by_cases h2 : 1 ≤ g.cur ∧ g.cur ≤ 8
    · rw [if_neg (not_not_intro h2)]
      cases h3 : finB g.n
      · exact Or.inr (Or.inr (Or.inl ⟨h1, h2, rfl, by simp⟩))
      · cases h4 : finB g.r
        · exact Or.inr (Or.inr (Or.inr (Or.inl ⟨h1, h2, rfl, rfl, by simp⟩)))
        · exact Or.inr (Or.inr (Or.inr (Or.inr ⟨h1, h2, rfl, rfl, by simp⟩)))
    · exact Or.inr (Or.inl ⟨h1, h2, by rw [if_pos h2]⟩)
  · exact Or.inl ⟨h1, by rw [if_pos h1]⟩
def legX (g : LegJ) (kind : Int) (xs : List Per) : List Per := if begE g kind = 0 then xs else []
def legE (g : LegJ) (kind E : Int) : Int := if begE g kind = 0 then E else begE g kind
set_option maxRecDepth 20000 in
set_option maxHeartbeats 3200000 in
theorem jPer_any (g : LegJ) (v : Value) (kind E : Int) (xs : List Per) (w : World) (hn : g.n < 18446744073709551616) (hr : g.r < 18446744073709551616)
    (HP : Hid (∀ wx, Below w.heap.size w wx → Calls Tryz.prog 33 #[.agg #[.int .i64 g.s.st, .int .i64 g.s.en, .int .i64 g.s.n, .int .i64 g.s.unit, .int .i64 g.s.stub, .int .i64 g.s.roll, .int .i64 g.s.conv, .int .i64 g.s.lag, .int .i64 g.W, v]] wx fun e w' => PersOut xs E wx e w' ∧ Below wx.heap.size wx w')) :
    Calls Tryz.prog 17 #[.agg #[.int .i64 g.kind, .int .i64 g.count, .int .i64 g.cur, .float .f64 g.n, .float .f64 g.r, .int .i64 g.s.st, .int .i64 g.s.en, .int .i64 g.s.n, .int .i64 g.s.unit, .int .i64 g.s.stub, .int .i64 g.s.roll, .int .i64 g.s.conv, .int .i64 g.s.lag, .int .i64 g.W, v], .int .i64 kind] w fun e w' => PersOut (legX g kind xs) (legE g kind E) w e w' ∧ Below w.heap.size w w' := by
  have H0 := hideS (lbx_f w g v)
  have HC := hideS fun wx => jCur_any g.cur wx
  have HN := hideS fun wx => jNum_any g.n wx (by unfold U64; omega)
  have HR := hideS fun wx => jNum_any g.r wx (by unfold U64; omega)
  have hb := begE_cases g kind
  have HX : Hid (legX g kind xs = if begE g kind = 0 then xs else []) := rfl
  have HE : Hid (legE g kind E = if begE g kind = 0 then E else begE g kind) := rfl
  rw [HX.out, HE.out]
  generalize begE g kind = b at *
  obtain ⟨gk, gc, gu, gn, gr, s, W⟩ := g
  obtain ⟨st, en, n, unit, stub, roll, conv, lag⟩ := s
  dsimp only [aF] at *
  have HPn : Hid (∀ F wx, PersOut [] F w (.returned (.tuple #[.slice none 0 0, .int .i64 F])) wx) := fun F wx => pers_nil F w wx
  clear hn hr HX HE
  rcases hb with ⟨h1, rfl⟩ | ⟨rfl, h2, rfl⟩ | ⟨rfl, h2, h3, rfl⟩ | ⟨rfl, h2, h3, h4, rfl⟩ | ⟨rfl, h2, h3, h4, rfl⟩
  · rw [if_neg (by decide), if_neg (by decide)]
    have d1 : (gk != kind) = true := bne_iff_ne.2 h1
    clear h1
    go_enter Tryz.func17, Tryz.ntmps17
    go_wp2_with fail
    go_ret2
    exact ⟨HPn.out _ _, H0.out.bl⟩
  · rw [if_neg (by decide), if_neg (by decide)]
    rw [decide_eq_false h2] at HC
    have d1 : (gk != gk) = false := by simp
    clear h2
    go_enter Tryz.func17, Tryz.ntmps17
    go_wp2_with fail
    refine (HC.out _).mono ?_
    rintro e w' ⟨rfl, rfl⟩
    go_wp2_with fail
    go_ret2
    exact ⟨HPn.out _ _, H0.out.bl⟩
  · rw [if_neg (by decide), if_neg (by decide)]
    rw [decide_eq_true h2] at HC
    rw [h3] at HN
    have d1 : (gk != gk) = false := by simp
    clear h2 h3
    go_enter Tryz.func17, Tryz.ntmps17
    go_wp2_with fail
    refine (HC.out _).mono ?_
    rintro e w' ⟨rfl, rfl⟩
    go_wp2_with fail
    refine (HN.out _).mono ?_
    rintro e w' ⟨rfl, rfl⟩
    go_wp2_with fail
    go_ret2
    exact ⟨HPn.out _ _, H0.out.bl⟩
  · rw [if_neg (by decide), if_neg (by decide)]
    rw [decide_eq_true h2] at HC
    rw [h3] at HN
    rw [h4] at HR
    have d1 : (gk != gk) = false := by simp
    clear h2 h3 h4
    go_enter Tryz.func17, Tryz.ntmps17
    go_wp2_with fail
    refine (HC.out _).mono ?_
    rintro e w' ⟨rfl, rfl⟩
    go_wp2_with fail
    refine (HN.out _).mono ?_
    rintro e w' ⟨rfl, rfl⟩
    go_wp2_with fail
    refine (HR.out _).mono ?_
    rintro e w' ⟨rfl, rfl⟩
    go_wp2_with fail
    go_ret2
    exact ⟨HPn.out _ _, H0.out.bl⟩
  · rw [if_pos rfl, if_pos rfl]
    rw [decide_eq_true h2] at HC
    rw [h3] at HN
    rw [h4] at HR
    have d1 : (gk != gk) = false := by simp
    obtain ⟨w0, hw0⟩ : ∃ w0, w.alloc (.cells #[.int .i64 gk, .int .i64 gc, .int .i64 gu, .float .f64 gn, .float .f64 gr, .int .i64 st, .int .i64 en, .int .i64 n, .int .i64 unit, .int .i64 stub, .int .i64 roll, .int .i64 conv, .int .i64 lag, .int .i64 W, v] 29) = w0 := ⟨_, rfl⟩
    rw [hw0] at H0
    have HPx := hideS (HP.out w0 H0.out.bl)
    obtain ⟨z0, z1, z2, z3, z4, z5, z6, z7, z8, z9, z10, z11, z12, z13, z14, _, _⟩ := H0.out
    dsimp only [aF] at z0 z1 z2 z3 z4 z5 z6 z7 z8 z9 z10 z11 z12 z13 z14
    clear h2 h3 h4
    go_enter Tryz.func17, Tryz.ntmps17
    go_wp2_with fail
    refine (turned (HC.out _)).mono ?_
    rintro e w' ⟨rfl, rfl⟩
    go_wp2_with fail
    refine (turned (HN.out _)).mono ?_
    rintro e w' ⟨rfl, rfl⟩
    go_wp2_with fail
    refine (turned (HR.out _)).mono ?_
    rintro e w' ⟨rfl, rfl⟩
    go_wp2_with fail
    refine HPx.out.mono ?_
    rintro e w1 ⟨⟨q, gg, c, rfl, hs, hc, hlo⟩, hb1⟩
    have HO : Hid (PersOut xs E w (.returned (.tuple #[.slice q xs.length c, .int .i64 E])) w1) := ⟨q, gg, c, rfl, hs, hc, fun h => Nat.le_trans H0.out.bl.size (hlo h)⟩
    have HB := hideS (H0.out.bl.trans (hb1.mono H0.out.bl.size))
    clear hs hc hlo hb1 HPx
    go_wp2_with fail
    go_ret2
    exact ⟨HO.out, HB.out⟩
set_option maxRecDepth 20000 in
set_option maxHeartbeats 3200000 in
theorem ref14Begun_any (g : LegJ) (v : Value) (kind E : Int) (xs : List Per) (w : World) (hn : g.n < 18446744073709551616) (hr : g.r < 18446744073709551616)
    (HP : Hid (∀ wx, Below w.heap.size w wx → Calls Tryz.prog 36 #[.agg #[.int .i64 g.s.st, .int .i64 g.s.en, .int .i64 g.s.n, .int .i64 g.s.unit, .int .i64 g.s.stub, .int .i64 g.s.roll, .int .i64 g.s.conv, .int .i64 g.s.lag, .int .i64 g.W, v]] wx fun e w' => PersOut xs E wx e w' ∧ Below wx.heap.size wx w')) :
    Calls Tryz.prog 20 #[.agg #[.int .i64 g.kind, .int .i64 g.count, .int .i64 g.cur, .int .u64 (g.n : Int), .int .u64 (g.r : Int), .int .i64 g.s.st, .int .i64 g.s.en, .int .i64 g.s.n, .int .i64 g.s.unit, .int .i64 g.s.stub, .int .i64 g.s.roll, .int .i64 g.s.conv, .int .i64 g.s.lag, .int .i64 g.W, v], .int .i64 kind] w fun e w' => PersOut (legX g kind xs) (legE g kind E) w e w' ∧ Below w.heap.size w w' := by
  have H0 := hideS (lbx_b w g v)
  have HC := hideS fun wx => ref14Cur_any g.cur wx
  have HN := hideS fun wx => refNum_any (g.n : Int) wx (by unfold U64; omega)
  have HR := hideS fun wx => refNum_any (g.r : Int) wx (by unfold U64; omega)
  have hb := begE_cases g kind
  have HX : Hid (legX g kind xs = if begE g kind = 0 then xs else []) := rfl
  have HE : Hid (legE g kind E = if begE g kind = 0 then E else begE g kind) := rfl
  rw [HX.out, HE.out]
  generalize begE g kind = b at *
  obtain ⟨gk, gc, gu, gn, gr, s, W⟩ := g
  obtain ⟨st, en, n, unit, stub, roll, conv, lag⟩ := s
  dsimp only [aB] at *
  have HPn : Hid (∀ F wx, PersOut [] F w (.returned (.tuple #[.slice none 0 0, .int .i64 F])) wx) := fun F wx => pers_nil F w wx
  clear hn hr HX HE
  rcases hb with ⟨h1, rfl⟩ | ⟨rfl, h2, rfl⟩ | ⟨rfl, h2, h3, rfl⟩ | ⟨rfl, h2, h3, h4, rfl⟩ | ⟨rfl, h2, h3, h4, rfl⟩
  · rw [if_neg (by decide), if_neg (by decide)]
    have d1 : (gk != kind) = true := bne_iff_ne.2 h1
    clear h1
    go_enter Tryz.func20, Tryz.ntmps20
    go_wp2_with fail
    go_ret2
    exact ⟨HPn.out _ _, H0.out.bl⟩
  · rw [if_neg (by decide), if_neg (by decide)]
    rw [decide_eq_false h2] at HC
    have d1 : (gk != gk) = false := by simp
    clear h2
    go_enter Tryz.func20, Tryz.ntmps20
    go_wp2_with fail
    refine (HC.out _).mono ?_
    rintro e w' ⟨rfl, rfl⟩
    go_wp2_with fail
    go_ret2
    exact ⟨HPn.out _ _, H0.out.bl⟩
  · rw [if_neg (by decide), if_neg (by decide)]
    rw [decide_eq_true h2] at HC
    rw [h3] at HN
    have d1 : (gk != gk) = false := by simp
    clear h2 h3
    go_enter Tryz.func20, Tryz.ntmps20
    go_wp2_with fail
    refine (HC.out _).mono ?_
    rintro e w' ⟨rfl, rfl⟩
    go_wp2_with fail
    refine (HN.out _).mono ?_
    rintro e w' ⟨rfl, rfl⟩
    go_wp2_with fail
    go_ret2
    exact ⟨HPn.out _ _, H0.out.bl⟩
  · rw [if_neg (by decide), if_neg (by decide)]
    rw [decide_eq_true h2] at HC
    rw [h3] at HN
    rw [h4] at HR
    have d1 : (gk != gk) = false := by simp
    clear h2 h3 h4
    go_enter Tryz.func20, Tryz.ntmps20
    go_wp2_with fail
    refine (HC.out _).mono ?_
    rintro e w' ⟨rfl, rfl⟩
    go_wp2_with fail
    refine (HN.out _).mono ?_
    rintro e w' ⟨rfl, rfl⟩
    go_wp2_with fail
    refine (HR.out _).mono ?_
    rintro e w' ⟨rfl, rfl⟩
    go_wp2_with fail
    go_ret2
    exact ⟨HPn.out _ _, H0.out.bl⟩
  · rw [if_pos rfl, if_pos rfl]
    rw [decide_eq_true h2] at HC
    rw [h3] at HN
    rw [h4] at HR
    have d1 : (gk != gk) = false := by simp
    obtain ⟨w0, hw0⟩ : ∃ w0, w.alloc (.cells #[.int .i64 gk, .int .i64 gc, .int .i64 gu, .int .u64 (gn : Int), .int .u64 (gr : Int), .int .i64 st, .int .i64 en, .int .i64 n, .int .i64 unit, .int .i64 stub, .int .i64 roll, .int .i64 conv, .int .i64 lag, .int .i64 W, v] 34) = w0 := ⟨_, rfl⟩
    rw [hw0] at H0
    have HPx := hideS (HP.out w0 H0.out.bl)
    obtain ⟨z0, z1, z2, z3, z4, z5, z6, z7, z8, z9, z10, z11, z12, z13, z14, _, _⟩ := H0.out
    dsimp only [aB] at z0 z1 z2 z3 z4 z5 z6 z7 z8 z9 z10 z11 z12 z13 z14
    clear h2 h3 h4
    go_enter Tryz.func20, Tryz.ntmps20
    go_wp2_with fail
    refine (turned (HC.out _)).mono ?_
    rintro e w' ⟨rfl, rfl⟩
    go_wp2_with fail
    refine (turned (HN.out _)).mono ?_
    rintro e w' ⟨rfl, rfl⟩
    go_wp2_with fail
    refine (turned (HR.out _)).mono ?_
    rintro e w' ⟨rfl, rfl⟩
    go_wp2_with fail
    refine HPx.out.mono ?_
    rintro e w1 ⟨⟨q, gg, c, rfl, hs, hc, hlo⟩, hb1⟩
    have HO : Hid (PersOut xs E w (.returned (.tuple #[.slice q xs.length c, .int .i64 E])) w1) := ⟨q, gg, c, rfl, hs, hc, fun h => Nat.le_trans H0.out.bl.size (hlo h)⟩
    have HB := hideS (H0.out.bl.trans (hb1.mono H0.out.bl.size))
    clear hs hc hlo hb1 HPx
    go_wp2_with fail
    go_ret2
    exact ⟨HO.out, HB.out⟩
end Go.Proofs.YtpcgbcdldkmibaaGreat
namespace Go.Proofs.YtpcgbcdldkmibaaGreat
open Go.RowKit

def payO (g : LegJ) (y : Per → Nat) (ye : Per → Int) (p : Per) : Except Int Flw :=
  if ye p ≠ 0 then .error (ye p) else match opO .mul (floatBits .mul .f64 g.n g.r) (some (y p)) with
    | some a => if finB a then .ok ⟨p.pay, a, g.cur⟩ else .error 91
    | none => .error 91
def payN (g : LegJ) (y : Per → Nat) (ye : Per → Int) (xs : List Per) : Nat → Except Int (List Flw)
  | 0 => .ok []
  | k + 1 => match payN g y ye xs k with
    | .ok m => match payO g y ye (xs.getD k per0) with
      | .ok f => .ok (m ++ [f])
      | .error E => .error E
    | .error E => .error E
theorem payN_succ {g : LegJ} {y : Per → Nat} {ye : Per → Int} {xs : List Per} {k : Nat} {m : List Flw} {f : Flw} (h : payN g y ye xs k = .ok m) (hf : payO g y ye (xs.getD k per0) = .ok f) : payN g y ye xs (k + 1) = .ok (m ++ [f]) := by
  unfold payN; rw [h, hf]
theorem payN_bad {g : LegJ} {y : Per → Nat} {ye : Per → Int} {xs : List Per} {k : Nat} {E : Int} (h : payN g y ye xs k = .error E) : ∀ n, k ≤ n → payN g y ye xs n = .error E
  | 0, hn => by obtain rfl : k = 0 := by omega
                exact h
  | n + 1, hn => by
    by_cases c : k = n + 1
    · rw [← c]; exact h
    · unfold payN; rw [payN_bad h n (by omega)]
theorem payN_stop {g : LegJ} {y : Per → Nat} {ye : Per → Int} {xs : List Per} {k n : Nat} {m : List Flw} {E : Int} (h : payN g y ye xs k = .ok m) (hf : payO g y ye (xs.getD k per0) = .error E) (hn : k < n) : payN g y ye xs n = .error E :=
  payN_bad (k := k + 1) (by unfold payN; rw [h, hf]) n hn
theorem payN_len {g : LegJ} {y : Per → Nat} {ye : Per → Int} {xs : List Per} : ∀ {k : Nat} {m : List Flw}, payN g y ye xs k = .ok m → m.length = k
  | 0, m, h => by
    have h' : Except.ok [] = (Except.ok m : Except Int (List Flw)) := h
    cases h'; rfl
  | k + 1, m, h => by
    unfold payN at h
    cases hm : payN g y ye xs k with
    | error E => rw [hm] at h; cases h
    | ok m' =>
      rw [hm] at h
      dsimp only at h
      cases hf : payO g y ye (xs.getD k per0) with
      | error E => rw [hf] at h; cases h
      | ok f =>
        rw [hf] at h
        cases h
        rw [List.length_append, payN_len hm]; rfl
def LstX (mk : Nat → Value) (t : TypeId) (o : Except Int (List Flw)) (base : Nat) (e : Ending) (w' : World) : Prop :=
  (∃ E, o = .error E ∧ e = .returned (.tuple #[.slice none 0 0, .int .i64 E])) ∨ ∃ m u, o = .ok m ∧ e = .returned (.tuple #[u, .int .i64 0]) ∧ w'.ownsRow base t 3 u m.length (rowF mk m)
def zeroPr : Obj := .cells #[.int .i64 0, .int .i64 0, .int .i64 0, .int .i64 0, .int .i64 0] 56
def setPr (w : World) (b : Nat) (p : Per) : World := ((((w.setCell ⟨b, 0, none⟩ (.int .i64 p.fr)).setCell ⟨b, 1, none⟩ (.int .i64 p.to)).setCell ⟨b, 2, none⟩ (.int .i64 p.st)).setCell ⟨b, 3, none⟩ (.int .i64 p.en)).setCell ⟨b, 4, none⟩ (.int .i64 p.pay)
theorem zeroPr_cells (w : World) : ((w.alloc zeroPr).cell? ⟨w.heap.size, 0, none⟩ = some (.int .i64 0) ∧ (w.alloc zeroPr).cell? ⟨w.heap.size, 1, none⟩ = some (.int .i64 0) ∧ (w.alloc zeroPr).cell? ⟨w.heap.size, 2, none⟩ = some (.int .i64 0) ∧ (w.alloc zeroPr).cell? ⟨w.heap.size, 3, none⟩ = some (.int .i64 0) ∧ (w.alloc zeroPr).cell? ⟨w.heap.size, 4, none⟩ = some (.int .i64 0)) ∧ ∀ i, (w.alloc zeroPr).frozen? ⟨w.heap.size, i, none⟩ = false := by
  have h := heap_alloc_new w zeroPr
  unfold zeroPr at h
  refine ⟨⟨by unfold zeroPr; simp, by unfold zeroPr; simp, by unfold zeroPr; simp, by unfold zeroPr; simp, by unfold zeroPr; simp⟩, fun i => frozen_of_row _ _ i _ _ h⟩
structure PRx (w : World) (p : Per) (wr : World) : Prop where
  t0 : wr.cell? ⟨w.heap.size, 0, none⟩ = some (.int .i64 p.fr)
  t1 : wr.cell? ⟨w.heap.size, 1, none⟩ = some (.int .i64 p.to)
  t2 : wr.cell? ⟨w.heap.size, 2, none⟩ = some (.int .i64 p.st)
  t3 : wr.cell? ⟨w.heap.size, 3, none⟩ = some (.int .i64 p.en)
  t4 : wr.cell? ⟨w.heap.size, 4, none⟩ = some (.int .i64 p.pay)
  bl : Below w.heap.size w wr
  lt : w.heap.size < wr.heap.size
theorem setPr_box (w : World) (p : Per) : PRx w p (setPr (w.alloc zeroPr) w.heap.size p) := by
  have h := heap_alloc_new w zeroPr
  unfold zeroPr at h
  have h3 : (setPr (w.alloc zeroPr) w.heap.size p).heap[w.heap.size]? = some (.cells #[.int .i64 p.fr, .int .i64 p.to, .int .i64 p.st, .int .i64 p.en, .int .i64 p.pay] 56) := set_blockJ _ (set_blockJ _ (set_blockJ _ (set_blockJ _ (set_blockJ _ h))))
  refine ⟨?_, ?_, ?_, ?_, ?_, ((((((Below.refl _ w).alloc (Nat.le_refl _) _).setCell (p := ⟨w.heap.size, 0, none⟩) (Nat.le_refl _) _).setCell (p := ⟨w.heap.size, 1, none⟩) (Nat.le_refl _) _).setCell (p := ⟨w.heap.size, 2, none⟩) (Nat.le_refl _) _).setCell (p := ⟨w.heap.size, 3, none⟩) (Nat.le_refl _) _).setCell (p := ⟨w.heap.size, 4, none⟩) (Nat.le_refl _) _, (Array.getElem?_eq_some_iff.1 h3).1⟩
  all_goals
    simp only [World.cell?, h3, Option.isSome_none, Bool.false_eq_true, if_false]
    rfl
theorem PRx.step {w wr w' : World} {p : Per} (h : PRx w p wr) (hb : Below wr.heap.size wr w') : PRx w p w' :=
  ⟨(hb.cell (p := ⟨w.heap.size, 0, none⟩) h.lt).trans h.t0, (hb.cell (p := ⟨w.heap.size, 1, none⟩) h.lt).trans h.t1, (hb.cell (p := ⟨w.heap.size, 2, none⟩) h.lt).trans h.t2, (hb.cell (p := ⟨w.heap.size, 3, none⟩) h.lt).trans h.t3, (hb.cell (p := ⟨w.heap.size, 4, none⟩) h.lt).trans h.t4, h.bl.trans (hb.mono h.bl.size), Nat.lt_of_lt_of_le h.lt hb.size⟩
set_option maxHeartbeats 1600000 in
theorem jRate_any (p : Per) (gb r : Nat) (w : World) (hlt : gb < w.heap.size) (hc : w.cell? ⟨gb, 4, none⟩ = some (.float .f64 r)) :
    Calls Tryz.prog 19 #[.agg #[.int .i64 p.fr, .int .i64 p.to, .int .i64 p.st, .int .i64 p.en, .int .i64 p.pay], .pointer (some ⟨gb, 0, none⟩)] w fun e w' => e = .returned (.tuple #[.float .f64 r, .int .i64 0]) ∧ Below w.heap.size w w' := by
  have HB := hideS ((Below.refl w.heap.size w).alloc (Nat.le_refl _) (.cells #[.int .i64 p.fr, .int .i64 p.to, .int .i64 p.st, .int .i64 p.en, .int .i64 p.pay] 56))
  have hc2 := (HB.out.cell (p := ⟨gb, 4, none⟩) hlt).trans hc
  have hne : gb ≠ w.heap.size := Nat.ne_of_lt hlt
  go_enter Tryz.func19, Tryz.ntmps19
  go_wp2_with fail
  go_ret2
  exact ⟨rfl, HB.out⟩

set_option maxRecDepth 20000 in
set_option maxHeartbeats 12800000 in
theorem jPay_any (g : LegJ) (v : Value) (gb : Nat) (xs : List Per) (q : Option Addr) (b c N : Nat) (y : Per → Nat) (ye : Per → Int) (w : World) (hx : PSrc w q b 0 xs) (hN : xs.length = N) (hN2 : N ≤ 2000) (hlt : gb < w.heap.size) (hc : w.cell? ⟨gb, 4, none⟩ = some (.float .f64 g.r)) (hn : g.n < 18446744073709551616) (hr : g.r < 18446744073709551616) (hy : ∀ p, y p < 18446744073709551616)
    (HY : Hid (∀ p wx, Below w.heap.size w wx → Calls Tryz.prog 34 #[.int .i64 g.count, .agg #[.int .i64 g.W, v], .int .i64 p.st, .int .i64 p.en] wx fun e w' => e = .returned (.tuple #[.float .f64 (y p), .int .i64 (ye p)]) ∧ Below wx.heap.size wx w')) :
    Calls Tryz.prog 18 #[.agg #[.int .i64 g.kind, .int .i64 g.count, .int .i64 g.cur, .float .f64 g.n, .float .f64 g.r, .int .i64 g.s.st, .int .i64 g.s.en, .int .i64 g.s.n, .int .i64 g.s.unit, .int .i64 g.s.stub, .int .i64 g.s.roll, .int .i64 g.s.conv, .int .i64 g.s.lag, .int .i64 g.W, v], .slice q N c, .func (.func 19) #[] #[.pointer (some ⟨gb, 0, none⟩)]] w fun e w' => LstX aF 45 (payN g y ye xs N) w.heap.size e w' ∧ Below w.heap.size w w' := by
  have H0 := hideS (lbx_f w g v)
  have HN := hideS hN
  have HQ := hideS hx
  have HP : Hid (0 < N → q = some ⟨b, 0, none⟩) := fun h => hx.at_ (by omega)
  have HCap := hideS (And.intro hlt hc)
  have HYu := hideS hy
  obtain ⟨Lo, hLo⟩ : ∃ Lo, LstX aF 45 (payN g y ye xs N) w.heap.size = Lo := ⟨_, rfl⟩
  rw [hLo]
  have HLo := hideS hLo
  have HPd : Hid (∀ p, payO g y ye p = if ye p ≠ 0 then .error (ye p) else match opO .mul (floatBits .mul .f64 g.n g.r) (some (y p)) with
    | some a => if finB a then .ok ⟨p.pay, a, g.cur⟩ else .error 91
    | none => .error 91) := fun p => rfl
  obtain ⟨G, hG⟩ : ∃ G, G = g := ⟨_, rfl⟩
  rw [← hG] at HLo HPd
  have HGg := hideS hG
  clear hx hN hlt hc hy hLo hG
  obtain ⟨w0, hw0⟩ : ∃ w0, w.alloc (.cells #[.int .i64 g.kind, .int .i64 g.count, .int .i64 g.cur, .float .f64 g.n, .float .f64 g.r, .int .i64 g.s.st, .int .i64 g.s.en, .int .i64 g.s.n, .int .i64 g.s.unit, .int .i64 g.s.stub, .int .i64 g.s.roll, .int .i64 g.s.conv, .int .i64 g.s.lag, .int .i64 g.W, v] 29) = w0 := ⟨_, rfl⟩
  rw [hw0] at H0
  have HO0 := hideS (fown_nil aF w0 w0.heap.size 45)
  obtain ⟨gk, gc, gu, gn, gr, s, W⟩ := g
  obtain ⟨st, en, n, unit, stub, roll, conv, lag⟩ := s
  dsimp only at *
  go_enter Tryz.func18, Tryz.ntmps18
  go_wp2_with fail
  go_loopw [8, 17] (fun vo i wr => ∃ (k : Nat) (m : List Flw) (oq : Option Addr) (ocp : Nat), k ≤ N ∧ i = .int .i64 k ∧ vo = .slice oq k ocp ∧ Hid (payN G y ye xs k = .ok m) ∧ Hid (wr.ownsRow w0.heap.size 45 3 (.slice oq k ocp) k (rowF aF m)) ∧ Hid (Below w0.heap.size w0 wr)) (fun _ i _ => N - (intOf i).toNat)
  case atStart => exact ⟨0, [], none, 0, Nat.zero_le _, rfl, rfl, rfl, HO0, Below.refl _ _⟩
  case round =>
    clear HO0 hw0
    obtain ⟨k, m, oq, ocp, hk, rfl, rfl, HM, HO, HB⟩ := hrel
    have HBw := hideS (H0.out.bl.trans (HB.out.mono H0.out.bl.size))
    by_cases hlt : k < N
    · obtain rfl := HP.out (by omega)
      have hPA := (HQ.out.below HBw.out).cell k (by rw [HN.out]; exact hlt)
      have HSt := hideS (fun E h => payN_stop (n := N) (E := E) HM.out h hlt)
      have HSu := hideS (fun f h => payN_succ (f := f) HM.out h)
      have HPk := hideS (HPd.out (xs.getD k per0))
      have HYk := hideS (HY.out (xs.getD k per0))
      have HYl := hideS (HYu.out (xs.getD k per0))
      have HRt := hideS fun wx => jRate_any (xs.getD k per0) gb gr wx
      have HQB := hideS (setPr_box wr (xs.getD k per0))
      obtain ⟨⟨z0, z1, z2, z3, z4⟩, fz⟩ := zeroPr_cells wr
      have y0 := fz 0
      have y1 := fz 1
      have y2 := fz 2
      have y3 := fz 3
      have y4 := fz 4
      obtain ⟨p, hp⟩ : ∃ p, xs.getD k per0 = p := ⟨_, rfl⟩
      rw [hp] at hPA HSt HSu HPk HYk HYl HRt HQB
      generalize y p = yv at *
      generalize ye p = yE at *
      obtain ⟨c0, c1, c2, c3, c4⟩ := hPA
      rw [Nat.zero_add] at c0 c1 c2 c3 c4
      rw [Nat.add_zero] at c0
      obtain ⟨pf, pt, ps, pe, pp⟩ := p
      dsimp only at *
      clear fz hp
      obtain ⟨w2, hw2⟩ : ∃ w2, wr.alloc zeroPr = w2 := ⟨_, rfl⟩
      rw [hw2] at z0 z1 z2 z3 z4 y0 y1 y2 y3 y4 HQB
      unfold zeroPr at hw2
      obtain ⟨w3, hw3⟩ : ∃ w3, setPr w2 wr.heap.size ⟨pf, pt, ps, pe, pp⟩ = w3 := ⟨_, rfl⟩
      rw [hw3] at HQB
      unfold setPr at hw3
      dsimp only at hw3
      have t0 := HQB.out.t0
      have t1 := HQB.out.t1
      have t2 := HQB.out.t2
      have t3 := HQB.out.t3
      have t4 := HQB.out.t4
      dsimp only at t0 t1 t2 t3 t4
      have HB3 := hideS (HB.out.trans (HQB.out.bl.mono HB.out.size))
      have HB3w := hideS (H0.out.bl.trans (HB3.out.mono H0.out.bl.size))
      have HRt3 := hideS (HRt.out w3 (Nat.lt_of_lt_of_le HCap.out.1 HB3w.out.size) ((HB3w.out.cell (p := ⟨gb, 4, none⟩) HCap.out.1).trans HCap.out.2))
      go_wp2_with fail
      clear hw2 hw3 z0 z1 z2 z3 z4 y0 y1 y2 y3 y4 t0 t1 t2 t3 t4 c0 c1 c2 c3 c4
      refine HRt3.out.mono ?_
      rintro e w4 ⟨rfl, hb4⟩
      have HQ4 := hideS (HQB.out.step hb4)
      have HB4 := hideS (HB3.out.trans (hb4.mono HB3.out.size))
      have HL4 := hideS (H0.out.stay HB4.out H0.out.lt)
      have HB4w := hideS (H0.out.bl.trans (HB4.out.mono H0.out.bl.size))
      have HO4 := hideS (fown_below (fown_below HO.out HQB.out.bl) hb4)
      have HYw := hideS (HYk.out w4 HB4w.out)
      have u2 := HQ4.out.t2
      have u3 := HQ4.out.t3
      have v1 := HL4.out.c1
      have v13 := HL4.out.c13
      have v14 := HL4.out.c14
      dsimp only at u2 u3 v1 v13 v14
      clear hb4 HRt3 HRt HB3 HB3w HYk
      go_wp2_with fail
      refine HYw.out.mono ?_
      rintro e w5 ⟨rfl, hb5⟩
      have HQ5 := hideS (HQ4.out.step hb5)
      have HB5 := hideS (HB4.out.trans (hb5.mono HB4.out.size))
      have HL5 := hideS (H0.out.stay HB5.out H0.out.lt)
      have HB5w := hideS (H0.out.bl.trans (HB5.out.mono H0.out.bl.size))
      have HO5 := hideS (fown_below HO4.out hb5)
      clear hb5 HYw u2 u3 v1 v13 v14 HQ4 HL4 HO4 HB4 HB4w
      by_cases hE : yE = 0
      · subst hE
        rw [if_neg (by simp)] at HPk
        obtain ⟨r1, ⟨d1, hr1⟩, hag1⟩ := run_op_ag .mul (Or.inr (Or.inr (Or.inl rfl))) 22 gn gr w5
        obtain ⟨r, ⟨d2, hr2⟩, hag2⟩ := run_op_ag .mul (Or.inr (Or.inr (Or.inl rfl))) 22 r1 yv (w5.drewN d1)
        have HBx := hideS (below_drewJ (below_drewJ (Below.refl w5.heap.size w5) d1) d2)
        obtain ⟨w6, hw6⟩ : ∃ w6, (w5.drewN d1).drewN d2 = w6 := ⟨_, rfl⟩
        rw [hw6] at HBx hr2
        have HQ6 := hideS (HQ5.out.step HBx.out)
        have HB6 := hideS (HB5.out.trans (HBx.out.mono HB5.out.size))
        have HL6 := hideS (H0.out.stay HB6.out H0.out.lt)
        have HO6 := hideS (fown_below HO5.out HBx.out)
        have hu : r < 18446744073709551616 := by
          cases e : floatBits .mul .f64 r1 yv with
          | none => rw [e] at hag2; exact (ag_none hag2).2
          | some q => rw [e] at hag2; rw [ag_some hag2]; exact float_lt (Or.inr (Or.inr (Or.inl rfl))) e
        have HNr := hideS fun wx => jNum_any r wx (by unfold U64; omega)
        have HOp : Hid (opO .mul (floatBits .mul .f64 G.n G.r) (some yv) = floatBits .mul .f64 r1 yv) := by
          show _ = _
          rw [HGg.out]
          exact opO_ag hag1 rfl
        have v3 := HL5.out.c3
        have v2 := HL6.out.c2
        have v4 := HQ6.out.t4
        dsimp only [aF] at v2 v3 v4
        cases hfr : finB r
        · rw [hfr] at HNr
          have HE : Hid (∀ wx, Lo (.returned (.tuple #[.slice none 0 0, .int .i64 91])) wx) := fun wx => by
            rw [← HLo.out]
            refine Or.inl ⟨91, HSt.out 91 ?_, rfl⟩
            rw [HPk.out, HOp.out]
            cases e : floatBits .mul .f64 r1 yv with
            | none => rfl
            | some q => rw [e] at hag2; rw [← ag_some hag2]; dsimp only; rw [hfr]; rfl
          have HB6w := hideS (H0.out.bl.trans (HB6.out.mono H0.out.bl.size))
          clear hfr hag1 hag2 hu
          go_wp2_with fail
          refine (turned (HNr.out _)).mono ?_
          rintro e w7 ⟨rfl, rfl⟩
          go_wp2_with fail
          go_ret2
          exact ⟨HE.out _, HB6w.out⟩
        · rw [hfr] at HNr
          have HG : Hid (payO G y ye ⟨pf, pt, ps, pe, pp⟩ = .ok ⟨pp, r, gu⟩) := by
            show _ = _
            rw [HPk.out, HOp.out]
            cases e : floatBits .mul .f64 r1 yv with
            | none => rw [e] at hag2; rw [fin_nan (ag_none hag2).1] at hfr; cases hfr
            | some q => rw [e] at hag2; rw [← ag_some hag2]; dsimp only; rw [hfr, HGg.out]; rfl
          have HS := hideS (HSu.out _ HG.out)
          have HBa := hideS ((Below.refl w6.heap.size w6).alloc (Nat.le_refl _) (.cells #[.int .i64 pp, .float .f64 r, .int .i64 gu] 45))
          have HO7 := hideS (fown_below HO6.out HBa.out)
          have HB7 := hideS (HB6.out.trans (HBa.out.mono HB6.out.size))
          have HFc := hideS (fcells_new w6 ⟨pp, r, gu⟩)
          clear hfr hag1 hag2 hu
          go_wp2_with fail
          refine (turned (HNr.out _)).mono ?_
          rintro e w7 ⟨rfl, rfl⟩
          go_wp2_with (at_builtin; refine wpList_append_f1 _ rfl (.tmp 55) (.tmp 62) rfl w0.heap.size (.slice oq k ocp) k m rfl HO7.out HB7.out.size w6.heap.size ⟨pp, r, gu⟩ rfl HFc.out (by omega) ?_; intro v8 w8 ho8 hb8; have HB8 := hideS (HB7.out.trans hb8); obtain ⟨q8, g8, k8, hv8, _, _, _, hm8⟩ := fown_src ho8 (payN_len HS.out); subst hv8; have HO8 := hideS ho8; clear ho8 hb8)
          go_roundw
          case rel => exact ⟨k + 1, _, q8, k8, by omega, by go_num, rfl, HS, HO8, HB8⟩
          case measure => simp [intOf]; omega
      · have d1 : (yE != 0) = true := bne_iff_ne.2 hE
        have HEr : Hid (∀ wx, Lo (.returned (.tuple #[.slice none 0 0, .int .i64 yE])) wx) := fun wx => by
          rw [← HLo.out]
          exact Or.inl ⟨yE, HSt.out yE (by rw [HPk.out, if_pos hE]), rfl⟩
        go_wp2_with fail
        go_ret2
        exact ⟨HEr.out _, HB5w.out⟩
    · obtain rfl : k = N := by omega
      go_wp2_with fail
      go_ret2
      refine ⟨?_, HBw.out⟩
      rw [← HLo.out, HM.out]
      refine Or.inr ⟨m, _, rfl, rfl, ?_⟩
      rw [payN_len HM.out]
      exact fown_mono HO.out H0.out.bl.size
end Go.Proofs.YtpcgbcdldkmibaaGreat
namespace Go.Proofs.YtpcgbcdldkmibaaGreat
open Go.RowKit

def fixR (g : LegJ) (y : Per → Nat) (ye : Per → Int) (xs : List Per) (E : Int) : Except Int (List Flw) := if E ≠ 0 then .error E else payN g y ye xs xs.length
def bondR (g : LegJ) : Except Int (List Flw) → Except Int (List Flw)
  | .ok m => .ok (m ++ [⟨(m.getD (m.length - 1) flw0).day, g.n, g.cur⟩])
  | .error E => .error E
set_option maxRecDepth 20000 in
set_option maxHeartbeats 6400000 in
theorem jFixed_any (g : LegJ) (v : Value) (E : Int) (xs : List Per) (y : Per → Nat) (ye : Per → Int) (w : World) (hn : g.n < 18446744073709551616) (hr : g.r < 18446744073709551616) (hy : ∀ p, y p < 18446744073709551616) (hl : xs.length ≤ 2000)
    (HP : Hid (∀ wx, Below w.heap.size w wx → Calls Tryz.prog 33 #[.agg #[.int .i64 g.s.st, .int .i64 g.s.en, .int .i64 g.s.n, .int .i64 g.s.unit, .int .i64 g.s.stub, .int .i64 g.s.roll, .int .i64 g.s.conv, .int .i64 g.s.lag, .int .i64 g.W, v]] wx fun e w' => PersOut xs E wx e w' ∧ Below wx.heap.size wx w'))
    (HY : Hid (∀ p wx, Below w.heap.size w wx → Calls Tryz.prog 34 #[.int .i64 g.count, .agg #[.int .i64 g.W, v], .int .i64 p.st, .int .i64 p.en] wx fun e w' => e = .returned (.tuple #[.float .f64 (y p), .int .i64 (ye p)]) ∧ Below wx.heap.size wx w')) :
    Calls Tryz.prog 7 #[.agg #[.int .i64 g.kind, .int .i64 g.count, .int .i64 g.cur, .float .f64 g.n, .float .f64 g.r, .int .i64 g.s.st, .int .i64 g.s.en, .int .i64 g.s.n, .int .i64 g.s.unit, .int .i64 g.s.stub, .int .i64 g.s.roll, .int .i64 g.s.conv, .int .i64 g.s.lag, .int .i64 g.W, v]] w fun e w' => LstX aF 45 (fixR g y ye (legX g 1 xs) (legE g 1 E)) w.heap.size e w' ∧ Below w.heap.size w w' := by
  have H0 := hideS (lbx_f w g v)
  obtain ⟨w0, hw0⟩ : ∃ w0, w.alloc (.cells #[.int .i64 g.kind, .int .i64 g.count, .int .i64 g.cur, .float .f64 g.n, .float .f64 g.r, .int .i64 g.s.st, .int .i64 g.s.en, .int .i64 g.s.n, .int .i64 g.s.unit, .int .i64 g.s.stub, .int .i64 g.s.roll, .int .i64 g.s.conv, .int .i64 g.s.lag, .int .i64 g.W, v] 29) = w0 := ⟨_, rfl⟩
  rw [hw0] at H0
  have H1 := hideS (jPer_any g v 1 E xs w0 hn hr (fun wx hb => HP.out wx (H0.out.bl.trans (hb.mono H0.out.bl.size))))
  have hxl : (legX g 1 xs).length ≤ 2000 := by unfold legX; split; exact hl; exact Nat.zero_le _
  have H2 := hideS fun wx q b c (hb : Below w0.heap.size w0 wx) (hs : PSrc wx q b 0 (legX g 1 xs)) => jPay_any g v w.heap.size (legX g 1 xs) q b c (legX g 1 xs).length y ye wx hs rfl hxl (Nat.lt_of_lt_of_le H0.out.lt hb.size) ((H0.out.stay hb H0.out.lt).c4) hn hr hy (fun p wy hy' => HY.out p wy ((H0.out.bl.trans (hb.mono H0.out.bl.size)).trans (hy'.mono (Nat.le_trans H0.out.bl.size hb.size))))
  have HR : Hid (∀ e w', (legE g 1 E ≠ 0 → LstX aF 45 (fixR g y ye (legX g 1 xs) (legE g 1 E)) w.heap.size (.returned (.tuple #[.slice none 0 0, .int .i64 (legE g 1 E)])) w') ∧ (legE g 1 E = 0 → ∀ B, w.heap.size ≤ B → LstX aF 45 (payN g y ye (legX g 1 xs) (legX g 1 xs).length) B e w' → LstX aF 45 (fixR g y ye (legX g 1 xs) (legE g 1 E)) w.heap.size e w')) := fun e w' => by
    refine ⟨fun h => Or.inl ⟨_, by unfold fixR; rw [if_pos h], rfl⟩, fun h B hB hL => ?_⟩
    unfold fixR
    rw [if_neg (by simpa using h)]
    rcases hL with hL | ⟨m, u, a, b, c⟩
    · exact Or.inl hL
    · exact Or.inr ⟨m, u, a, b, fown_mono c hB⟩
  have hv := hideS hw0
  generalize legX g 1 xs = X at *
  generalize legE g 1 E = F at *
  generalize LstX aF 45 (fixR g y ye X F) w.heap.size = Lo at *
  obtain ⟨Lp, hLp⟩ : ∃ Lp, (fun B => LstX aF 45 (payN g y ye X X.length) B) = Lp := ⟨_, rfl⟩
  have HLp := hideS hLp
  obtain ⟨z0, z1, z2, z3, z4, z5, z6, z7, z8, z9, z10, z11, z12, z13, z14, _, _⟩ := H0.out
  obtain ⟨gk, gc, gu, gn, gr, s, W⟩ := g
  obtain ⟨st, en, n, unit, stub, roll, conv, lag⟩ := s
  dsimp only [aF] at *
  clear hn hr hy hl hLp hv hxl
  go_enter Tryz.func7, Tryz.ntmps7
  go_wp2_with fail
  refine H1.out.mono ?_
  rintro e w1 ⟨⟨q, b, c, rfl, hs, _, _⟩, hb1⟩
  have HB1 := hideS hb1
  have HL1 := hideS (H0.out.step hb1)
  have H3 := hideS (H2.out w1 q b c hb1 hs)
  obtain ⟨x0, x1, x2, x3, x4, x5, x6, x7, x8, x9, x10, x11, x12, x13, x14, _, _⟩ := HL1.out
  dsimp only [aF] at x0 x1 x2 x3 x4 x5 x6 x7 x8 x9 x10 x11 x12 x13 x14
  clear hb1 hs H1 H2 z0 z1 z2 z3 z4 z5 z6 z7 z8 z9 z10 z11 z12 z13 z14
  by_cases hF : F = 0
  · subst hF
    go_wp2_with fail
    refine H3.out.mono ?_
    rintro e w2 ⟨hL, hb2⟩
    have HB2 := hideS (HB1.out.trans (hb2.mono HB1.out.size))
    have HPo := hideS ((HR.out e w2).2 (by trivial) w1.heap.size (Nat.le_trans H0.out.bl.size HB1.out.size) hL)
    have HBz := hideS (H0.out.bl.trans (HB2.out.mono H0.out.bl.size))
    rcases hL with ⟨E', _, rfl⟩ | ⟨m, u, _, rfl, _⟩
    · clear hb2
      go_wp2_with fail
      go_ret2
      exact ⟨HPo.out, HBz.out⟩
    · clear hb2
      go_wp2_with fail
      go_ret2
      exact ⟨HPo.out, HBz.out⟩
  · have d1 : (F != 0) = true := bne_iff_ne.2 hF
    have HPo := hideS ((HR.out (.returned (.tuple #[])) w1).1 hF)
    have HBz := hideS (H0.out.bl.trans (HB1.out.mono H0.out.bl.size))
    go_wp2_with fail
    go_ret2
    exact ⟨HPo.out, HBz.out⟩

set_option maxRecDepth 20000 in
set_option maxHeartbeats 6400000 in
theorem jBond_any (g : LegJ) (v : Value) (o : Except Int (List Flw)) (w : World) (ho : ∀ m, o = .ok m → 0 < m.length ∧ m.length ≤ 2000) (hE : ∀ E, o = .error E → E ≠ 0)
    (HF : Hid (∀ wx, Below w.heap.size w wx → Calls Tryz.prog 7 #[.agg #[.int .i64 g.kind, .int .i64 g.count, .int .i64 g.cur, .float .f64 g.n, .float .f64 g.r, .int .i64 g.s.st, .int .i64 g.s.en, .int .i64 g.s.n, .int .i64 g.s.unit, .int .i64 g.s.stub, .int .i64 g.s.roll, .int .i64 g.s.conv, .int .i64 g.s.lag, .int .i64 g.W, v]] wx fun e w' => LstX aF 45 o wx.heap.size e w' ∧ Below wx.heap.size wx w')) :
    Calls Tryz.prog 9 #[.agg #[.int .i64 g.kind, .int .i64 g.count, .int .i64 g.cur, .float .f64 g.n, .float .f64 g.r, .int .i64 g.s.st, .int .i64 g.s.en, .int .i64 g.s.n, .int .i64 g.s.unit, .int .i64 g.s.stub, .int .i64 g.s.roll, .int .i64 g.s.conv, .int .i64 g.s.lag, .int .i64 g.W, v]] w fun e w' => LstX aF 45 (bondR g o) w.heap.size e w' ∧ Below w.heap.size w w' := by
  have H0 := hideS (lbx_f w g v)
  obtain ⟨w0, hw0⟩ : ∃ w0, w.alloc (.cells #[.int .i64 g.kind, .int .i64 g.count, .int .i64 g.cur, .float .f64 g.n, .float .f64 g.r, .int .i64 g.s.st, .int .i64 g.s.en, .int .i64 g.s.n, .int .i64 g.s.unit, .int .i64 g.s.stub, .int .i64 g.s.roll, .int .i64 g.s.conv, .int .i64 g.s.lag, .int .i64 g.W, v] 29) = w0 := ⟨_, rfl⟩
  rw [hw0] at H0
  have H1 := hideS (HF.out w0 H0.out.bl)
  cases o with
  | error E =>
    have hE' := hE E rfl
    have HPo : Hid (∀ wx, LstX aF 45 (bondR g (.error E)) w.heap.size (.returned (.tuple #[.slice none 0 0, .int .i64 E])) wx) := fun wx => Or.inl ⟨E, rfl, rfl⟩
    generalize LstX aF 45 (bondR g (.error E)) w.heap.size = Lo at *
    have d1 : (E != 0) = true := bne_iff_ne.2 hE'
    obtain ⟨z0, z1, z2, z3, z4, z5, z6, z7, z8, z9, z10, z11, z12, z13, z14, _, _⟩ := H0.out
    obtain ⟨gk, gc, gu, gn, gr, s, W⟩ := g
    obtain ⟨st, en, n, unit, stub, roll, conv, lag⟩ := s
    dsimp only [aF] at *
    clear ho hE hE'
    go_enter Tryz.func9, Tryz.ntmps9
    go_wp2_with fail
    refine H1.out.mono ?_
    rintro e w1 ⟨hL, hb1⟩
    rcases hL with ⟨E', hE', rfl⟩ | ⟨m, u, h, _, _⟩
    · cases hE'
      have HB := hideS (H0.out.bl.trans (hb1.mono H0.out.bl.size))
      clear hb1
      go_wp2_with fail
      go_ret2
      exact ⟨HPo.out _, HB.out⟩
    · cases h
  | ok m =>
    obtain ⟨m0, m1⟩ := ho m rfl
    have HPo : Hid (∀ u wx, wx.ownsRow w.heap.size 45 3 u (m.length + 1) (rowF aF (m ++ [⟨(m.getD (m.length - 1) flw0).day, g.n, g.cur⟩])) → LstX aF 45 (bondR g (.ok m)) w.heap.size (.returned (.tuple #[u, .int .i64 0])) wx) := fun u wx h => Or.inr ⟨_, u, rfl, rfl, by rw [List.length_append]; exact h⟩
    generalize LstX aF 45 (bondR g (.ok m)) w.heap.size = Lo at *
    have HM := hideS (And.intro m0 m1)
    obtain ⟨z0, z1, z2, z3, z4, z5, z6, z7, z8, z9, z10, z11, z12, z13, z14, _, _⟩ := H0.out
    obtain ⟨gk, gc, gu, gn, gr, s, W⟩ := g
    obtain ⟨st, en, n, unit, stub, roll, conv, lag⟩ := s
    dsimp only [aF] at *
    clear ho hE m0 m1
    go_enter Tryz.func9, Tryz.ntmps9
    go_wp2_with fail
    refine H1.out.mono ?_
    rintro e w1 ⟨hL, hb1⟩
    rcases hL with ⟨E', hE', _⟩ | ⟨m', u, h, rfl, hw⟩
    · cases hE'
    · cases h
      obtain ⟨pm, gm, cm, rfl, hs, hlo, _, _⟩ := fown_src hw rfl
      obtain rfl := hs.at_ HM.out.1
      have HL1 := hideS (H0.out.step hb1)
      have HB1 := hideS (H0.out.bl.trans (hb1.mono H0.out.bl.size))
      have hcl := (hs.cell (m.length - 1) (by have := HM.out.1; omega)).c0
      rw [Nat.zero_add] at hcl
      have HOm := hideS (fown_mono hw H0.out.bl.size)
      obtain ⟨N, hN⟩ : ∃ N, m.length = N + 1 := ⟨m.length - 1, by have := HM.out.1; omega⟩
      rw [hN] at hcl HOm HPo HM
      rw [hN]
      rw [Nat.add_sub_cancel] at hcl HPo
      have x2 := HL1.out.c2
      have x3 := HL1.out.c3
      dsimp only [aF] at x2 x3
      generalize (m.getD N flw0).day = dd at *
      have hNl : N ≤ 2000 := by have := HM.out.2; omega
      have HBw := hideS ((Below.refl w1.heap.size w1).alloc (Nat.le_refl _) (.cells #[.int .i64 dd, .float .f64 gn, .int .i64 gu] 45))
      have HO4 := hideS (fown_below HOm.out HBw.out)
      have HFc := hideS (fcells_new w1 ⟨dd, gn, gu⟩)
      have HB4 := hideS (HB1.out.trans (HBw.out.mono HB1.out.size))
      have i1 : ((N : Int) + 1 - 1) = N := by omega
      clear hb1 hs hlo hw hN H1
      go_wp2_with (at_builtin; refine wpList_append_f1 _ rfl (.tmp 22) (.tmp 29) rfl w.heap.size (.slice (some ⟨gm, 0, none⟩) (N + 1) cm) (N + 1) m rfl HO4.out HB4.out.size w1.heap.size ⟨dd, gn, gu⟩ rfl HFc.out (by omega) ?_; intro v5 w5 ho5 hb5; have HB5 := hideS (HB4.out.trans hb5); have HO5 := hideS ho5; clear ho5 hb5)
      go_ret2
      exact ⟨HPo.out _ _ HO5.out, HB5.out⟩
end Go.Proofs.YtpcgbcdldkmibaaGreat
namespace Go.Proofs.YtpcgbcdldkmibaaGreat
open Go.RowKit

set_option maxRecDepth 20000 in
set_option maxHeartbeats 12800000 in
theorem ref14Fixed_any (g : LegJ) (v : Value) (E : Int) (xs : List Per) (y : Per → Nat) (ye : Per → Int) (w : World) (hn : g.n < 18446744073709551616) (hr : g.r < 18446744073709551616) (hy : ∀ p, y p < 18446744073709551616) (hl : xs.length ≤ 2000)
    (HP : Hid (∀ wx, Below w.heap.size w wx → Calls Tryz.prog 36 #[.agg #[.int .i64 g.s.st, .int .i64 g.s.en, .int .i64 g.s.n, .int .i64 g.s.unit, .int .i64 g.s.stub, .int .i64 g.s.roll, .int .i64 g.s.conv, .int .i64 g.s.lag, .int .i64 g.W, v]] wx fun e w' => PersOut xs E wx e w' ∧ Below wx.heap.size wx w'))
    (HY : Hid (∀ p wx, Below w.heap.size w wx → Calls Tryz.prog 21 #[.int .i64 g.count, .agg #[.int .i64 g.W, v], .int .i64 p.st, .int .i64 p.en] wx fun e w' => e = .returned (.tuple #[.int .u64 (y p : Int), .int .i64 (ye p)]) ∧ Below wx.heap.size wx w')) :
    Calls Tryz.prog 8 #[.agg #[.int .i64 g.kind, .int .i64 g.count, .int .i64 g.cur, .int .u64 (g.n : Int), .int .u64 (g.r : Int), .int .i64 g.s.st, .int .i64 g.s.en, .int .i64 g.s.n, .int .i64 g.s.unit, .int .i64 g.s.stub, .int .i64 g.s.roll, .int .i64 g.s.conv, .int .i64 g.s.lag, .int .i64 g.W, v]] w fun e w' => LstX aB 65 (fixR g y ye (legX g 1 xs) (legE g 1 E)) w.heap.size e w' ∧ Below w.heap.size w w' := by
  have H0 := hideS (lbx_b w g v)
  obtain ⟨w0, hw0⟩ : ∃ w0, w.alloc (.cells #[.int .i64 g.kind, .int .i64 g.count, .int .i64 g.cur, .int .u64 (g.n : Int), .int .u64 (g.r : Int), .int .i64 g.s.st, .int .i64 g.s.en, .int .i64 g.s.n, .int .i64 g.s.unit, .int .i64 g.s.stub, .int .i64 g.s.roll, .int .i64 g.s.conv, .int .i64 g.s.lag, .int .i64 g.W, v] 34) = w0 := ⟨_, rfl⟩
  rw [hw0] at H0
  have H1 := hideS (ref14Begun_any g v 1 E xs w0 hn hr (fun wx hb => HP.out wx (H0.out.bl.trans (hb.mono H0.out.bl.size))))
  have hxl : (legX g 1 xs).length ≤ 2000 := by unfold legX; split; exact hl; exact Nat.zero_le _
  have HMu := hideS fun wx => refMul_any g.n g.r g.n g.r wx rfl rfl (by unfold U64; omega) (by unfold U64; omega)
  have HC1 := hideS (cn_lt (op := .mul) (Or.inr (Or.inr (Or.inl rfl))) g.n g.r)
  have HA1 := hideS (ag_cn (floatBits .mul .f64 g.n g.r))
  have HYu := hideS hy
  have HPd : Hid (∀ p, payO g y ye p = if ye p ≠ 0 then .error (ye p) else match opO .mul (floatBits .mul .f64 g.n g.r) (some (y p)) with
    | some a => if finB a then .ok ⟨p.pay, a, g.cur⟩ else .error 91
    | none => .error 91) := fun p => rfl
  have HFx : Hid (fixR g y ye (legX g 1 xs) (legE g 1 E) = if legE g 1 E ≠ 0 then .error (legE g 1 E) else payN g y ye (legX g 1 xs) (legX g 1 xs).length) := rfl
  generalize fixR g y ye (legX g 1 xs) (legE g 1 E) = Fx at *
  generalize legX g 1 xs = X at *
  generalize legE g 1 E = F at *
  obtain ⟨Lo, hLo⟩ : ∃ Lo, LstX aB 65 Fx w.heap.size = Lo := ⟨_, rfl⟩
  rw [hLo]
  have HLo := hideS hLo
  obtain ⟨G, hG⟩ : ∃ G, G = g := ⟨_, rfl⟩
  rw [← hG] at HPd HFx
  obtain ⟨fo, hfo⟩ : ∃ fo, floatBits .mul .f64 g.n g.r = fo := ⟨_, rfl⟩
  rw [hfo] at HMu HC1 HA1
  have HFo := hideS hfo
  generalize cn fo = c1 at *
  obtain ⟨z0, z1, z2, z3, z4, z5, z6, z7, z8, z9, z10, z11, z12, z13, z14, _, _⟩ := H0.out
  obtain ⟨gk, gc, gu, gn, gr, s, W⟩ := g
  obtain ⟨st, en, n, unit, stub, roll, conv, lag⟩ := s
  dsimp only [aB] at *
  have HGg := hideS hG
  clear hn hr hy hl hLo hG hfo
  go_enter Tryz.func8, Tryz.ntmps8
  go_wp2_with fail
  refine H1.out.mono ?_
  rintro e w1 ⟨⟨q, b, c, rfl, hs, hcl, _⟩, hb1⟩
  have HB1 := hideS hb1
  have HL1 := hideS (H0.out.step hb1)
  have HQ := hideS hs
  have HBw1 := hideS (H0.out.bl.trans (hb1.mono H0.out.bl.size))
  clear hb1 hs H1 z0 z1 z2 z3 z4 z5 z6 z7 z8 z9 z10 z11 z12 z13 z14 hw0
  by_cases hF : F = 0
  · subst hF
    rw [if_neg (by simp)] at HFx
    have HO0 := hideS (fown_nil aB w1 w1.heap.size 65)
    have HP2 : Hid (0 < X.length → q = some ⟨b, 0, none⟩) := fun h => HQ.out.at_ h
    obtain ⟨N, hN⟩ : ∃ N, X.length = N := ⟨_, rfl⟩
    have HN := hideS hN
    rw [hN] at HFx HP2 hxl
    rw [hN]
    clear hN
    go_wp2_with fail
    go_loopw [6, 7] (fun vo i wr => ∃ (k : Nat) (m : List Flw) (oq : Option Addr) (ocp : Nat), k ≤ N ∧ i = .int .i64 k ∧ vo = .slice oq k ocp ∧ Hid (payN G y ye X k = .ok m) ∧ Hid (wr.ownsRow w1.heap.size 65 3 (.slice oq k ocp) k (rowF aB m)) ∧ Hid (Below w1.heap.size w1 wr)) (fun _ i _ => N - (intOf i).toNat)
    case atStart => exact ⟨0, [], none, 0, Nat.zero_le _, rfl, rfl, rfl, HO0, Below.refl _ _⟩
    case round =>
      clear HO0
      obtain ⟨k, m, oq, ocp, hk, rfl, rfl, HM, HO, HB⟩ := hrel
      have HBw := hideS (HBw1.out.trans (HB.out.mono HBw1.out.size))
      by_cases hlt : k < N
      · obtain rfl := HP2.out (by omega)
        have HLr := hideS (HL1.out.stay HB.out (by have := HB1.out.size; have := H0.out.lt; omega))
        have hPA := (HQ.out.below HB.out).cell k (by rw [HN.out]; exact hlt)
        have HLb : Hid (b < wr.heap.size) := Nat.lt_of_lt_of_le (HQ.out.lt (by rw [HN.out]; omega)) HB.out.size
        have HSt := hideS (fun E h => payN_stop (n := N) (E := E) HM.out h hlt)
        have HSu := hideS (fun f h => payN_succ (f := f) HM.out h)
        have HPk := hideS (HPd.out (X.getD k per0))
        have HYk := hideS (HY.out (X.getD k per0))
        have HYl := hideS (HYu.out (X.getD k per0))
        obtain ⟨p, hp⟩ : ∃ p, X.getD k per0 = p := ⟨_, rfl⟩
        rw [hp] at hPA HSt HSu HPk HYk HYl
        have HXk := hideS hp
        generalize y p = yv at *
        generalize ye p = yE at *
        obtain ⟨c0, cA, c2, c3, c4⟩ := hPA
        obtain ⟨pf, pt, ps, pe, pp⟩ := p
        rw [Nat.zero_add] at c0 cA c2 c3 c4
        rw [Nat.add_zero] at c0
        dsimp only at *
        clear hp
        have v1 := HLr.out.c1
        have v13 := HLr.out.c13
        have v14 := HLr.out.c14
        dsimp only at v1 v13 v14
        have hxw : w.heap.size < wr.heap.size := Nat.lt_of_lt_of_le H0.out.lt (Nat.le_trans HB1.out.size HB.out.size)
        have hbl := HLb.out
        have g3 : (0 : Int) ≤ (k : Int) := by omega
        have g4 : (k : Int) < (N : Int) := by omega
        have HYw := hideS (HYk.out wr.drew (below_drewJ HBw.out 1))
        go_wp2_with fail
        go_region_law (go_simp; go_at_call 21; refine HYw.out.mono ?_; rintro e w2 ⟨rfl, hb2⟩; have HB2 := hideS hb2; clear hb2)
        all_goals
          have HBr : Hid (Below wr.heap.size wr w2) := (Below.refl wr.heap.size wr).drew.trans HB2.out
          have HLr2 := hideS (HLr.out.step HBr.out)
          have HO2 := hideS (fown_below HO.out HBr.out)
          have HBB := hideS (HB.out.trans (HBr.out.mono HB.out.size))
          have HBw2 := hideS (HBw.out.trans (HBr.out.mono HBw.out.size))
          clear c0 cA c2 c3 c4 v1 v13 v14 HYw HB2 HLr
          by_cases hE : yE = 0
          · subst hE
            rw [if_neg (by simp)] at HPk
            have HMv := hideS fun wx => refMul_any c1 yv c1 yv wx rfl rfl (by have := HC1.out; unfold U64; omega) (by have := HYl.out; unfold U64; omega)
            have hcl := cn_lt (op := .mul) (Or.inr (Or.inr (Or.inl rfl))) c1 yv
            have hag := ag_cn (floatBits .mul .f64 c1 yv)
            have HOp : Hid (opO .mul (floatBits .mul .f64 G.n G.r) (some yv) = floatBits .mul .f64 c1 yv) := by
              show _ = _
              rw [HGg.out]
              refine Eq.trans ?_ (opO_ag (o' := some yv) HA1.out rfl)
              rw [← HFo.out]
            have v3 := HLr2.out.c3
            have v4 := HLr2.out.c4
            dsimp only [aB] at v3 v4
            generalize cn (floatBits .mul .f64 c1 yv) = r at *
            have HNr := hideS fun wx => refNum_any (r : Int) wx (by unfold U64; omega)
            go_wp2_with fail
            refine (HMu.out _).mono ?_
            rintro e w3 ⟨rfl, hb3⟩
            have HB3 := hideS (HBr.out.trans (hb3.mono HBr.out.size))
            clear hb3 v3 v4
            go_wp2_with fail
            refine (HMv.out _).mono ?_
            rintro e w4 ⟨rfl, hb4⟩
            have HB4 := hideS (HB3.out.trans (hb4.mono HB3.out.size))
            have HL4 := hideS ((HL1.out.stay HB.out (by have := HB1.out.size; have := H0.out.lt; omega)).step HB4.out)
            have HO4 := hideS (fown_below HO.out HB4.out)
            have HBB4 := hideS (HB.out.trans (HB4.out.mono HB.out.size))
            have HBw4 := hideS (HBw.out.trans (HB4.out.mono HBw.out.size))
            clear hb4
            cases hfr : finB r
            · rw [hfr] at HNr
              have HE : Hid (∀ wx, Lo (.returned (.tuple #[.slice none 0 0, .int .i64 91])) wx) := fun wx => by
                rw [← HLo.out, HFx.out]
                refine Or.inl ⟨91, HSt.out 91 ?_, rfl⟩
                rw [HPk.out, HOp.out]
                cases e : floatBits .mul .f64 c1 yv with
                | none => rfl
                | some q => rw [e] at hag; rw [← ag_some hag]; dsimp only; rw [hfr]; rfl
              clear hfr hag hcl
              go_wp2_with fail
              refine (turned (HNr.out _)).mono ?_
              rintro e w5 ⟨rfl, rfl⟩
              go_wp2_with fail
              go_ret2
              exact ⟨HE.out _, HBw4.out⟩
            · rw [hfr] at HNr
              have HG : Hid (payO G y ye ⟨pf, pt, ps, pe, pp⟩ = .ok ⟨pp, r, gu⟩) := by
                show _ = _
                rw [HPk.out, HOp.out]
                cases e : floatBits .mul .f64 c1 yv with
                | none => rw [e] at hag; rw [fin_nan (ag_none hag).1] at hfr; cases hfr
                | some q => rw [e] at hag; rw [← ag_some hag]; dsimp only; rw [hfr, HGg.out]; rfl
              have HS := hideS (HSu.out _ HG.out)
              clear hfr hag hcl
              go_wp2_with fail
              refine (turned (HNr.out _)).mono ?_
              rintro e w5 ⟨rfl, rfl⟩
              have HBa := hideS ((Below.refl w4.heap.size w4).drew.alloc (Nat.le_refl _) (.cells #[.int .i64 pp, .int .u64 (r : Int), .int .i64 gu] 65))
              have HO5 := hideS (fown_below HO4.out HBa.out)
              have HB5 := hideS (HBB4.out.trans (HBa.out.mono HBB4.out.size))
              have HFc : Hid (FCells aB (w4.drew.alloc (.cells #[.int .i64 pp, .int .u64 (r : Int), .int .i64 gu] 65)) w4.heap.size 0 ⟨pp, r, gu⟩) := dcells_new w4.drew ⟨pp, r, gu⟩
              have hP4 := (HQ.out.below HBB4.out).cell k (by rw [HN.out]; exact hlt)
              rw [HXk.out, Nat.zero_add] at hP4
              have c4 := hP4.c4
              dsimp only at c4
              have v2 := HL4.out.c2
              dsimp only at v2
              have hbn : b ≠ w4.heap.size := Nat.ne_of_lt (Nat.lt_of_lt_of_le HLb.out HB4.out.size)
              have hbm : w.heap.size ≠ w4.heap.size := Nat.ne_of_lt (Nat.lt_of_lt_of_le hxw HB4.out.size)
              clear hP4
              go_wp2_with fail
              go_region_law (refine step_append_fd rfl (.tmp 57) (.tmp 67) rfl w1.heap.size (.slice oq k ocp) k m rfl HO5.out HB5.out.size w4.heap.size ⟨pp, r, gu⟩ rfl HFc.out (by omega) ?_; intro v6 w6 ho6 hb6; have HB6 := hideS (HB5.out.trans hb6); obtain ⟨q6, g6, k6, hv6, _, _, _, hm6⟩ := fown_src ho6 (payN_len HS.out); subst hv6; have HO6 := hideS ho6; clear ho6 hb6)
              all_goals
                go_wp2_with fail
                go_roundw
                case rel => exact ⟨k + 1, _, q6, k6, by omega, by go_num, rfl, HS, HO6, HB6⟩
                case measure => simp [intOf]; omega
          · have d1 : (yE != 0) = true := bne_iff_ne.2 hE
            have HEr : Hid (∀ wx, Lo (.returned (.tuple #[.slice none 0 0, .int .i64 yE])) wx) := fun wx => by
              rw [← HLo.out, HFx.out]
              exact Or.inl ⟨yE, HSt.out yE (by rw [HPk.out, if_pos hE]), rfl⟩
            go_wp2_with fail
            go_ret2
            exact ⟨HEr.out _, HBw2.out⟩
      · obtain rfl : k = N := by omega
        go_wp2_with fail
        go_ret2
        refine ⟨?_, HBw.out⟩
        rw [← HLo.out, HFx.out, HM.out]
        refine Or.inr ⟨m, _, rfl, rfl, ?_⟩
        rw [payN_len HM.out]
        exact fown_mono HO.out (Nat.le_trans H0.out.bl.size HB1.out.size)
  · have d1 : (F != 0) = true := bne_iff_ne.2 hF
    rw [if_pos hF] at HFx
    have HPo : Hid (∀ wx, Lo (.returned (.tuple #[.slice none 0 0, .int .i64 F])) wx) := fun wx => by rw [← HLo.out, HFx.out]; exact Or.inl ⟨F, rfl, rfl⟩
    go_wp2_with fail
    go_ret2
    exact ⟨HPo.out _, HBw1.out⟩
end Go.Proofs.YtpcgbcdldkmibaaGreat
