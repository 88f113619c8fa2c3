/- The walk of FlowFixed. Made by gen_fixed.py. -/
import Derived.Test.YtpcgbcdldkmibaaGreatHbt
import Derived.Test.YtpcgbcdldkmibaaGreatHbx
import Derived.Test.YtpcgbcdldkmibaaGreatHas
namespace Go.Proofs.YtpcgbcdldkmibaaGreat
open Go.RowKit

set_option maxRecDepth 20000 in
set_option maxHeartbeats 12800000 in
theorem flowFixed_no (g : LegJ) (p : Option Addr) (rl c : Nat) (w : World)
    (HS : Hid (∀ wx, Calls Tryz.prog 4 #[.agg #[.int .i64 g.kind, .int .i64 g.count, .int .i64 g.cur, .float .f64 g.n, .float .f64 g.r, .int .i64 g.s.st, .int .i64 g.s.en, .int .i64 g.s.n, .int .i64 g.s.unit, .int .i64 g.s.stub, .int .i64 g.s.roll, .int .i64 g.s.conv, .int .i64 g.s.lag, .int .i64 g.W, .slice p rl c]] wx fun e w' => e = .returned (.bool false) ∧ Below wx.heap.size wx w')) :
    Calls Tryz.prog 3 #[.agg #[.int .i64 g.kind, .int .i64 g.count, .int .i64 g.cur, .float .f64 g.n, .float .f64 g.r, .int .i64 g.s.st, .int .i64 g.s.en, .int .i64 g.s.n, .int .i64 g.s.unit, .int .i64 g.s.stub, .int .i64 g.s.roll, .int .i64 g.s.conv, .int .i64 g.s.lag, .int .i64 g.W, .slice p rl c]] w fun e w' => e = .returned (.bool true) ∧ Below w.heap.size w w' := by
  have HAw := hideS awake14
  have H0 := hideS (lbx_f w g (.slice p rl c))
  obtain ⟨w0, hw0⟩ : ∃ w0, w.alloc (.cells #[.int .i64 g.kind, .int .i64 g.count, .int .i64 g.cur, .float .f64 g.n, .float .f64 g.r, .int .i64 g.s.st, .int .i64 g.s.en, .int .i64 g.s.n, .int .i64 g.s.unit, .int .i64 g.s.stub, .int .i64 g.s.roll, .int .i64 g.s.conv, .int .i64 g.s.lag, .int .i64 g.W, .slice p rl c] 29) = w0 := ⟨_, rfl⟩
  rw [hw0] at H0
  obtain ⟨x0, x1, x2, x3, x4, x5, x6, x7, x8, x9, x10, x11, x12, x13, x14, _, _⟩ := H0.out
  dsimp only [aF] at x0 x1 x2 x3 x4 x5 x6 x7 x8 x9 x10 x11 x12 x13 x14
  go_enter Tryz.func3, Tryz.ntmps3
  go_wp2_with fail
  refine (HS.out _).mono ?_
  rintro e w1 ⟨rfl, hb1⟩
  have HB1 := hideS (H0.out.bl.trans (hb1.mono H0.out.bl.size))
  clear hb1 H0 hw0
  clear x0 x1 x2 x3 x4 x5 x6 x7 x8 x9 x10 x11 x12 x13 x14
  go_wp2_with fail
  refine (HAw.out _).mono ?_
  rintro e wa ⟨rfl, hba⟩
  have HBa := hideS (HB1.out.trans (hba.mono HB1.out.size))
  clear hba HB1
  go_wp2_with fail
  go_ret
  exact ⟨rfl, HBa.out⟩

set_option maxRecDepth 20000 in
set_option maxHeartbeats 12800000 in
theorem flowFixed_yes (g : LegJ) (p : Option Addr) (rl c : Nat) (o : Except Int (List Flw)) (w : World) (HT : LegT g (.slice p rl c) o w)
    (HS : Hid (∀ wx, Calls Tryz.prog 4 #[.agg #[.int .i64 g.kind, .int .i64 g.count, .int .i64 g.cur, .float .f64 g.n, .float .f64 g.r, .int .i64 g.s.st, .int .i64 g.s.en, .int .i64 g.s.n, .int .i64 g.s.unit, .int .i64 g.s.stub, .int .i64 g.s.roll, .int .i64 g.s.conv, .int .i64 g.s.lag, .int .i64 g.W, .slice p rl c]] wx fun e w' => (∃ b, e = .returned (.bool b)) ∧ Below wx.heap.size wx w')) :
    Calls Tryz.prog 3 #[.agg #[.int .i64 g.kind, .int .i64 g.count, .int .i64 g.cur, .float .f64 g.n, .float .f64 g.r, .int .i64 g.s.st, .int .i64 g.s.en, .int .i64 g.s.n, .int .i64 g.s.unit, .int .i64 g.s.stub, .int .i64 g.s.roll, .int .i64 g.s.conv, .int .i64 g.s.lag, .int .i64 g.W, .slice p rl c]] w fun e w' => e = .returned (.bool true) ∧ Below w.heap.size w w' := by
  have HAw := hideS awake14
  have HO := hideS fun wx => ref14OfLeg_any g p rl c wx
  have HFp := hideS HT.fp
  have HFd := hideS HT.fd
  have HBp := hideS HT.bp
  have HBd := hideS HT.bd
  have HS1 := hideS fun u v wx hu hv => sameD_any u v (xL o) wx hu hv (by have := HT.n1; omega) HT.f1
  have HS2 := hideS fun u v wx hu hv => sameD_any u v (xL (bondR g o)) wx hu hv (by have := HT.n2; omega) HT.f2
  clear HT
  generalize xL (bondR g o) = M2 at *
  generalize xE (bondR g o) = E2 at *
  generalize xL o = M1 at *
  generalize xE o = E1 at *
  have q1 : (E1 == E1) = true := by simp
  have q2 : (E2 == E2) = true := by simp
  have H0 := hideS (lbx_f w g (.slice p rl c))
  obtain ⟨w0, hw0⟩ : ∃ w0, w.alloc (.cells #[.int .i64 g.kind, .int .i64 g.count, .int .i64 g.cur, .float .f64 g.n, .float .f64 g.r, .int .i64 g.s.st, .int .i64 g.s.en, .int .i64 g.s.n, .int .i64 g.s.unit, .int .i64 g.s.stub, .int .i64 g.s.roll, .int .i64 g.s.conv, .int .i64 g.s.lag, .int .i64 g.W, .slice p rl c] 29) = w0 := ⟨_, rfl⟩
  rw [hw0] at H0
  obtain ⟨x0, x1, x2, x3, x4, x5, x6, x7, x8, x9, x10, x11, x12, x13, x14, _, _⟩ := H0.out
  dsimp only [aF] at x0 x1 x2 x3 x4 x5 x6 x7 x8 x9 x10 x11 x12 x13 x14
  go_enter Tryz.func3, Tryz.ntmps3
  go_wp2_with fail
  refine (HS.out _).mono ?_
  rintro e w1 ⟨⟨b, rfl⟩, hb1⟩
  have H1 := hideS (H0.out.step hb1)
  clear hb1 H0 hw0 HS
  clear x0 x1 x2 x3 x4 x5 x6 x7 x8 x9 x10 x11 x12 x13 x14
  cases b
  · go_wp2_with fail
    refine (HAw.out _).mono ?_
    rintro e wa ⟨rfl, hba⟩
    have HBa := hideS (H1.out.bl.trans (hba.mono H1.out.bl.size))
    clear hba H1
    go_wp2_with fail
    go_ret
    exact ⟨rfl, HBa.out⟩
  obtain ⟨x0, x1, x2, x3, x4, x5, x6, x7, x8, x9, x10, x11, x12, x13, x14, _, _⟩ := H1.out
  dsimp only [aF] at x0 x1 x2 x3 x4 x5 x6 x7 x8 x9 x10 x11 x12 x13 x14
  go_wp2_with fail
  refine (HO.out _).mono ?_
  rintro e w2 ⟨rfl, hb2⟩
  have H2 := hideS (H1.out.step hb2)
  clear hb2 H1 HO
  clear x0 x1 x2 x3 x4 x5 x6 x7 x8 x9 x10 x11 x12 x13 x14
  have HA := hideS ((Below.refl w2.heap.size w2).alloc (Nat.le_refl _) zeroLg)
  have HX := hideS (fill_leg w2 g (.slice p rl c) (w2.alloc zeroLg) (heap_alloc_new w2 zeroLg) HA.out)
  obtain ⟨w3, hw3⟩ : ∃ w3, w2.alloc zeroLg = w3 := ⟨_, rfl⟩
  rw [hw3] at HX HA
  unfold zeroLg at hw3
  obtain ⟨u1, u2, u3, u4, u5, u6, u7, u8, u9, u10, u11, u12, u13, u14, u15, ⟨e0, z0, y0⟩, ⟨e1, z1, y1⟩, ⟨e2, z2, y2⟩, ⟨e3, z3, y3⟩, ⟨e4, z4, y4⟩, ⟨e5, z5, y5⟩, ⟨e6, z6, y6⟩, ⟨e7, z7, y7⟩, ⟨e8, z8, y8⟩, ⟨e9, z9, y9⟩, ⟨e10, z10, y10⟩, ⟨e11, z11, y11⟩, ⟨e12, z12, y12⟩, ⟨e13, z13, y13⟩, ⟨e14, z14, y14⟩, HZ⟩ := HX.out
  have HZ0 := hideS HZ
  have HC3 := hideS (H2.out.step HZ.bl)
  clear HX HA HZ
  obtain ⟨x0, x1, x2, x3, x4, x5, x6, x7, x8, x9, x10, x11, x12, x13, x14, _, _⟩ := HC3.out
  dsimp only [aF] at x0 x1 x2 x3 x4 x5 x6 x7 x8 x9 x10 x11 x12 x13 x14
  go_wp2_with fail
  clear e0 z0 y0 e1 z1 y1 e2 z2 y2 e3 z3 y3 e4 z4 y4 e5 z5 y5 e6 z6 y6 e7 z7 y7 e8 z8 y8 e9 z9 y9 e10 z10 y10 e11 z11 y11 e12 z12 y12 e13 z13 y13 e14 z14 y14 hw3
  refine (HFp.out _ HC3.out.bl).mono ?_
  rintro e w4 ⟨⟨v1, rfl, j1⟩, hb4⟩
  have HC4 := hideS (HC3.out.step hb4)
  have HZ4 := hideS (HZ0.out.step hb4)
  have J14 := hideS j1
  clear hb4 j1 HC3 HZ0 HFp H2
  clear x0 x1 x2 x3 x4 x5 x6 x7 x8 x9 x10 x11 x12 x13 x14
  obtain ⟨s0, s1, s2, s3, s4, s5, s6, s7, s8, s9, s10, s11, s12, s13, s14, _, _⟩ := HZ4.out
  dsimp only [aB] at s0 s1 s2 s3 s4 s5 s6 s7 s8 s9 s10 s11 s12 s13 s14
  go_wp2_with fail
  refine (HFd.out _ HC4.out.bl).mono ?_
  rintro e w5 ⟨⟨v2, rfl, j2⟩, hb5⟩
  have HC5 := hideS (HC4.out.step hb5)
  have HZ5 := hideS (HZ4.out.step hb5)
  have J15 := hideS (J14.out.below hb5)
  have J25 := hideS j2
  clear hb5 j2 HC4 HZ4 J14 HFd
  clear s0 s1 s2 s3 s4 s5 s6 s7 s8 s9 s10 s11 s12 s13 s14
  obtain ⟨x0, x1, x2, x3, x4, x5, x6, x7, x8, x9, x10, x11, x12, x13, x14, _, _⟩ := HC5.out
  dsimp only [aF] at x0 x1 x2 x3 x4 x5 x6 x7 x8 x9 x10 x11 x12 x13 x14
  go_wp2_with fail
  refine (HBp.out _ HC5.out.bl).mono ?_
  rintro e w6 ⟨⟨v3, rfl, j3⟩, hb6⟩
  have HC6 := hideS (HC5.out.step hb6)
  have HZ6 := hideS (HZ5.out.step hb6)
  have J16 := hideS (J15.out.below hb6)
  have J26 := hideS (J25.out.below hb6)
  have J36 := hideS j3
  clear hb6 j3 HC5 HZ5 J15 J25 HBp
  clear x0 x1 x2 x3 x4 x5 x6 x7 x8 x9 x10 x11 x12 x13 x14
  obtain ⟨s0, s1, s2, s3, s4, s5, s6, s7, s8, s9, s10, s11, s12, s13, s14, _, _⟩ := HZ6.out
  dsimp only [aB] at s0 s1 s2 s3 s4 s5 s6 s7 s8 s9 s10 s11 s12 s13 s14
  go_wp2_with fail
  refine (HBd.out _ HC6.out.bl).mono ?_
  rintro e w7 ⟨⟨v4, rfl, j4⟩, hb7⟩
  have HB7 := hideS (HC6.out.bl.trans (hb7.mono HC6.out.bl.size))
  have J17 := hideS (J16.out.below hb7)
  have J27 := hideS (J26.out.below hb7)
  have J37 := hideS (J36.out.below hb7)
  have J47 := hideS j4
  clear hb7 j4 HC6 HZ6 J16 J26 J36 HBd
  clear s0 s1 s2 s3 s4 s5 s6 s7 s8 s9 s10 s11 s12 s13 s14
  go_wp2_with fail
  refine (HS1.out v1 v2 w7 J17.out J27.out).mono ?_
  rintro e w8 ⟨rfl, hb8⟩
  have HB8 := hideS (HB7.out.trans (hb8.mono HB7.out.size))
  have J38 := hideS (J37.out.below hb8)
  have J48 := hideS (J47.out.below hb8)
  clear hb8 HB7 J17 J27 J37 J47 HS1
  go_wp2_with fail
  refine (HS2.out v3 v4 w8 J38.out J48.out).mono ?_
  rintro e w9 ⟨rfl, hb9⟩
  have HB9 := hideS (HB8.out.trans (hb9.mono HB8.out.size))
  clear hb9 HB8 J38 J48 HS2
  go_wp2_with fail
  refine (HAw.out _).mono ?_
  rintro e wa ⟨rfl, hba⟩
  have HBa := hideS (HB9.out.trans (hba.mono HB9.out.size))
  clear hba HB9
  go_wp2_with fail
  go_ret
  exact ⟨rfl, HBa.out⟩

theorem flowFixed_walk (g : LegJ) (p : Option Addr) (b off c : Nat) (rs : List Rul) (w : World) (hs : RSrc w p b off rs) (hl : rs.length ≤ 9223372036854775807) (hn : g.n < 18446744073709551616) (hr : g.r < 18446744073709551616) (hn1 : g.s.n ≤ 9223372036854775807) :
    Calls Tryz.prog 3 #[.agg #[.int .i64 g.kind, .int .i64 g.count, .int .i64 g.cur, .float .f64 g.n, .float .f64 g.r, .int .i64 g.s.st, .int .i64 g.s.en, .int .i64 g.s.n, .int .i64 g.s.unit, .int .i64 g.s.stub, .int .i64 g.s.roll, .int .i64 g.s.conv, .int .i64 g.s.lag, .int .i64 g.W, .slice p rs.length c]] w fun e w' => e = .returned (.bool true) ∧ Below w.heap.size w w' := by
  by_cases h : rs.length ≤ 100
  · obtain ⟨o, HT⟩ := leg_two g p b off c rs w hs h hn hr
    exact flowFixed_yes g p rs.length c o w HT (fun wx => short_few g p rs.length c wx h hn1)
  · exact flowFixed_no g p rs.length c w (fun wx => short_many g p rs.length c wx (by omega) hl)
theorem legN {s : Spc} (h : SpcI s) : s.n ≤ 9223372036854775807 := by have := h.n; unfold I64 at this; omega
end Go.Proofs.YtpcgbcdldkmibaaGreat
