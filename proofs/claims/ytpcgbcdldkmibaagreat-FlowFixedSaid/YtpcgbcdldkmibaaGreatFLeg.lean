/- A leg that came in. -/
import Derived.Test.YtpcgbcdldkmibaaGreatHas
import Derived.Test.YtpcgbcdldkmibaaGreatFFlw
import Derived.Test.YtpcgbcdldkmibaaGreatHbs
namespace Go.Proofs.YtpcgbcdldkmibaaGreat
open Go.ChangeShapes Go.WideShapes Go.ChangeAt Go.RowKit

theorem cellsLeg : Tryz.prog.cellsOf 29 = 15 := by kernel_rfl
set_option maxRecDepth 100000 in
theorem spec_cells {H : Type} {enc : TypeId × Value → H} {W : World} {fuel : Nat} {l : List Value} {x : DataW H × List MemPlace} (hf : DataW.trod enc Tryz.prog W 0 (fun _ => true) true fuel 27 l = some x) :
    ∃ (s : Spc) (wk : Int) (p : Option Addr) (len cap : Nat), l = [.int .i64 s.st, .int .i64 s.en, .int .i64 s.n, .int .i64 s.unit, .int .i64 s.stub, .int .i64 s.roll, .int .i64 s.conv, .int .i64 s.lag, .int .i64 wk, .slice p len cap] ∧ SpcI s ∧ I64 wk ∧ len ≤ cap ∧ cap ≤ maxLen ∧ ∃ b off rs, rs.length = len ∧ RSrc W p b off rs ∧ ∀ r ∈ rs, RulI r := by
  obtain ⟨xs, m, _, _, hl, hlen, hfl⟩ := DataW.trod_struct Tryz.underlying27 hf
  rw [cellsSpec] at hl
  have hlen9 : xs.length = 9 := hlen
  have k : ∀ j, j < 8 → DataW.trod enc Tryz.prog W 0 (fun _ => true) true m 3 ((l.drop j).take 1) = xs[j]? := fun j hj => by
    have e0 : DataW.trod enc Tryz.prog W 0 (fun _ => true) true m 3 ((l.drop 0).take (Tryz.prog.cellsOf 3)) = xs[0]? := hfl 0 _ rfl
    have e1 : DataW.trod enc Tryz.prog W 0 (fun _ => true) true m 3 ((l.drop 1).take (Tryz.prog.cellsOf 3)) = xs[1]? := hfl 1 _ rfl
    have e2 : DataW.trod enc Tryz.prog W 0 (fun _ => true) true m 3 ((l.drop 2).take (Tryz.prog.cellsOf 3)) = xs[2]? := hfl 2 _ rfl
    have e3 : DataW.trod enc Tryz.prog W 0 (fun _ => true) true m 3 ((l.drop 3).take (Tryz.prog.cellsOf 3)) = xs[3]? := hfl 3 _ rfl
    have e4 : DataW.trod enc Tryz.prog W 0 (fun _ => true) true m 3 ((l.drop 4).take (Tryz.prog.cellsOf 3)) = xs[4]? := hfl 4 _ rfl
    have e5 : DataW.trod enc Tryz.prog W 0 (fun _ => true) true m 3 ((l.drop 5).take (Tryz.prog.cellsOf 3)) = xs[5]? := hfl 5 _ rfl
    have e6 : DataW.trod enc Tryz.prog W 0 (fun _ => true) true m 3 ((l.drop 6).take (Tryz.prog.cellsOf 3)) = xs[6]? := hfl 6 _ rfl
    have e7 : DataW.trod enc Tryz.prog W 0 (fun _ => true) true m 3 ((l.drop 7).take (Tryz.prog.cellsOf 3)) = xs[7]? := hfl 7 _ rfl
    rw [cellsI] at e0 e1 e2 e3 e4 e5 e6 e7
    rcases (show j = 0 ∨ j = 1 ∨ j = 2 ∨ j = 3 ∨ j = 4 ∨ j = 5 ∨ j = 6 ∨ j = 7 by omega) with rfl | rfl | rfl | rfl | rfl | rfl | rfl | rfl
    · exact e0
    · exact e1
    · exact e2
    · exact e3
    · exact e4
    · exact e5
    · exact e6
    · exact e7
  have e8 : DataW.trod enc Tryz.prog W 0 (fun _ => true) true m 25 ((l.drop 8).take (Tryz.prog.cellsOf 25)) = xs[8]? := hfl 8 _ rfl
  rw [cellsCal, List.getElem?_eq_getElem (by omega)] at e8
  have ki : ∀ j, j < 8 → ∃ z, l[j]? = some (.int .i64 z) ∧ I64 z := fun j hj => by
    have e := k j hj
    rw [List.getElem?_eq_getElem (by omega)] at e
    obtain ⟨z, hz, _, hw⟩ := DataW.trod_int Tryz.underlying3 e
    refine ⟨z, ?_, i64_of_wf hw⟩
    have hj' : j < l.length := by omega
    rw [List.drop_eq_getElem_cons hj', List.take_succ_cons, List.take_zero] at hz
    rw [List.getElem?_eq_getElem hj']
    exact congrArg some (List.cons.inj hz).1
  clear hfl k hf
  match l, hl, ki, e8 with
  | [x0, x1, x2, x3, x4, x5, x6, x7, x8, x9], _, ki, e8 =>
    obtain ⟨z0, h0, i0⟩ := ki 0 (by omega)
    obtain ⟨z1, h1, i1⟩ := ki 1 (by omega)
    obtain ⟨z2, h2, i2⟩ := ki 2 (by omega)
    obtain ⟨z3, h3, i3⟩ := ki 3 (by omega)
    obtain ⟨z4, h4, i4⟩ := ki 4 (by omega)
    obtain ⟨z5, h5, i5⟩ := ki 5 (by omega)
    obtain ⟨z6, h6, i6⟩ := ki 6 (by omega)
    obtain ⟨z7, h7, i7⟩ := ki 7 (by omega)
    obtain rfl : x0 = .int .i64 z0 := Option.some.inj h0
    obtain rfl : x1 = .int .i64 z1 := Option.some.inj h1
    obtain rfl : x2 = .int .i64 z2 := Option.some.inj h2
    obtain rfl : x3 = .int .i64 z3 := Option.some.inj h3
    obtain rfl : x4 = .int .i64 z4 := Option.some.inj h4
    obtain rfl : x5 = .int .i64 z5 := Option.some.inj h5
    obtain rfl : x6 = .int .i64 z6 := Option.some.inj h6
    obtain rfl : x7 = .int .i64 z7 := Option.some.inj h7
    have e8' : DataW.trod enc Tryz.prog W 0 (fun _ => true) true m 25 [x8, x9] = some xs[8] := e8
    obtain ⟨y0, y1, n, _, _, g0, g1⟩ := trod_struct2 Tryz.underlying25 e8'
    dsimp only at g0 g1
    rw [cellsI] at g0
    rw [cellsRules] at g1
    obtain ⟨wk, hx, _, hw⟩ := DataW.trod_int Tryz.underlying3 g0
    obtain rfl : x8 = .int .i64 wk := (List.cons.inj hx).1
    obtain ⟨p, len, cap, rfl, a, b, c⟩ := rules_source (v := x9) g1
    exact ⟨⟨z0, z1, z2, z3, z4, z5, z6, z7⟩, wk, p, len, cap, rfl, ⟨i0, i1, i2, i3, i4, i5, i6, i7⟩, i64_of_wf hw, a, b, c⟩
set_option maxRecDepth 100000 in
theorem leg_source {H : Type} {enc : TypeId × Value → H} {W : World} {base : Nat} {u : Value} {d : DataW H} {ps : List MemPlace} (hval : Value.okWide Tryz.prog W .any base 29 u) (h : DataW.Trod enc Tryz.prog W 0 (fun _ => true) true 29 u d ps) :
    ∃ (g : LegJ) (p : Option Addr) (len cap : Nat), u = .agg #[.int .i64 g.kind, .int .i64 g.count, .int .i64 g.cur, .float .f64 g.n, .float .f64 g.r, .int .i64 g.s.st, .int .i64 g.s.en, .int .i64 g.s.n, .int .i64 g.s.unit, .int .i64 g.s.stub, .int .i64 g.s.roll, .int .i64 g.s.conv, .int .i64 g.s.lag, .int .i64 g.W, .slice p len cap] ∧ g.n < 18446744073709551616 ∧ g.r < 18446744073709551616 ∧ SpcI g.s ∧ len ≤ cap ∧ cap ≤ maxLen ∧ ∃ b off rs, rs.length = len ∧ RSrc W p b off rs ∧ ∀ r ∈ rs, RulI r := by
  obtain ⟨cs, rfl, hcs⟩ := okWide_struct Tryz.underlying29 hval
  obtain ⟨fuel, hf⟩ := h
  obtain ⟨xs, m, _, _, hl, hlen, hfl⟩ := DataW.trod_struct Tryz.underlying29 hf
  rw [cellsLeg] at hl
  have hlen6 : xs.length = 6 := hlen
  obtain ⟨l⟩ := cs
  have e : (Value.agg ⟨l⟩).cells.toList = l := rfl
  rw [e] at hl hfl
  have e0 : DataW.trod enc Tryz.prog W 0 (fun _ => true) true m 3 ((l.drop 0).take (Tryz.prog.cellsOf 3)) = xs[0]? := hfl 0 _ rfl
  have e1 : DataW.trod enc Tryz.prog W 0 (fun _ => true) true m 3 ((l.drop 1).take (Tryz.prog.cellsOf 3)) = xs[1]? := hfl 1 _ rfl
  have e2 : DataW.trod enc Tryz.prog W 0 (fun _ => true) true m 3 ((l.drop 2).take (Tryz.prog.cellsOf 3)) = xs[2]? := hfl 2 _ rfl
  have e3 : DataW.trod enc Tryz.prog W 0 (fun _ => true) true m 22 ((l.drop 3).take (Tryz.prog.cellsOf 22)) = xs[3]? := hfl 3 _ rfl
  have e4 : DataW.trod enc Tryz.prog W 0 (fun _ => true) true m 22 ((l.drop 4).take (Tryz.prog.cellsOf 22)) = xs[4]? := hfl 4 _ rfl
  have e5 : DataW.trod enc Tryz.prog W 0 (fun _ => true) true m 27 ((l.drop 5).take (Tryz.prog.cellsOf 27)) = xs[5]? := hfl 5 _ rfl
  rw [flwCellsI, List.getElem?_eq_getElem (by omega)] at e0 e1 e2
  rw [flwCellsF, List.getElem?_eq_getElem (by omega)] at e3 e4
  rw [cellsSpec, List.getElem?_eq_getElem (by omega)] at e5
  clear hfl hcs hf hval e
  match l, hl, e0, e1, e2, e3, e4, e5 with
  | [x0, x1, x2, x3, x4, x5, x6, x7, x8, x9, x10, x11, x12, x13, x14], _, e0, e1, e2, e3, e4, e5 =>
    have e0' : DataW.trod enc Tryz.prog W 0 (fun _ => true) true m 3 [x0] = some xs[0] := e0
    have e1' : DataW.trod enc Tryz.prog W 0 (fun _ => true) true m 3 [x1] = some xs[1] := e1
    have e2' : DataW.trod enc Tryz.prog W 0 (fun _ => true) true m 3 [x2] = some xs[2] := e2
    have e3' : DataW.trod enc Tryz.prog W 0 (fun _ => true) true m 22 [x3] = some xs[3] := e3
    have e4' : DataW.trod enc Tryz.prog W 0 (fun _ => true) true m 22 [x4] = some xs[4] := e4
    have e5' : DataW.trod enc Tryz.prog W 0 (fun _ => true) true m 27 [x5, x6, x7, x8, x9, x10, x11, x12, x13, x14] = some xs[5] := e5
    obtain ⟨a0, h0, _, _⟩ := DataW.trod_int Tryz.underlying3 e0'
    obtain ⟨a1, h1, _, _⟩ := DataW.trod_int Tryz.underlying3 e1'
    obtain ⟨a2, h2, _, _⟩ := DataW.trod_int Tryz.underlying3 e2'
    obtain ⟨a3, h3, l3⟩ := flw_f64 Tryz.underlying22 e3'
    obtain ⟨a4, h4, l4⟩ := flw_f64 Tryz.underlying22 e4'
    obtain ⟨s, wk, p, len, cap, h5, hI, _, b1, b2, b3⟩ := spec_cells e5'
    obtain rfl : x0 = .int .i64 a0 := (List.cons.inj h0).1
    obtain rfl : x1 = .int .i64 a1 := (List.cons.inj h1).1
    obtain rfl : x2 = .int .i64 a2 := (List.cons.inj h2).1
    subst h3 h4
    simp only [List.cons.injEq, and_true] at h5
    obtain ⟨rfl, rfl, rfl, rfl, rfl, rfl, rfl, rfl, rfl, rfl⟩ := h5
    exact ⟨⟨a0, a1, a2, a3, a4, s, wk⟩, p, len, cap, rfl, l3, l4, hI, b1, b2, b3⟩
end Go.Proofs.YtpcgbcdldkmibaaGreat
