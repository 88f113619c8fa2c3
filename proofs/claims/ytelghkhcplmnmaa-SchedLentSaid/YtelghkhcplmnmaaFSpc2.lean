/- A schedule that came in without rules. -/
import Derived.Test.YtelghkhcplmnmaaFSpc
namespace Go.Proofs.Ytelghkhcplmnmaa
open Go.ChangeShapes Go.WideShapes Go.ChangeAt Go.RowKit

set_option maxRecDepth 100000 in
theorem spc_nil {H : Type} {enc : TypeId × Value → H} {W : World} {s : Spc} {wk : Int} {len cap : Nat} {p : Option Addr} {d : DataW H} {ps : List MemPlace} (h : DataW.Trod enc Try.prog W 0 (fun _ => true) true 26 (.agg #[.int .i64 s.st, .int .i64 s.en, .int .i64 s.n, .int .i64 s.unit, .int .i64 s.stub, .int .i64 s.roll, .int .i64 s.conv, .int .i64 s.lag, .int .i64 wk, .slice p len cap]) d ps) (hp : p = none) : len = 0 ∧ cap = 0 := by
  obtain ⟨fuel, hf⟩ := h
  obtain ⟨xs, m, _, _, hl, hlen, hfl⟩ := DataW.trod_struct Try.underlying26 hf
  have hlen9 : xs.length = 9 := hlen
  have e8 : DataW.trod enc Try.prog W 0 (fun _ => true) true m 24 (((Value.agg #[.int .i64 s.st, .int .i64 s.en, .int .i64 s.n, .int .i64 s.unit, .int .i64 s.stub, .int .i64 s.roll, .int .i64 s.conv, .int .i64 s.lag, .int .i64 wk, .slice p len cap]).cells.toList.drop 8).take (Try.prog.cellsOf 24)) = xs[8]? := hfl 8 _ rfl
  rw [cellsCal, List.getElem?_eq_getElem (by omega)] at e8
  have e8' : DataW.trod enc Try.prog W 0 (fun _ => true) true m 24 [.int .i64 wk, .slice p len cap] = some xs[8] := e8
  obtain ⟨y0, y1, n, _, _, g0, g1⟩ := trod_struct2 Try.underlying24 e8'
  dsimp only at g1
  rw [cellsRules] at g1
  have g1' : DataW.trod enc Try.prog W 0 (fun _ => true) true n 22 [.slice p len cap] = some y1 := g1
  rcases Go.Deep.open_slice Try.underlying22 g1' with ⟨hcs, _⟩ | ⟨a, len', cap', m', n', D, Pl, hcs, _, _, _, _, _, _⟩
  · have := (List.cons.inj hcs).1
    cases this
    exact ⟨rfl, rfl⟩
  · have := (List.cons.inj hcs).1
    subst hp
    cases this
end Go.Proofs.Ytelghkhcplmnmaa
