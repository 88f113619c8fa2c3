/- A calendar that came in without rules. -/
import Derived.Test.YtglkhoekpafddaaFCal
namespace Go.Proofs.Ytglkhoekpafddaa
open Go.ChangeShapes Go.WideShapes Go.ChangeAt Go.RowKit

theorem cal_nil {H : Type} {enc : TypeId × Value → H} {W : World} {wk : Int} {len cap : Nat} {p : Option Addr} {d : DataW H} {ps : List MemPlace} (h : DataW.Trod enc Try.prog W 0 (fun _ => true) true 24 (.agg #[.int .i64 wk, .slice p len cap]) d ps) (hp : p = none) : len = 0 ∧ cap = 0 := by
  obtain ⟨fuel, hf⟩ := h
  obtain ⟨y0, y1, n, _, hl, h0, h1⟩ := trod_struct2 Try.underlying24 hf
  dsimp only at h0 h1
  rw [cellsRules] at h1
  have e : (Value.agg #[Value.int IntKind.i64 wk, Value.slice p len cap]).cells.toList = [Value.int IntKind.i64 wk, Value.slice p len cap] := rfl
  rw [e] at h1
  rcases Go.Deep.open_slice Try.underlying22 h1 with ⟨hcs, _⟩ | ⟨a, len', cap', m, n', D, Pl, hcs, _, _, _, _, _, _⟩
  · have := (List.cons.inj hcs).1
    cases this
    exact ⟨rfl, rfl⟩
  · have := (List.cons.inj hcs).1
    subst hp
    cases this
end Go.Proofs.Ytglkhoekpafddaa
