/- The contract of the document's Plus. The contract of the document's Plus, of two signs. -/
import Derived.Test.YtcbbbkngjdlcjaaHak
namespace Go.Proofs.Ytcbbbkngjdlcjaa
open Go.RowKit

abbrev pbox (w : World) (nx : Bool) (vx : Value) (ex : Int) (ny : Bool) (vy : Value) (ey : Int) : World := boxN (boxN (boxN w nx vx ex) ny vy ey) false (.slice none 0 0) 0
theorem pbox_size (w : World) (nx : Bool) (vx : Value) (ex : Int) (ny : Bool) (vy : Value) (ey : Int) : (pbox w nx vx ex ny vy ey).heap.size = w.heap.size + 3 := by simp
theorem pbox_below (w : World) (nx : Bool) (vx : Value) (ex : Int) (ny : Bool) (vy : Value) (ey : Int) : Below w.heap.size w (pbox w nx vx ex ny vy ey) :=
  ((boxN_below w nx vx ex).trans ((boxN_below (boxN w nx vx ex) ny vy ey).mono (by simp))).trans ((boxN_below _ _ _ _).mono (by rw [box2_size]; omega))
theorem pbox_six (w : World) (nx : Bool) (vx : Value) (ex : Int) (ny : Bool) (vy : Value) (ey : Int) : Six (pbox w nx vx ex ny vy ey) w.heap.size nx vx ex ny vy ey :=
  (six_box w nx vx ex ny vy ey).below (boxN_below _ _ _ _) (by rw [box2_size]; omega)
theorem From.mono {A B : Nat} {v : Value} (h : From B v) (hle : A ≤ B) : From A v := fun a l c e => Nat.le_trans hle (h a l c e)

theorem box_own (w : World) (n : Bool) (v : Value) (e : Int) :
    ((boxN w n v e).cell? ⟨w.heap.size, 0, none⟩ = some (.bool n) ∧ (boxN w n v e).cell? ⟨w.heap.size, 1, none⟩ = some v ∧ (boxN w n v e).cell? ⟨w.heap.size, 2, none⟩ = some (.int .i64 e)) ∧
    ((boxN w n v e).frozen? ⟨w.heap.size, 0, none⟩ = false ∧ (boxN w n v e).frozen? ⟨w.heap.size, 1, none⟩ = false ∧ (boxN w n v e).frozen? ⟨w.heap.size, 2, none⟩ = false) := by
  refine ⟨⟨?_, ?_, ?_⟩, ?_, ?_, ?_⟩ <;> first | exact World.frozen?_alloc_new _ _ _ _ | simp
/-- The result's three cells. -/
theorem pbox_res {w w' : World} {nx ny : Bool} {vx vy : Value} {ex ey : Int} (hb : Below (w.heap.size + 3) (pbox w nx vx ex ny vy ey) w') :
    (w'.cell? ⟨w.heap.size + 1 + 1, 0, none⟩ = some (.bool false) ∧ w'.cell? ⟨w.heap.size + 1 + 1, 1, none⟩ = some (.slice none 0 0) ∧ w'.cell? ⟨w.heap.size + 1 + 1, 2, none⟩ = some (.int .i64 0)) ∧
    (w'.frozen? ⟨w.heap.size + 1 + 1, 0, none⟩ = false ∧ w'.frozen? ⟨w.heap.size + 1 + 1, 1, none⟩ = false ∧ w'.frozen? ⟨w.heap.size + 1 + 1, 2, none⟩ = false) := by
  have hs : w.heap.size + 1 + 1 < w.heap.size + 3 := by omega
  have h := box_own (boxN (boxN w nx vx ex) ny vy ey) false (.slice none 0 0) 0
  rw [box2_size] at h
  obtain ⟨⟨a, b, c⟩, d, e, f⟩ := h
  exact ⟨⟨(hb.cell (p := ⟨w.heap.size + 1 + 1, 0, none⟩) hs).trans a, (hb.cell (p := ⟨w.heap.size + 1 + 1, 1, none⟩) hs).trans b, (hb.cell (p := ⟨w.heap.size + 1 + 1, 2, none⟩) hs).trans c⟩,
    (hb.frozen (p := ⟨w.heap.size + 1 + 1, 0, none⟩) hs).trans d, (hb.frozen (p := ⟨w.heap.size + 1 + 1, 1, none⟩) hs).trans e, (hb.frozen (p := ⟨w.heap.size + 1 + 1, 2, none⟩) hs).trans f⟩

/-- What Plus leaves. -/
def PlusEnd (w : World) (E S : Int) (x : Ending) (w' : World) : Prop :=
  ∃ neg' v' N' E', x = .returned (.agg #[.bool neg', v', .int .i64 E']) ∧ DN w' v' N' ∧ From w.heap.size v' ∧ sg neg' N' = S ∧ (E' = E ∨ (E' = 0 ∧ N' = 0)) ∧ Below w.heap.size w w'

theorem plus_tail {w w4 : World} {nx ny neg : Bool} {vx vy v : Value} {ex ey E S : Int} {N : Nat} (hb : Below (w.heap.size + 3) (pbox w nx vx ex ny vy ey) w4) (hd : DN w4 v N) (hf : From (w.heap.size + 3) v) (hs : sg neg N = S) :
    PlusEnd w E S (.returned (.agg #[.bool neg, v, .int .i64 E])) (((w4.setCell ⟨w.heap.size + 1 + 1, 0, none⟩ (.bool neg)).setCell ⟨w.heap.size + 1 + 1, 1, none⟩ v).setCell ⟨w.heap.size + 1 + 1, 2, none⟩ (.int .i64 E)) := by
  refine ⟨neg, v, N, E, rfl, ((hd.set hf (a := ⟨w.heap.size + 1 + 1, 0, none⟩) (Nat.lt_succ_self _) _).set hf (a := ⟨w.heap.size + 1 + 1, 1, none⟩) (Nat.lt_succ_self _) _).set hf (a := ⟨w.heap.size + 1 + 1, 2, none⟩) (Nat.lt_succ_self _) _, hf.mono (by omega), hs, Or.inl rfl, ?_⟩
  have h9 : w.heap.size ≤ w.heap.size + 1 + 1 := by omega
  exact ((((pbox_below w nx vx ex ny vy ey).trans (hb.mono (by omega))).setCell h9 _).setCell h9 _).setCell h9 _

end Go.Proofs.Ytcbbbkngjdlcjaa
namespace Go.Proofs.Ytcbbbkngjdlcjaa
open Go.RowKit

theorem plus_none {w w4 : World} {nx ny : Bool} {vx vy : Value} {ex ey E S : Int} (hb : Below (w.heap.size + 3) (pbox w nx vx ex ny vy ey) w4) (hs : 0 = S) :
    PlusEnd w E S (.returned (.agg #[.bool false, .slice none 0 0, .int .i64 0])) (((w4.setCell ⟨w.heap.size + 1 + 1, 0, none⟩ (.bool false)).setCell ⟨w.heap.size + 1 + 1, 1, none⟩ (.slice none 0 0)).setCell ⟨w.heap.size + 1 + 1, 2, none⟩ (.int .i64 0)) := by
  refine ⟨false, .slice none 0 0, 0, 0, rfl, Or.inl ⟨rfl, _, _, rfl⟩, from_nil _, hs, Or.inr ⟨rfl, rfl⟩, ?_⟩
  have h9 : w.heap.size ≤ w.heap.size + 1 + 1 := by omega
  exact ((((pbox_below w nx vx ex ny vy ey).trans (hb.mono (by omega))).setCell h9 _).setCell h9 _).setCell h9 _

end Go.Proofs.Ytcbbbkngjdlcjaa
