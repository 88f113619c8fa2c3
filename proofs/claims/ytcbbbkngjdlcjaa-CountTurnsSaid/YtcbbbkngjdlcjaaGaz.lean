/- The contracts of both, low and Plus of the document. The contract of the document's Plus. -/
import Derived.Test.YtcbbbkngjdlcjaaGay
import Derived.Test.YtcbbbkngjdlcjaaGaw
namespace Go.Proofs.Ytcbbbkngjdlcjaa
open Go.RowKit

/-- The lesser exponent of two. -/
def bothE (X : Nat) (ex : Int) (Y : Nat) (ey : Int) : Int := if X = 0 then ey else if Y = 0 then ex else min ex ey
/-- A number with its sign. -/
def sg (neg : Bool) (N : Nat) : Int := if neg then -(N : Int) else (N : Int)

abbrev boxN (w : World) (n : Bool) (v : Value) (e : Int) : World := w.alloc (.cells #[.bool n, v, .int .i64 e] 50)
theorem boxN_below (w : World) (n : Bool) (v : Value) (e : Int) : Below w.heap.size w (boxN w n v e) := (Below.refl _ _).alloc (Nat.le_refl _) _

/-- Two boxes' six cells. -/
def Six (w : World) (B : Nat) (nx : Bool) (vx : Value) (ex : Int) (ny : Bool) (vy : Value) (ey : Int) : Prop :=
  w.cell? ⟨B, 0, none⟩ = some (.bool nx) ∧ w.cell? ⟨B, 1, none⟩ = some vx ∧ w.cell? ⟨B, 2, none⟩ = some (.int .i64 ex) ∧
  w.cell? ⟨B + 1, 0, none⟩ = some (.bool ny) ∧ w.cell? ⟨B + 1, 1, none⟩ = some vy ∧ w.cell? ⟨B + 1, 2, none⟩ = some (.int .i64 ey)
theorem six_box (w : World) (nx : Bool) (vx : Value) (ex : Int) (ny : Bool) (vy : Value) (ey : Int) : Six (boxN (boxN w nx vx ex) ny vy ey) w.heap.size nx vx ex ny vy ey := by
  have hb := boxN_below (boxN w nx vx ex) ny vy ey
  have hs : w.heap.size < (boxN w nx vx ex).heap.size := by simp
  refine ⟨?_, ?_, ?_, ?_, ?_, ?_⟩
  · rw [hb.cell (p := ⟨w.heap.size, 0, none⟩) hs]; simp
  · rw [hb.cell (p := ⟨w.heap.size, 1, none⟩) hs]; simp
  · rw [hb.cell (p := ⟨w.heap.size, 2, none⟩) hs]; simp
  · have e : w.heap.size + 1 = (boxN w nx vx ex).heap.size := by simp
    rw [e]; simp
  · have e : w.heap.size + 1 = (boxN w nx vx ex).heap.size := by simp
    rw [e]; simp
  · have e : w.heap.size + 1 = (boxN w nx vx ex).heap.size := by simp
    rw [e]; simp
theorem Six.below {w w' : World} {B : Nat} {nx ny : Bool} {vx vy : Value} {ex ey : Int} {s : Nat} (h : Six w B nx vx ex ny vy ey) (hb : Below s w w') (hs : B + 1 < s) : Six w' B nx vx ex ny vy ey := by
  obtain ⟨a, b, c, d, e, f⟩ := h
  exact ⟨(hb.cell (p := ⟨B, 0, none⟩) (by show B < s; omega)).trans a, (hb.cell (p := ⟨B, 1, none⟩) (by show B < s; omega)).trans b, (hb.cell (p := ⟨B, 2, none⟩) (by show B < s; omega)).trans c, (hb.cell (p := ⟨B + 1, 0, none⟩) hs).trans d, (hb.cell (p := ⟨B + 1, 1, none⟩) hs).trans e, (hb.cell (p := ⟨B + 1, 2, none⟩) hs).trans f⟩
theorem box2_size (w : World) (nx : Bool) (vx : Value) (ex : Int) (ny : Bool) (vy : Value) (ey : Int) : (boxN (boxN w nx vx ex) ny vy ey).heap.size = w.heap.size + 2 := by simp

end Go.Proofs.Ytcbbbkngjdlcjaa
namespace Go.Proofs.Ytcbbbkngjdlcjaa
open Go.RowKit

abbrev pbox (w : World) (nx : Bool) (vx : Value) (ex : Int) (ny : Bool) (vy : Value) (ey : Int) : World := boxN (boxN (boxN w nx vx ex) ny vy ey) false (.slice none 0 0) 0
theorem pbox_size (w : World) (nx : Bool) (vx : Value) (ex : Int) (ny : Bool) (vy : Value) (ey : Int) : (pbox w nx vx ex ny vy ey).heap.size = w.heap.size + 3 := by simp
theorem pbox_below (w : World) (nx : Bool) (vx : Value) (ex : Int) (ny : Bool) (vy : Value) (ey : Int) : Below w.heap.size w (pbox w nx vx ex ny vy ey) :=
  ((boxN_below w nx vx ex).trans ((boxN_below (boxN w nx vx ex) ny vy ey).mono (by simp))).trans ((boxN_below _ _ _ _).mono (by rw [box2_size]; omega))
theorem pbox_six (w : World) (nx : Bool) (vx : Value) (ex : Int) (ny : Bool) (vy : Value) (ey : Int) : Six (pbox w nx vx ex ny vy ey) w.heap.size nx vx ex ny vy ey :=
  (six_box w nx vx ex ny vy ey).below (boxN_below _ _ _ _) (by rw [box2_size]; omega)
theorem From.mono {A B : Nat} {v : Value} (h : From B v) (hle : A ≤ B) : From A v := fun a l c e => Nat.le_trans hle (h a l c e)

theorem box_own (w : World) (n : Bool) (v : Value) (e : Int) :
    ((boxN w n v e).cell? ⟨w.heap.size, 0, none⟩ = some (.bool n) ∧ (boxN w n v e).cell? ⟨w.heap.size, 1, none⟩ = some v ∧ (boxN w n v e).cell? ⟨w.heap.size, 2, none⟩ = some (.int .i64 e)) ∧
    ((boxN w n v e).frozen? ⟨w.heap.size, 0, none⟩ = false ∧ (boxN w n v e).frozen? ⟨w.heap.size, 1, none⟩ = false ∧ (boxN w n v e).frozen? ⟨w.heap.size, 2, none⟩ = false) := by
  refine ⟨⟨?_, ?_, ?_⟩, ?_, ?_, ?_⟩ <;> first | exact World.frozen?_alloc_new _ _ _ _ | simp
/-- The result's three cells. -/
theorem pbox_res {w w' : World} {nx ny : Bool} {vx vy : Value} {ex ey : Int} (hb : Below (w.heap.size + 3) (pbox w nx vx ex ny vy ey) w') :
    (w'.cell? ⟨w.heap.size + 1 + 1, 0, none⟩ = some (.bool false) ∧ w'.cell? ⟨w.heap.size + 1 + 1, 1, none⟩ = some (.slice none 0 0) ∧ w'.cell? ⟨w.heap.size + 1 + 1, 2, none⟩ = some (.int .i64 0)) ∧
    (w'.frozen? ⟨w.heap.size + 1 + 1, 0, none⟩ = false ∧ w'.frozen? ⟨w.heap.size + 1 + 1, 1, none⟩ = false ∧ w'.frozen? ⟨w.heap.size + 1 + 1, 2, none⟩ = false) := by
  have hs : w.heap.size + 1 + 1 < w.heap.size + 3 := by omega
  have h := box_own (boxN (boxN w nx vx ex) ny vy ey) false (.slice none 0 0) 0
  rw [box2_size] at h
  obtain ⟨⟨a, b, c⟩, d, e, f⟩ := h
  exact ⟨⟨(hb.cell (p := ⟨w.heap.size + 1 + 1, 0, none⟩) hs).trans a, (hb.cell (p := ⟨w.heap.size + 1 + 1, 1, none⟩) hs).trans b, (hb.cell (p := ⟨w.heap.size + 1 + 1, 2, none⟩) hs).trans c⟩,
    (hb.frozen (p := ⟨w.heap.size + 1 + 1, 0, none⟩) hs).trans d, (hb.frozen (p := ⟨w.heap.size + 1 + 1, 1, none⟩) hs).trans e, (hb.frozen (p := ⟨w.heap.size + 1 + 1, 2, none⟩) hs).trans f⟩

/-- What Plus leaves. -/
def PlusEnd (w : World) (E S : Int) (x : Ending) (w' : World) : Prop :=
  ∃ neg' v' N' E', x = .returned (.agg #[.bool neg', v', .int .i64 E']) ∧ DN w' v' N' ∧ From w.heap.size v' ∧ sg neg' N' = S ∧ (E' = E ∨ (E' = 0 ∧ N' = 0)) ∧ Below w.heap.size w w'

theorem plus_tail {w w4 : World} {nx ny neg : Bool} {vx vy v : Value} {ex ey E S : Int} {N : Nat} (hb : Below (w.heap.size + 3) (pbox w nx vx ex ny vy ey) w4) (hd : DN w4 v N) (hf : From (w.heap.size + 3) v) (hs : sg neg N = S) :
    PlusEnd w E S (.returned (.agg #[.bool neg, v, .int .i64 E])) (((w4.setCell ⟨w.heap.size + 1 + 1, 0, none⟩ (.bool neg)).setCell ⟨w.heap.size + 1 + 1, 1, none⟩ v).setCell ⟨w.heap.size + 1 + 1, 2, none⟩ (.int .i64 E)) := by
  refine ⟨neg, v, N, E, rfl, ((hd.set hf (a := ⟨w.heap.size + 1 + 1, 0, none⟩) (Nat.lt_succ_self _) _).set hf (a := ⟨w.heap.size + 1 + 1, 1, none⟩) (Nat.lt_succ_self _) _).set hf (a := ⟨w.heap.size + 1 + 1, 2, none⟩) (Nat.lt_succ_self _) _, hf.mono (by omega), hs, Or.inl rfl, ?_⟩
  have h9 : w.heap.size ≤ w.heap.size + 1 + 1 := by omega
  exact ((((pbox_below w nx vx ex ny vy ey).trans (hb.mono (by omega))).setCell h9 _).setCell h9 _).setCell h9 _

end Go.Proofs.Ytcbbbkngjdlcjaa
