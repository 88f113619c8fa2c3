/- Sums of the document's: what they are worth; the contract of inf. -/
import Derived.Test.YtjfldlllofjnbaaGreatHap
import Derived.Test.YtjfldlllofjnbaaGreatAccN
namespace Go.Proofs.YtjfldlllofjnbaaGreat
open Go.RowKit

/-- A sum of the document's as a value. -/
abbrev AV (s : Int) (neg : Bool) (v : Value) (e : Int) : Value := .agg #[.int .i64 s, .bool neg, v, .int .i64 e]
abbrev boxA (w : World) (s : Int) (neg : Bool) (v : Value) (e : Int) : World := w.alloc (.cells #[.int .i64 s, .bool neg, v, .int .i64 e] 115)
abbrev boxA2 (w : World) (s : Int) (neg : Bool) (v : Value) (e : Int) : World := boxA (boxA w s neg v e) 0 false (.slice none 0 0) 0
theorem boxA2_size (w : World) (s : Int) (neg : Bool) (v : Value) (e : Int) : (boxA2 w s neg v e).heap.size = w.heap.size + 2 := by simp
theorem boxA2_below (w : World) (s : Int) (neg : Bool) (v : Value) (e : Int) : Below w.heap.size w (boxA2 w s neg v e) :=
  ((Below.refl _ _).alloc (Nat.le_refl _) _).trans (((Below.refl _ _).alloc (Nat.le_refl _) _).mono (by simp))
/-- The eight cells of two boxes. -/
structure Cells8 (w' w : World) (s : Int) (neg : Bool) (v : Value) (e : Int) : Prop where
  c0 : w'.cell? ⟨w.heap.size, 0, none⟩ = some (.int .i64 s)
  c1 : w'.cell? ⟨w.heap.size, 1, none⟩ = some (.bool neg)
  c2 : w'.cell? ⟨w.heap.size, 2, none⟩ = some v
  c3 : w'.cell? ⟨w.heap.size, 3, none⟩ = some (.int .i64 e)
  d0 : w'.cell? ⟨w.heap.size + 1, 0, none⟩ = some (.int .i64 0)
  d1 : w'.cell? ⟨w.heap.size + 1, 1, none⟩ = some (.bool false)
  d2 : w'.cell? ⟨w.heap.size + 1, 2, none⟩ = some (.slice none 0 0)
  d3 : w'.cell? ⟨w.heap.size + 1, 3, none⟩ = some (.int .i64 0)
  f0 : w'.frozen? ⟨w.heap.size + 1, 0, none⟩ = false
  f1 : w'.frozen? ⟨w.heap.size + 1, 1, none⟩ = false
  f2 : w'.frozen? ⟨w.heap.size + 1, 2, none⟩ = false
  f3 : w'.frozen? ⟨w.heap.size + 1, 3, none⟩ = false
theorem cells8_at (w : World) (s : Int) (neg : Bool) (v : Value) (e : Int) : Cells8 (boxA2 w s neg v e) w s neg v e := by
  have hb : Below (boxA w s neg v e).heap.size (boxA w s neg v e) (boxA2 w s neg v e) := (Below.refl _ _).alloc (Nat.le_refl _) _
  have hs : w.heap.size < (boxA w s neg v e).heap.size := by simp
  have e1 : w.heap.size + 1 = (boxA w s neg v e).heap.size := by simp
  refine ⟨?_, ?_, ?_, ?_, ?_, ?_, ?_, ?_, ?_, ?_, ?_, ?_⟩
  · rw [hb.cell (p := ⟨w.heap.size, 0, none⟩) hs]; simp
  · rw [hb.cell (p := ⟨w.heap.size, 1, none⟩) hs]; simp
  · rw [hb.cell (p := ⟨w.heap.size, 2, none⟩) hs]; simp
  · rw [hb.cell (p := ⟨w.heap.size, 3, none⟩) hs]; simp
  · rw [e1]; simp
  · rw [e1]; simp
  · rw [e1]; simp
  · rw [e1]; simp
  · rw [e1]; exact World.frozen?_alloc_new _ _ _ _
  · rw [e1]; exact World.frozen?_alloc_new _ _ _ _
  · rw [e1]; exact World.frozen?_alloc_new _ _ _ _
  · rw [e1]; exact World.frozen?_alloc_new _ _ _ _
theorem Cells8.below {w1 w2 w : World} {s : Int} {neg : Bool} {v : Value} {e : Int} {b : Nat} (h : Cells8 w1 w s neg v e) (hb : Below b w1 w2) (hs : w.heap.size + 1 < b) : Cells8 w2 w s neg v e := by
  have h0 : w.heap.size < b := by omega
  exact ⟨(hb.cell (p := ⟨w.heap.size, 0, none⟩) h0).trans h.c0, (hb.cell (p := ⟨w.heap.size, 1, none⟩) h0).trans h.c1, (hb.cell (p := ⟨w.heap.size, 2, none⟩) h0).trans h.c2, (hb.cell (p := ⟨w.heap.size, 3, none⟩) h0).trans h.c3,
    (hb.cell (p := ⟨w.heap.size + 1, 0, none⟩) hs).trans h.d0, (hb.cell (p := ⟨w.heap.size + 1, 1, none⟩) hs).trans h.d1, (hb.cell (p := ⟨w.heap.size + 1, 2, none⟩) hs).trans h.d2, (hb.cell (p := ⟨w.heap.size + 1, 3, none⟩) hs).trans h.d3,
    (hb.frozen (p := ⟨w.heap.size + 1, 0, none⟩) hs).trans h.f0, (hb.frozen (p := ⟨w.heap.size + 1, 1, none⟩) hs).trans h.f1, (hb.frozen (p := ⟨w.heap.size + 1, 2, none⟩) hs).trans h.f2, (hb.frozen (p := ⟨w.heap.size + 1, 3, none⟩) hs).trans h.f3⟩
/-- The four cells of the result written. -/
abbrev put4 (w : World) (b : Nat) (s : Int) (neg : Bool) (v : Value) (e : Int) : World :=
  (((w.setCell ⟨b, 0, none⟩ (.int .i64 s)).setCell ⟨b, 1, none⟩ (.bool neg)).setCell ⟨b, 2, none⟩ v).setCell ⟨b, 3, none⟩ (.int .i64 e)
theorem put4_below {w w1 : World} {B b : Nat} {s : Int} {neg : Bool} {v : Value} {e : Int} (h : Below B w w1) (hb : B ≤ b) : Below B w (put4 w1 b s neg v e) :=
  (((h.setCell (p := ⟨b, 0, none⟩) hb _).setCell (p := ⟨b, 1, none⟩) hb _).setCell (p := ⟨b, 2, none⟩) hb _).setCell (p := ⟨b, 3, none⟩) hb _
theorem put4_dn {w : World} {b B M : Nat} {s : Int} {neg : Bool} {v u : Value} {e : Int} (h : DN w u M) (hf : From B u) (hb : b < B) : DN (put4 w b s neg v e) u M :=
  (((h.set hf (a := ⟨b, 0, none⟩) hb _).set hf (a := ⟨b, 1, none⟩) hb _).set hf (a := ⟨b, 2, none⟩) hb _).set hf (a := ⟨b, 3, none⟩) hb _

theorem mt_inf (s : Nat) (t : Nat) (hs : s ≤ 3) (ht : t = 1 ∨ t = 2) : A.mt s t = if s = 0 ∨ s = t then t else 3 := by
  unfold A.mt
  rcases ht with rfl | rfl
  all_goals rcases (show s = 0 ∨ s = 1 ∨ s = 2 ∨ s = 3 by omega) with rfl | rfl | rfl | rfl <;> decide

set_option maxHeartbeats 1600000 in
theorem refInfS (s : Nat) (neg b : Bool) (v : Value) (e : Int) (w : World) (hs : s ≤ 3) :
    Calls Tryz.prog 100 #[AV (s : Int) neg v e, .bool b] w fun x w' => x = .returned (AV (A.mt s (if b then 2 else 1) : Nat) false (.slice none 0 0) 0) ∧ Below w.heap.size w w' := by
  cases b
  all_goals
    rcases (show s = 0 ∨ s = 1 ∨ s = 2 ∨ s = 3 by omega) with rfl | rfl | rfl | rfl
    all_goals
      go_enter Tryz.func100, Tryz.ntmps100
      go_wp2_with fail
      refine bodyPost_ret (v := .agg #[.int .i64 _, .bool false, .slice none 0 0, .int .i64 0]) (by simp [results, Tryz.results100, go_sem]; rfl) rfl ⟨rfl, ?_⟩
      exact ((Below.refl _ _).alloc (Nat.le_refl _) _).trans (((Below.refl _ _).alloc (Nat.le_refl _) _).mono (by simp))
end Go.Proofs.YtjfldlllofjnbaaGreat
