/- The contracts of the document's Sum and Dot. -/
import Derived.Test.YtjfldlllofjnbaaGreatRefAcc5
namespace Go.Proofs.YtjfldlllofjnbaaGreat
open Go.RowKit

/-- A sum of the document's in its box, between two rounds. -/
structure Held (w wr : World) (B : Nat) (a : A.St) (k : Nat) : Prop where
  ex : ∃ neg v M e, wr.heap[B]? = some (.cells #[.int .i64 (a.s : Int), .bool neg, v, .int .i64 e] 115 (0, 0)) ∧ DN wr v M ∧ From (B + 1) v ∧ DV a.s neg M e a.N k
  bl : Below w.heap.size w wr
  lo : w.heap.size ≤ B
  lt : B < wr.heap.size
theorem held_new (w : World) : Held w (boxA w 0 false (.slice none 0 0) 0) w.heap.size ⟨0, 0⟩ 0 :=
  ⟨⟨false, .slice none 0 0, 0, 0, heap_alloc_new w _, Or.inl ⟨rfl, _, _, rfl⟩, from_nil _, DV.zero (by decide) 0⟩, (Below.refl _ _).alloc (Nat.le_refl _) _, Nat.le_refl _, by simp⟩
/-- The box's cells. -/
structure Held4 (wr : World) (B : Nat) (s : Int) (neg : Bool) (v : Value) (e : Int) : Prop where
  c0 : wr.cell? ⟨B, 0, none⟩ = some (.int .i64 s)
  c1 : wr.cell? ⟨B, 1, none⟩ = some (.bool neg)
  c2 : wr.cell? ⟨B, 2, none⟩ = some v
  c3 : wr.cell? ⟨B, 3, none⟩ = some (.int .i64 e)
  f0 : wr.frozen? ⟨B, 0, none⟩ = false
  f1 : wr.frozen? ⟨B, 1, none⟩ = false
  f2 : wr.frozen? ⟨B, 2, none⟩ = false
  f3 : wr.frozen? ⟨B, 3, none⟩ = false
theorem held4_of {wr : World} {B : Nat} {s : Int} {neg : Bool} {v : Value} {e : Int} (hb : wr.heap[B]? = some (.cells #[.int .i64 s, .bool neg, v, .int .i64 e] 115 (0, 0))) : Held4 wr B s neg v e := by
  refine ⟨?_, ?_, ?_, ?_, ?_, ?_, ?_, ?_⟩
  · simp [World.cell?, hb]
  · simp [World.cell?, hb]
  · simp [World.cell?, hb]
  · simp [World.cell?, hb]
  · simp [World.frozen?, hb]
  · simp [World.frozen?, hb]
  · simp [World.frozen?, hb]
  · simp [World.frozen?, hb]
theorem put4_heap {w : World} {B : Nat} {s s' : Int} {neg neg' : Bool} {v v' : Value} {e e' : Int} (hb : w.heap[B]? = some (.cells #[.int .i64 s, .bool neg, v, .int .i64 e] 115 (0, 0))) : (put4 w B s' neg' v' e').heap[B]? = some (.cells #[.int .i64 s', .bool neg', v', .int .i64 e'] 115 (0, 0)) := by
  have h1 := heap_setCell_same w B 0 _ _ (.int .i64 s') hb
  have h2 := heap_setCell_same _ B 1 _ _ (.bool neg') h1
  have h3 := heap_setCell_same _ B 2 _ _ v' h2
  have h4 := heap_setCell_same _ B 3 _ _ (.int .i64 e') h3
  rw [h4]; rfl
/-- Behind a round. -/
theorem held_put {w wr w1 : World} {B k : Nat} {s : Int} {neg : Bool} {v : Value} {M : Nat} {e : Int} {a : A.St} {r : Ending} (hb : wr.heap[B]? = some (.cells #[.int .i64 s, .bool neg, v, .int .i64 e] 115 (0, 0))) (hv : From (B + 1) v) (hbl : Below w.heap.size w wr) (hlo : w.heap.size ≤ B) (hlt : B < wr.heap.size) (h : AddEnd wr v M a k r w1) :
    ∃ neg' p l c e', r = .returned (AV (a.s : Int) neg' (.slice p l c) e') ∧ Held4 w1 B s neg v e ∧ Held w (put4 w1 B (a.s : Int) neg' (.slice p l c) e') B a k := by
  obtain ⟨neg', v', M', e', rfl, hd, hn, hdv, hb1⟩ := h
  obtain ⟨p, l, c, rfl⟩ := hd.shape
  have hb' : w1.heap[B]? = some (.cells #[.int .i64 s, .bool neg, v, .int .i64 e] 115 (0, 0)) := by rw [hb1.block B hlt]; exact hb
  have hf : From (B + 1) (.slice p l c) := by
    rcases hn with ⟨hn, _⟩ | hn
    · rw [hn]; exact hv
    · exact from_mono' hn hlt
  have hbw : Below w.heap.size w w1 := hbl.trans (hb1.mono hbl.size)
  refine ⟨neg', p, l, c, e', rfl, held4_of hb', ⟨neg', _, M', e', put4_heap hb', put4_dn hd hf (by omega), hf, hdv⟩, put4_below hbw hlo, hlo, ?_⟩
  have := hb1.size
  simp
  omega

theorem st_eta (a : A.St) : (⟨a.s, a.N⟩ : A.St) = a := rfl

end Go.Proofs.YtjfldlllofjnbaaGreat
