/- The almanac in memory. -/
import Derived.Test.YtglkhoekpafddaaQIn
import Derived.Test.YtglkhoekpafddaaQCheck
import Derived.Deep.OwnRows
namespace Go.Proofs.Ytglkhoekpafddaa
open Go.RowKit

def almF (W : Int) (v : Value) (f l : Int) (m : Value) : Nat → Value
  | 0 => .int .i64 W
  | 1 => v
  | 2 => .int .i64 f
  | 3 => .int .i64 l
  | _ => m
theorem five {i : Nat} (h : i < 5) : i = 0 ∨ i = 1 ∨ i = 2 ∨ i = 3 ∨ i = 4 := by omega
/-- The almanac's five cells. -/
structure AlmC (w : World) (A : Nat) (W : Int) (v : Value) (f l : Int) (m : Value) : Prop where
  row : w.rowIs A 74 5 (almF W v f l m)
theorem AlmC.c0 {w : World} {A : Nat} {W : Int} {v : Value} {f l : Int} {m : Value} (h : AlmC w A W v f l m) : w.cell? ⟨A, 0, none⟩ = some (.int .i64 W) := h.row.cell (i := 0) (by omega)
theorem AlmC.c1 {w : World} {A : Nat} {W : Int} {v : Value} {f l : Int} {m : Value} (h : AlmC w A W v f l m) : w.cell? ⟨A, 1, none⟩ = some v := h.row.cell (i := 1) (by omega)
theorem AlmC.c2 {w : World} {A : Nat} {W : Int} {v : Value} {f l : Int} {m : Value} (h : AlmC w A W v f l m) : w.cell? ⟨A, 2, none⟩ = some (.int .i64 f) := h.row.cell (i := 2) (by omega)
theorem AlmC.c3 {w : World} {A : Nat} {W : Int} {v : Value} {f l : Int} {m : Value} (h : AlmC w A W v f l m) : w.cell? ⟨A, 3, none⟩ = some (.int .i64 l) := h.row.cell (i := 3) (by omega)
theorem AlmC.c4 {w : World} {A : Nat} {W : Int} {v : Value} {f l : Int} {m : Value} (h : AlmC w A W v f l m) : w.cell? ⟨A, 4, none⟩ = some m := h.row.cell (i := 4) (by omega)
theorem AlmC.fz {w : World} {A : Nat} {W : Int} {v : Value} {f l : Int} {m : Value} (h : AlmC w A W v f l m) (i : Nat) : w.frozen? ⟨A, i, none⟩ = false := h.row.frozen i
theorem AlmC.lt {w : World} {A : Nat} {W : Int} {v : Value} {f l : Int} {m : Value} (h : AlmC w A W v f l m) : A < w.heap.size := h.row.lt
theorem AlmC.set2 {w : World} {A : Nat} {W : Int} {v : Value} {f l : Int} {m : Value} (h : AlmC w A W v f l m) (x : Int) : AlmC (w.setCell ⟨A, 2, none⟩ (.int .i64 x)) A W v x l m :=
  ⟨(h.row.set 2 (.int .i64 x)).congr fun i hi => by rcases five hi with rfl | rfl | rfl | rfl | rfl <;> rfl⟩
theorem AlmC.set3 {w : World} {A : Nat} {W : Int} {v : Value} {f l : Int} {m : Value} (h : AlmC w A W v f l m) (x : Int) : AlmC (w.setCell ⟨A, 3, none⟩ (.int .i64 x)) A W v f x m :=
  ⟨(h.row.set 3 (.int .i64 x)).congr fun i hi => by rcases five hi with rfl | rfl | rfl | rfl | rfl <;> rfl⟩
theorem AlmC.set4 {w : World} {A : Nat} {W : Int} {v : Value} {f l : Int} {m : Value} (h : AlmC w A W v f l m) (x : Value) : AlmC (w.setCell ⟨A, 4, none⟩ x) A W v f l x :=
  ⟨(h.row.set 4 x).congr fun i hi => by rcases five hi with rfl | rfl | rfl | rfl | rfl <;> rfl⟩
theorem AlmC.below {w w' : World} {A B : Nat} {W : Int} {v : Value} {f l : Int} {m : Value} (h : AlmC w A W v f l m) (hb : Below B w w') (hB : A < B) : AlmC w' A W v f l m := ⟨h.row.of_block (hb.block A hB)⟩
theorem AlmC.alloc {w : World} {A : Nat} {W : Int} {v : Value} {f l : Int} {m : Value} (h : AlmC w A W v f l m) (o : Obj) : AlmC (w.alloc o) A W v f l m := ⟨h.row.alloc o⟩
theorem AlmC.other {w : World} {A : Nat} {W : Int} {v : Value} {f l : Int} {m : Value} (h : AlmC w A W v f l m) {a : Addr} (ha : A ≠ a.block) (u : Value) : AlmC (w.setCell a u) A W v f l m := ⟨h.row.setOther ha u⟩

/-- The almanac while a year is marked. -/
structure MK (w : World) (A : Nat) (W : Int) (v : Value) (f l : Int) (bm L : Nat) (F : Nat → Bool) (wr : World) : Prop where
  alm : AlmC wr A W v f l (.slice (some ⟨bm, 0, none⟩) L L)
  row : wr.rowIs bm 4 L (fun i => .bool (F i))
  low : Below A w wr
  lt : A < bm
theorem MK.step {w wr w' : World} {A : Nat} {W : Int} {v : Value} {f l : Int} {bm L : Nat} {F : Nat → Bool} (h : MK w A W v f l bm L F wr) (hb : Below wr.heap.size wr w') : MK w A W v f l bm L F w' :=
  ⟨h.alm.below hb h.alm.lt, h.row.of_block (hb.block bm h.row.lt), h.low.trans (hb.mono (Nat.le_of_lt h.alm.lt)), h.lt⟩
theorem MK.congr {w wr : World} {A : Nat} {W : Int} {v : Value} {f l : Int} {bm L : Nat} {F G : Nat → Bool} (h : MK w A W v f l bm L F wr) (e : ∀ i < L, F i = G i) : MK w A W v f l bm L G wr :=
  ⟨h.alm, h.row.congr (fun i hi => by rw [e i hi]), h.low, h.lt⟩
theorem MK.set {w wr : World} {A : Nat} {W : Int} {v : Value} {f l : Int} {bm L : Nat} {F : Nat → Bool} (h : MK w A W v f l bm L F wr) (i : Nat) : MK w A W v f l bm L (fun j => F j || decide (j = i)) (wr.setCell ⟨bm, i, none⟩ (.bool true)) :=
  ⟨h.alm.other (a := ⟨bm, i, none⟩) (by have := h.lt; show A ≠ bm; omega) _, (h.row.set i (.bool true)).congr (fun j _ => by
    by_cases e : j = i
    · rw [if_pos e, decide_eq_true e, Bool.or_true]
    · rw [if_neg e, decide_eq_false e, Bool.or_false]), h.low.setCell (p := ⟨bm, i, none⟩) (Nat.le_of_lt h.lt) _, h.lt⟩
theorem MK.drewN {w wr : World} {A : Nat} {W : Int} {v : Value} {f l : Int} {bm L : Nat} {F : Nat → Bool} (h : MK w A W v f l bm L F wr) (n : Nat) : MK w A W v f l bm L F (wr.drewN n) :=
  ⟨⟨h.alm.row⟩, h.row, below_drewN' h.low, h.lt⟩
/-- The same, with the rule's box. -/
structure MK2 (w : World) (A : Nat) (W : Int) (v : Value) (f l : Int) (bm L : Nat) (F : Nat → Bool) (b9 : Nat) (mv : Int) (wr : World) : Prop where
  one : MK w A W v f l bm L F wr
  c8 : wr.cell? ⟨b9, 8, none⟩ = some (.int .i64 mv)
  lt9 : b9 < wr.heap.size
  ne9 : b9 ≠ bm
theorem MK2.step {w wr w' : World} {A : Nat} {W : Int} {v : Value} {f l : Int} {bm L : Nat} {F : Nat → Bool} {b9 : Nat} {mv : Int} (h : MK2 w A W v f l bm L F b9 mv wr) (hb : Below wr.heap.size wr w') : MK2 w A W v f l bm L F b9 mv w' :=
  ⟨h.one.step hb, (hb.cell (p := ⟨b9, 8, none⟩) h.lt9).trans h.c8, Nat.lt_of_lt_of_le h.lt9 hb.size, h.ne9⟩
theorem MK2.congr {w wr : World} {A : Nat} {W : Int} {v : Value} {f l : Int} {bm L : Nat} {F G : Nat → Bool} {b9 : Nat} {mv : Int} (h : MK2 w A W v f l bm L F b9 mv wr) (e : ∀ i < L, F i = G i) : MK2 w A W v f l bm L G b9 mv wr :=
  ⟨h.one.congr e, h.c8, h.lt9, h.ne9⟩
theorem MK2.set {w wr : World} {A : Nat} {W : Int} {v : Value} {f l : Int} {bm L : Nat} {F : Nat → Bool} {b9 : Nat} {mv : Int} (h : MK2 w A W v f l bm L F b9 mv wr) (i : Nat) : MK2 w A W v f l bm L (fun j => F j || decide (j = i)) b9 mv (wr.setCell ⟨bm, i, none⟩ (.bool true)) :=
  ⟨h.one.set i, by
    have e : (wr.setCell ⟨bm, i, none⟩ (.bool true)).cell? ⟨b9, 8, none⟩ = wr.cell? ⟨b9, 8, none⟩ := World.cell?_of_block (w := wr) (Below.heap_setCell wr ⟨bm, i, none⟩ _ b9 h.ne9)
    rw [e]; exact h.c8, by simpa using h.lt9, h.ne9⟩
theorem MK2.drewN {w wr : World} {A : Nat} {W : Int} {v : Value} {f l : Int} {bm L : Nat} {F : Nat → Bool} {b9 : Nat} {mv : Int} (h : MK2 w A W v f l bm L F b9 mv wr) (n : Nat) : MK2 w A W v f l bm L F b9 mv (wr.drewN n) :=
  ⟨h.one.drewN n, h.c8, h.lt9, h.ne9⟩
theorem MK2.first {w wr : World} {A : Nat} {W : Int} {v : Value} {f l : Int} {bm L : Nat} {F : Nat → Bool} {kind mon day nth wd off fr to mv : Int} (h : MK w A W v f l bm L F wr) :
    MK2 w A W v f l bm L F wr.heap.size mv (wr.alloc (.cells #[.int .i64 kind, .int .i64 mon, .int .i64 day, .int .i64 nth, .int .i64 wd, .int .i64 off, .int .i64 fr, .int .i64 to, .int .i64 mv] 47)) :=
  ⟨h.step ((Below.refl _ wr).alloc (Nat.le_refl _) _), by simp, by simp, by have := h.row.lt; omega⟩
end Go.Proofs.Ytglkhoekpafddaa
