/- The contracts of the document's search: ended, halved, Told. -/
import Derived.Test.YtoeifjnknhjchaaHae
import Derived.Test.YtoeifjnknhjchaaHag
import Derived.Laws.Rows
namespace Go.Proofs.Ytoeifjnknhjchaa
open Go.RowKit

/-- A search in its box. -/
structure SrBox (w : World) (B : Nat) (l h : Int) (ng : Bool) (n a f : Int) (d : Bool) (x e : Int) : Prop where
  hp : w.heap[B]? = some (.cells #[.int .u64 l, .int .u64 h, .bool ng, .int .i64 n, .int .u64 a, .int .u64 f, .bool d, .int .u64 x, .int .i64 e] 30 (0, 0))
theorem SrBox.lt {w : World} {B : Nat} {l h : Int} {ng : Bool} {n a f : Int} {d : Bool} {x e : Int} (b : SrBox w B l h ng n a f d x e) : B < w.heap.size := (Array.getElem?_eq_some_iff.1 b.hp).1
theorem SrBox.below {w w' : World} {B : Nat} {l h : Int} {ng : Bool} {n a f : Int} {d : Bool} {x e : Int} (b : SrBox w B l h ng n a f d x e) (hb : Below w.heap.size w w') : SrBox w' B l h ng n a f d x e := ⟨by rw [hb.block B b.lt]; exact b.hp⟩
/-- Its cells. -/
structure Sr9 (w : World) (B : Nat) (l h : Int) (ng : Bool) (n a f : Int) (d : Bool) (x e : Int) : Prop where
  c0 : w.cell? ⟨B, 0, none⟩ = some (.int .u64 l)
  c1 : w.cell? ⟨B, 1, none⟩ = some (.int .u64 h)
  c2 : w.cell? ⟨B, 2, none⟩ = some (.bool ng)
  c3 : w.cell? ⟨B, 3, none⟩ = some (.int .i64 n)
  c4 : w.cell? ⟨B, 4, none⟩ = some (.int .u64 a)
  c5 : w.cell? ⟨B, 5, none⟩ = some (.int .u64 f)
  c6 : w.cell? ⟨B, 6, none⟩ = some (.bool d)
  c7 : w.cell? ⟨B, 7, none⟩ = some (.int .u64 x)
  c8 : w.cell? ⟨B, 8, none⟩ = some (.int .i64 e)
  f0 : w.frozen? ⟨B, 0, none⟩ = false
  f1 : w.frozen? ⟨B, 1, none⟩ = false
  f2 : w.frozen? ⟨B, 2, none⟩ = false
  f3 : w.frozen? ⟨B, 3, none⟩ = false
  f4 : w.frozen? ⟨B, 4, none⟩ = false
  f5 : w.frozen? ⟨B, 5, none⟩ = false
  f6 : w.frozen? ⟨B, 6, none⟩ = false
  f7 : w.frozen? ⟨B, 7, none⟩ = false
  f8 : w.frozen? ⟨B, 8, none⟩ = false
theorem SrBox.nine {w : World} {B : Nat} {l h : Int} {ng : Bool} {n a f : Int} {d : Bool} {x e : Int} (b : SrBox w B l h ng n a f d x e) : Sr9 w B l h ng n a f d x e := by
  have hb := b.hp
  refine ⟨?_, ?_, ?_, ?_, ?_, ?_, ?_, ?_, ?_, ?_, ?_, ?_, ?_, ?_, ?_, ?_, ?_, ?_⟩
  · simp [World.cell?, hb]
  · simp [World.cell?, hb]
  · simp [World.cell?, hb]
  · simp [World.cell?, hb]
  · simp [World.cell?, hb]
  · simp [World.cell?, hb]
  · simp [World.cell?, hb]
  · simp [World.cell?, hb]
  · simp [World.cell?, hb]
  · simp [World.frozen?, hb]
  · simp [World.frozen?, hb]
  · simp [World.frozen?, hb]
  · simp [World.frozen?, hb]
  · simp [World.frozen?, hb]
  · simp [World.frozen?, hb]
  · simp [World.frozen?, hb]
  · simp [World.frozen?, hb]
  · simp [World.frozen?, hb]
/-- The box behind a store of the whole. -/
def put9 (w : World) (B : Nat) (l h : Int) (ng : Bool) (n a f : Int) (d : Bool) (x e : Int) : World :=
  ((((((((w.setCell ⟨B, 0, none⟩ (.int .u64 l)).setCell ⟨B, 1, none⟩ (.int .u64 h)).setCell ⟨B, 2, none⟩ (.bool ng)).setCell ⟨B, 3, none⟩ (.int .i64 n)).setCell ⟨B, 4, none⟩ (.int .u64 a)).setCell ⟨B, 5, none⟩ (.int .u64 f)).setCell ⟨B, 6, none⟩ (.bool d)).setCell ⟨B, 7, none⟩ (.int .u64 x)).setCell ⟨B, 8, none⟩ (.int .i64 e)
theorem put9_box {w : World} {B : Nat} {l h : Int} {ng : Bool} {n a f : Int} {d : Bool} {x e : Int} {l' h' : Int} {ng' : Bool} {n' a' f' : Int} {d' : Bool} {x' e' : Int} (b : SrBox w B l h ng n a f d x e) : SrBox (put9 w B l' h' ng' n' a' f' d' x' e') B l' h' ng' n' a' f' d' x' e' := by
  have h0 : (w.setCell ⟨B, 0, none⟩ (.int .u64 l')).heap[B]? = some (.cells #[.int .u64 l', .int .u64 h, .bool ng, .int .i64 n, .int .u64 a, .int .u64 f, .bool d, .int .u64 x, .int .i64 e] 30 (0, 0)) := (heap_setCell_same _ B 0 _ _ _ b.hp).trans rfl
  have h1 : ((w.setCell ⟨B, 0, none⟩ (.int .u64 l')).setCell ⟨B, 1, none⟩ (.int .u64 h')).heap[B]? = some (.cells #[.int .u64 l', .int .u64 h', .bool ng, .int .i64 n, .int .u64 a, .int .u64 f, .bool d, .int .u64 x, .int .i64 e] 30 (0, 0)) := (heap_setCell_same _ B 1 _ _ _ h0).trans rfl
  have h2 : (((w.setCell ⟨B, 0, none⟩ (.int .u64 l')).setCell ⟨B, 1, none⟩ (.int .u64 h')).setCell ⟨B, 2, none⟩ (.bool ng')).heap[B]? = some (.cells #[.int .u64 l', .int .u64 h', .bool ng', .int .i64 n, .int .u64 a, .int .u64 f, .bool d, .int .u64 x, .int .i64 e] 30 (0, 0)) := (heap_setCell_same _ B 2 _ _ _ h1).trans rfl
  have h3 : ((((w.setCell ⟨B, 0, none⟩ (.int .u64 l')).setCell ⟨B, 1, none⟩ (.int .u64 h')).setCell ⟨B, 2, none⟩ (.bool ng')).setCell ⟨B, 3, none⟩ (.int .i64 n')).heap[B]? = some (.cells #[.int .u64 l', .int .u64 h', .bool ng', .int .i64 n', .int .u64 a, .int .u64 f, .bool d, .int .u64 x, .int .i64 e] 30 (0, 0)) := (heap_setCell_same _ B 3 _ _ _ h2).trans rfl
  have h4 : (((((w.setCell ⟨B, 0, none⟩ (.int .u64 l')).setCell ⟨B, 1, none⟩ (.int .u64 h')).setCell ⟨B, 2, none⟩ (.bool ng')).setCell ⟨B, 3, none⟩ (.int .i64 n')).setCell ⟨B, 4, none⟩ (.int .u64 a')).heap[B]? = some (.cells #[.int .u64 l', .int .u64 h', .bool ng', .int .i64 n', .int .u64 a', .int .u64 f, .bool d, .int .u64 x, .int .i64 e] 30 (0, 0)) := (heap_setCell_same _ B 4 _ _ _ h3).trans rfl
  have h5 : ((((((w.setCell ⟨B, 0, none⟩ (.int .u64 l')).setCell ⟨B, 1, none⟩ (.int .u64 h')).setCell ⟨B, 2, none⟩ (.bool ng')).setCell ⟨B, 3, none⟩ (.int .i64 n')).setCell ⟨B, 4, none⟩ (.int .u64 a')).setCell ⟨B, 5, none⟩ (.int .u64 f')).heap[B]? = some (.cells #[.int .u64 l', .int .u64 h', .bool ng', .int .i64 n', .int .u64 a', .int .u64 f', .bool d, .int .u64 x, .int .i64 e] 30 (0, 0)) := (heap_setCell_same _ B 5 _ _ _ h4).trans rfl
  have h6 : (((((((w.setCell ⟨B, 0, none⟩ (.int .u64 l')).setCell ⟨B, 1, none⟩ (.int .u64 h')).setCell ⟨B, 2, none⟩ (.bool ng')).setCell ⟨B, 3, none⟩ (.int .i64 n')).setCell ⟨B, 4, none⟩ (.int .u64 a')).setCell ⟨B, 5, none⟩ (.int .u64 f')).setCell ⟨B, 6, none⟩ (.bool d')).heap[B]? = some (.cells #[.int .u64 l', .int .u64 h', .bool ng', .int .i64 n', .int .u64 a', .int .u64 f', .bool d', .int .u64 x, .int .i64 e] 30 (0, 0)) := (heap_setCell_same _ B 6 _ _ _ h5).trans rfl
  have h7 : ((((((((w.setCell ⟨B, 0, none⟩ (.int .u64 l')).setCell ⟨B, 1, none⟩ (.int .u64 h')).setCell ⟨B, 2, none⟩ (.bool ng')).setCell ⟨B, 3, none⟩ (.int .i64 n')).setCell ⟨B, 4, none⟩ (.int .u64 a')).setCell ⟨B, 5, none⟩ (.int .u64 f')).setCell ⟨B, 6, none⟩ (.bool d')).setCell ⟨B, 7, none⟩ (.int .u64 x')).heap[B]? = some (.cells #[.int .u64 l', .int .u64 h', .bool ng', .int .i64 n', .int .u64 a', .int .u64 f', .bool d', .int .u64 x', .int .i64 e] 30 (0, 0)) := (heap_setCell_same _ B 7 _ _ _ h6).trans rfl
  have h8 : (((((((((w.setCell ⟨B, 0, none⟩ (.int .u64 l')).setCell ⟨B, 1, none⟩ (.int .u64 h')).setCell ⟨B, 2, none⟩ (.bool ng')).setCell ⟨B, 3, none⟩ (.int .i64 n')).setCell ⟨B, 4, none⟩ (.int .u64 a')).setCell ⟨B, 5, none⟩ (.int .u64 f')).setCell ⟨B, 6, none⟩ (.bool d')).setCell ⟨B, 7, none⟩ (.int .u64 x')).setCell ⟨B, 8, none⟩ (.int .i64 e')).heap[B]? = some (.cells #[.int .u64 l', .int .u64 h', .bool ng', .int .i64 n', .int .u64 a', .int .u64 f', .bool d', .int .u64 x', .int .i64 e'] 30 (0, 0)) := (heap_setCell_same _ B 8 _ _ _ h7).trans rfl
  exact ⟨h8⟩
theorem put9_below {w w1 : World} {C B : Nat} {l h : Int} {ng : Bool} {n a f : Int} {d : Bool} {x e : Int} (hb : Below C w w1) (hc : C ≤ B) : Below C w (put9 w1 B l h ng n a f d x e) := by
  have h0 := hb.setCell (p := ⟨B, 0, none⟩) hc (.int .u64 l)
  have h1 := h0.setCell (p := ⟨B, 1, none⟩) hc (.int .u64 h)
  have h2 := h1.setCell (p := ⟨B, 2, none⟩) hc (.bool ng)
  have h3 := h2.setCell (p := ⟨B, 3, none⟩) hc (.int .i64 n)
  have h4 := h3.setCell (p := ⟨B, 4, none⟩) hc (.int .u64 a)
  have h5 := h4.setCell (p := ⟨B, 5, none⟩) hc (.int .u64 f)
  have h6 := h5.setCell (p := ⟨B, 6, none⟩) hc (.bool d)
  have h7 := h6.setCell (p := ⟨B, 7, none⟩) hc (.int .u64 x)
  have h8 := h7.setCell (p := ⟨B, 8, none⟩) hc (.int .i64 e)
  exact h8
/-- The result's box at a call's end: nought, then what is told. -/
theorem put9_end {w wb w2 : World} {B : Nat} {l h : Int} {ng : Bool} {n a f : Int} {d : Bool} {x e : Int} (l' h' : Int) (ng' : Bool) (n' a' f' : Int) (d' : Bool) (x' e' : Int) (b : SrBox wb B l h ng n a f d x e) (hb : Below w.heap.size w wb) (hB : w.heap.size ≤ B) (h2 : Below wb.heap.size wb w2) :
    Sr9 w2 B l h ng n a f d x e ∧ ∃ wz, put9 w2 B l' h' ng' n' a' f' d' x' e' = wz ∧ Sr9 wz B l' h' ng' n' a' f' d' x' e' ∧ Below w.heap.size w wz := by
  have b2 := b.below h2
  exact ⟨b2.nine, _, rfl, (put9_box b2).nine, put9_below (hb.trans (h2.mono hb.size)) hB⟩

set_option maxRecDepth 20000 in
set_option maxHeartbeats 1600000 in
theorem ref12Ended_any (lo hi ask fst x0 x : Int) (neg dn : Bool) (n e0 er : Int) (w : World) :
    Calls Try.prog 33 #[.agg #[.int .u64 lo, .int .u64 hi, .bool neg, .int .i64 n, .int .u64 ask, .int .u64 fst, .bool dn, .int .u64 x0, .int .i64 e0], .int .u64 x, .int .i64 er] w fun e w' => e = .returned (.agg #[.int .u64 lo, .int .u64 hi, .bool neg, .int .i64 n, .int .u64 ask, .int .u64 fst, .bool true, .int .u64 x, .int .i64 er]) ∧ Below w.heap.size w w' := by
  go_enter Try.func33, Try.ntmps33
  go_wp2
  refine bodyPost_ret (v := .agg #[.int .u64 lo, .int .u64 hi, .bool neg, .int .i64 n, .int .u64 ask, .int .u64 fst, .bool true, .int .u64 x, .int .i64 er]) (by simp [results, Try.results33, go_sem]) rfl ⟨rfl, ?_⟩
  exact ((Below.refl w.heap.size w).alloc (Nat.le_refl _) _).alloc (by simp) _

/-- Two boxes made: the argument's and the result's. -/
theorem two_box (w : World) (l h : Int) (ng : Bool) (n a f : Int) (d : Bool) (x e : Int) :
    SrBox ((w.alloc (.cells #[.int .u64 l, .int .u64 h, .bool ng, .int .i64 n, .int .u64 a, .int .u64 f, .bool d, .int .u64 x, .int .i64 e] 30)).alloc (.cells #[.int .u64 0, .int .u64 0, .bool false, .int .i64 0, .int .u64 0, .int .u64 0, .bool false, .int .u64 0, .int .i64 0] 30)) (w.heap.size + 1) 0 0 false 0 0 0 false 0 0 ∧ Below w.heap.size w ((w.alloc (.cells #[.int .u64 l, .int .u64 h, .bool ng, .int .i64 n, .int .u64 a, .int .u64 f, .bool d, .int .u64 x, .int .i64 e] 30)).alloc (.cells #[.int .u64 0, .int .u64 0, .bool false, .int .i64 0, .int .u64 0, .int .u64 0, .bool false, .int .u64 0, .int .i64 0] 30)) := by
  refine ⟨⟨?_⟩, ((Below.refl w.heap.size w).alloc (Nat.le_refl _) _).alloc (by simp) _⟩
  have := heap_alloc_new (w.alloc (.cells #[.int .u64 l, .int .u64 h, .bool ng, .int .i64 n, .int .u64 a, .int .u64 f, .bool d, .int .u64 x, .int .i64 e] 30)) (.cells #[.int .u64 0, .int .u64 0, .bool false, .int .i64 0, .int .u64 0, .int .u64 0, .bool false, .int .u64 0, .int .i64 0] 30)
  rw [show (w.alloc (.cells #[.int .u64 l, .int .u64 h, .bool ng, .int .i64 n, .int .u64 a, .int .u64 f, .bool d, .int .u64 x, .int .i64 e] 30)).heap.size = w.heap.size + 1 by simp] at this
  exact this

theorem SrBox.drewN {w : World} {B : Nat} {l h : Int} {ng : Bool} {n a f : Int} {d : Bool} {x e : Int} (b : SrBox w B l h ng n a f d x e) (q : Nat) : SrBox (w.drewN q) B l h ng n a f d x e := ⟨b.hp⟩
theorem SrBox.set {w : World} {B : Nat} {l h : Int} {ng : Bool} {n a f : Int} {d : Bool} {x e : Int} (b : SrBox w B l h ng n a f d x e) {c i : Nat} (hc : c ≠ B) (v : Value) : SrBox (w.setCell ⟨c, i, none⟩ v) B l h ng n a f d x e := ⟨(heap_setCell_other w ⟨c, i, none⟩ B v (fun h => hc h.symm)).trans b.hp⟩
theorem below_drew12 {B : Nat} {w w1 : World} (hb : Below B w w1) (q : Nat) : Below B w (w1.drewN q) := ⟨hb.os, hb.tape, hb.output, hb.size, hb.block⟩
set_option maxRecDepth 20000 in
set_option maxHeartbeats 3200000 in
theorem ref12Halved_stop (lo hi ask fst x0 : Int) (neg dn : Bool) (n e0 : Int) (m rm rl : Int) (w : World)
    (HM : Hid (∀ wx, Calls Try.prog 46 #[.int .u64 lo, .int .u64 hi] wx fun e w' => e = .returned (.tuple #[.int .u64 m, .bool true]) ∧ w' = wx))
    (HR : Hid (∀ wx, Calls Try.prog 45 #[.int .u64 m] wx fun e w' => e = .returned (.tuple #[.int .i64 rm, .bool true]) ∧ w' = wx))
    (HL : Hid (∀ wx, Calls Try.prog 45 #[.int .u64 lo] wx fun e w' => e = .returned (.tuple #[.int .i64 rl, .bool true]) ∧ w' = wx))
    (hq : (rm == rl) = true) :
    Calls Try.prog 37 #[.agg #[.int .u64 lo, .int .u64 hi, .bool neg, .int .i64 n, .int .u64 ask, .int .u64 fst, .bool dn, .int .u64 x0, .int .i64 e0]] w fun e w' => e = .returned (.agg #[.int .u64 lo, .int .u64 hi, .bool neg, .int .i64 n, .int .u64 ask, .int .u64 fst, .bool true, .int .u64 lo, .int .i64 0]) ∧ Below w.heap.size w w' := by
  go_enter Try.func37, Try.ntmps37
  go_wp2_with fail
  refine (HM.out _).mono ?_
  rintro e w' ⟨rfl, rfl⟩
  go_wp2_with fail
  refine (HR.out _).mono ?_
  rintro e w' ⟨rfl, rfl⟩
  go_wp2_with fail
  refine (HL.out _).mono ?_
  rintro e w' ⟨rfl, rfl⟩
  go_wp2_with fail
  refine (ref12Ended_any lo hi ask fst x0 lo neg dn n e0 0 _).mono ?_
  rintro e w2 ⟨rfl, hb2⟩
  obtain ⟨⟨c0, c1, c2, c3, c4, c5, c6, c7, c8, f0, f1, f2, f3, f4, f5, f6, f7, f8⟩, wz, hz, hd, hbz⟩ := put9_end lo hi neg n ask fst true lo 0 (two_box w _ _ _ _ _ _ _ _ _).1 (two_box w _ _ _ _ _ _ _ _ _).2 (by omega) hb2
  clear hb2
  go_wp2_with fail
  unfold put9 at hz
  rw [hz]
  refine bodyPost_ret (v := .agg #[.int .u64 lo, .int .u64 hi, .bool neg, .int .i64 n, .int .u64 ask, .int .u64 fst, .bool true, .int .u64 lo, .int .i64 0]) (by simp [results, Try.results37, go_sem, hd.c0, hd.c1, hd.c2, hd.c3, hd.c4, hd.c5, hd.c6, hd.c7, hd.c8]) rfl ⟨rfl, hbz⟩
set_option maxRecDepth 20000 in
set_option maxHeartbeats 3200000 in
theorem ref12Halved_on (lo hi ask fst x0 : Int) (neg dn : Bool) (n e0 : Int) (m rm rl : Int) (w : World)
    (HM : Hid (∀ wx, Calls Try.prog 46 #[.int .u64 lo, .int .u64 hi] wx fun e w' => e = .returned (.tuple #[.int .u64 m, .bool true]) ∧ w' = wx))
    (HR : Hid (∀ wx, Calls Try.prog 45 #[.int .u64 m] wx fun e w' => e = .returned (.tuple #[.int .i64 rm, .bool true]) ∧ w' = wx))
    (HL : Hid (∀ wx, Calls Try.prog 45 #[.int .u64 lo] wx fun e w' => e = .returned (.tuple #[.int .i64 rl, .bool true]) ∧ w' = wx))
    (hq : (rm == rl) = false) :
    Calls Try.prog 37 #[.agg #[.int .u64 lo, .int .u64 hi, .bool neg, .int .i64 n, .int .u64 ask, .int .u64 fst, .bool dn, .int .u64 x0, .int .i64 e0]] w fun e w' => e = .returned (.agg #[.int .u64 lo, .int .u64 hi, .bool neg, .int .i64 n, .int .u64 m, .int .u64 fst, .bool dn, .int .u64 x0, .int .i64 e0]) ∧ Below w.heap.size w w' := by
  go_enter Try.func37, Try.ntmps37
  go_wp2_with fail
  refine (HM.out _).mono ?_
  rintro e w' ⟨rfl, rfl⟩
  go_wp2_with fail
  refine (HR.out _).mono ?_
  rintro e w' ⟨rfl, rfl⟩
  go_wp2_with fail
  refine (HL.out _).mono ?_
  rintro e w' ⟨rfl, rfl⟩
  go_wp2_with fail
  refine bodyPost_ret (v := .agg #[.int .u64 lo, .int .u64 hi, .bool neg, .int .i64 n, .int .u64 m, .int .u64 fst, .bool dn, .int .u64 x0, .int .i64 e0]) (by simp [results, Try.results37, go_sem]) rfl ⟨rfl, ?_⟩
  exact ((Below.refl w.heap.size w).alloc (Nat.le_refl _) _).alloc (by simp) _
set_option maxRecDepth 20000 in
set_option maxHeartbeats 3200000 in
theorem ref12Told_nan (lo hi ask fst x0 : Int) (neg dn : Bool) (e0 v : Int) (n : Int) (w : World)
    (HN : Hid (∀ wx, Calls Try.prog 34 #[.int .u64 v] wx fun e w' => e = .returned (.bool true) ∧ w' = wx))
    (h0 : 0 ≤ n) (h1 : n ≤ 100) :
    Calls Try.prog 21 #[.agg #[.int .u64 lo, .int .u64 hi, .bool neg, .int .i64 n, .int .u64 ask, .int .u64 fst, .bool dn, .int .u64 x0, .int .i64 e0], .int .u64 v] w fun e w' => e = .returned (.agg #[.int .u64 lo, .int .u64 hi, .bool neg, .int .i64 (n + 1), .int .u64 ask, .int .u64 fst, .bool true, .int .u64 0, .int .i64 91]) ∧ Below w.heap.size w w' := by
  go_enter Try.func21, Try.ntmps21
  go_wp2_with fail
  refine (HN.out _).mono ?_
  rintro e w' ⟨rfl, rfl⟩
  go_wp2_with fail
  refine (ref12Ended_any lo hi ask fst x0 0 neg dn (n + 1) e0 91 _).mono ?_
  rintro e w2 ⟨rfl, hb2⟩
  obtain ⟨⟨c0, c1, c2, c3, c4, c5, c6, c7, c8, f0, f1, f2, f3, f4, f5, f6, f7, f8⟩, wz, hz, hd, hbz⟩ := put9_end lo hi neg (n + 1) ask fst true 0 91 (two_box w _ _ _ _ _ _ _ _ _).1 (two_box w _ _ _ _ _ _ _ _ _).2 (by omega) hb2
  clear hb2
  go_wp2_with fail
  unfold put9 at hz
  rw [hz]
  refine bodyPost_ret (v := .agg #[.int .u64 lo, .int .u64 hi, .bool neg, .int .i64 (n + 1), .int .u64 ask, .int .u64 fst, .bool true, .int .u64 0, .int .i64 91]) (by simp [results, Try.results21, go_sem, hd.c0, hd.c1, hd.c2, hd.c3, hd.c4, hd.c5, hd.c6, hd.c7, hd.c8]) rfl ⟨rfl, hbz⟩
set_option maxRecDepth 20000 in
set_option maxHeartbeats 3200000 in
theorem ref12Told_first (lo hi ask fst x0 : Int) (neg dn : Bool) (e0 v : Int) (w : World)
    (HN : Hid (∀ wx, Calls Try.prog 34 #[.int .u64 v] wx fun e w' => e = .returned (.bool false) ∧ w' = wx)) :
    Calls Try.prog 21 #[.agg #[.int .u64 lo, .int .u64 hi, .bool neg, .int .i64 0, .int .u64 ask, .int .u64 fst, .bool dn, .int .u64 x0, .int .i64 e0], .int .u64 v] w fun e w' => e = .returned (.agg #[.int .u64 lo, .int .u64 hi, .bool neg, .int .i64 1, .int .u64 hi, .int .u64 v, .bool dn, .int .u64 x0, .int .i64 e0]) ∧ Below w.heap.size w w' := by
  go_enter Try.func21, Try.ntmps21
  go_wp2_with fail
  refine (HN.out _).mono ?_
  rintro e w' ⟨rfl, rfl⟩
  go_wp2_with fail
  refine bodyPost_ret (v := .agg #[.int .u64 lo, .int .u64 hi, .bool neg, .int .i64 1, .int .u64 hi, .int .u64 v, .bool dn, .int .u64 x0, .int .i64 e0]) (by simp [results, Try.results21, go_sem]) rfl ⟨rfl, ?_⟩
  exact ((Below.refl w.heap.size w).alloc (Nat.le_refl _) _).alloc (by simp) _
set_option maxRecDepth 20000 in
set_option maxHeartbeats 3200000 in
theorem ref12Told_lo (lo hi ask fst x0 : Int) (neg dn : Bool) (e0 v : Int) (zf : Int) (w : World)
    (HN : Hid (∀ wx, Calls Try.prog 34 #[.int .u64 v] wx fun e w' => e = .returned (.bool false) ∧ w' = wx))
    (HZf : Hid (∀ wx, Calls Try.prog 35 #[.int .u64 fst] wx fun e w' => e = .returned (.int .u64 zf) ∧ w' = wx))
    (hz : (zf == 0) = true) :
    Calls Try.prog 21 #[.agg #[.int .u64 lo, .int .u64 hi, .bool neg, .int .i64 1, .int .u64 ask, .int .u64 fst, .bool dn, .int .u64 x0, .int .i64 e0], .int .u64 v] w fun e w' => e = .returned (.agg #[.int .u64 lo, .int .u64 hi, .bool neg, .int .i64 2, .int .u64 ask, .int .u64 fst, .bool true, .int .u64 lo, .int .i64 0]) ∧ Below w.heap.size w w' := by
  go_enter Try.func21, Try.ntmps21
  go_wp2_with fail
  refine (HN.out _).mono ?_
  rintro e w' ⟨rfl, rfl⟩
  go_wp2_with fail
  refine (HZf.out _).mono ?_
  rintro e w' ⟨rfl, rfl⟩
  go_wp2_with fail
  refine (ref12Ended_any lo hi ask fst x0 lo neg dn (2) e0 0 _).mono ?_
  rintro e w2 ⟨rfl, hb2⟩
  clear hz
  obtain ⟨⟨c0, c1, c2, c3, c4, c5, c6, c7, c8, f0, f1, f2, f3, f4, f5, f6, f7, f8⟩, wz, hz, hd, hbz⟩ := put9_end lo hi neg 2 ask fst true lo 0 (two_box w _ _ _ _ _ _ _ _ _).1 (two_box w _ _ _ _ _ _ _ _ _).2 (by omega) hb2
  clear hb2
  go_wp2_with fail
  unfold put9 at hz
  rw [hz]
  refine bodyPost_ret (v := .agg #[.int .u64 lo, .int .u64 hi, .bool neg, .int .i64 2, .int .u64 ask, .int .u64 fst, .bool true, .int .u64 lo, .int .i64 0]) (by simp [results, Try.results21, go_sem, hd.c0, hd.c1, hd.c2, hd.c3, hd.c4, hd.c5, hd.c6, hd.c7, hd.c8]) rfl ⟨rfl, hbz⟩
set_option maxRecDepth 20000 in
set_option maxHeartbeats 3200000 in
theorem ref12Told_hi (lo hi ask fst x0 : Int) (neg dn : Bool) (e0 v : Int) (zf zv : Int) (w : World)
    (HN : Hid (∀ wx, Calls Try.prog 34 #[.int .u64 v] wx fun e w' => e = .returned (.bool false) ∧ w' = wx))
    (HZf : Hid (∀ wx, Calls Try.prog 35 #[.int .u64 fst] wx fun e w' => e = .returned (.int .u64 zf) ∧ w' = wx))
    (HZv : Hid (∀ wx, Calls Try.prog 35 #[.int .u64 v] wx fun e w' => e = .returned (.int .u64 zv) ∧ w' = wx))
    (hq : (zf == 0) = false) (hq2 : (zv == 0) = true) :
    Calls Try.prog 21 #[.agg #[.int .u64 lo, .int .u64 hi, .bool neg, .int .i64 1, .int .u64 ask, .int .u64 fst, .bool dn, .int .u64 x0, .int .i64 e0], .int .u64 v] w fun e w' => e = .returned (.agg #[.int .u64 lo, .int .u64 hi, .bool neg, .int .i64 2, .int .u64 ask, .int .u64 fst, .bool true, .int .u64 hi, .int .i64 0]) ∧ Below w.heap.size w w' := by
  go_enter Try.func21, Try.ntmps21
  go_wp2_with fail
  refine (HN.out _).mono ?_
  rintro e w' ⟨rfl, rfl⟩
  go_wp2_with fail
  refine (HZf.out _).mono ?_
  rintro e w' ⟨rfl, rfl⟩
  go_wp2_with fail
  refine (HZv.out _).mono ?_
  rintro e w' ⟨rfl, rfl⟩
  go_wp2_with fail
  refine (ref12Ended_any lo hi ask fst x0 hi neg dn (2) e0 0 _).mono ?_
  rintro e w2 ⟨rfl, hb2⟩
  obtain ⟨⟨c0, c1, c2, c3, c4, c5, c6, c7, c8, f0, f1, f2, f3, f4, f5, f6, f7, f8⟩, wz, hz, hd, hbz⟩ := put9_end lo hi neg 2 ask fst true hi 0 (two_box w _ _ _ _ _ _ _ _ _).1 (two_box w _ _ _ _ _ _ _ _ _).2 (by omega) hb2
  clear hb2
  go_wp2_with fail
  unfold put9 at hz
  rw [hz]
  refine bodyPost_ret (v := .agg #[.int .u64 lo, .int .u64 hi, .bool neg, .int .i64 2, .int .u64 ask, .int .u64 fst, .bool true, .int .u64 hi, .int .i64 0]) (by simp [results, Try.results21, go_sem, hd.c0, hd.c1, hd.c2, hd.c3, hd.c4, hd.c5, hd.c6, hd.c7, hd.c8]) rfl ⟨rfl, hbz⟩
set_option maxRecDepth 20000 in
set_option maxHeartbeats 3200000 in
theorem ref12Told_brk (lo hi ask fst x0 : Int) (neg dn : Bool) (e0 v : Int) (zf zv : Int) (gf gv : Bool) (w : World)
    (HN : Hid (∀ wx, Calls Try.prog 34 #[.int .u64 v] wx fun e w' => e = .returned (.bool false) ∧ w' = wx))
    (HZf : Hid (∀ wx, Calls Try.prog 35 #[.int .u64 fst] wx fun e w' => e = .returned (.int .u64 zf) ∧ w' = wx))
    (HZv : Hid (∀ wx, Calls Try.prog 35 #[.int .u64 v] wx fun e w' => e = .returned (.int .u64 zv) ∧ w' = wx))
    (HGf : Hid (∀ wx, Calls Try.prog 36 #[.int .u64 fst] wx fun e w' => e = .returned (.bool gf) ∧ w' = wx))
    (HGv : Hid (∀ wx, Calls Try.prog 36 #[.int .u64 v] wx fun e w' => e = .returned (.bool gv) ∧ w' = wx))
    (hq : (zf == 0) = false) (hq2 : (zv == 0) = false) (hq3 : (gv == gf) = true) :
    Calls Try.prog 21 #[.agg #[.int .u64 lo, .int .u64 hi, .bool neg, .int .i64 1, .int .u64 ask, .int .u64 fst, .bool dn, .int .u64 x0, .int .i64 e0], .int .u64 v] w fun e w' => e = .returned (.agg #[.int .u64 lo, .int .u64 hi, .bool gf, .int .i64 2, .int .u64 ask, .int .u64 fst, .bool true, .int .u64 0, .int .i64 120]) ∧ Below w.heap.size w w' := by
  go_enter Try.func21, Try.ntmps21
  go_wp2_with fail
  refine (HN.out _).mono ?_
  rintro e w' ⟨rfl, rfl⟩
  go_wp2_with fail
  refine (HZf.out _).mono ?_
  rintro e w' ⟨rfl, rfl⟩
  go_wp2_with fail
  refine (HZv.out _).mono ?_
  rintro e w' ⟨rfl, rfl⟩
  go_wp2_with fail
  refine (HGf.out _).mono ?_
  rintro e w' ⟨rfl, rfl⟩
  go_wp2_with fail
  go_quiet ((go_at_call 36; exact Calls.quiet_of_same (HGv.out _)))
  go_wp2_with fail
  refine (ref12Ended_any lo hi ask fst x0 0 gf dn (2) e0 120 _).mono ?_
  rintro e w2 ⟨rfl, hb2⟩
  obtain ⟨⟨c0, c1, c2, c3, c4, c5, c6, c7, c8, f0, f1, f2, f3, f4, f5, f6, f7, f8⟩, wz, hz, hd, hbz⟩ := put9_end lo hi gf 2 ask fst true 0 120 ((two_box w _ _ _ _ _ _ _ _ _).1.drewN _) (below_drew12 (two_box w _ _ _ _ _ _ _ _ _).2 _) (by omega) hb2
  clear hb2
  go_wp2_with fail
  unfold put9 at hz
  rw [hz]
  refine bodyPost_ret (v := .agg #[.int .u64 lo, .int .u64 hi, .bool gf, .int .i64 2, .int .u64 ask, .int .u64 fst, .bool true, .int .u64 0, .int .i64 120]) (by simp [results, Try.results21, go_sem, hd.c0, hd.c1, hd.c2, hd.c3, hd.c4, hd.c5, hd.c6, hd.c7, hd.c8]) rfl ⟨rfl, hbz⟩
set_option maxRecDepth 20000 in
set_option maxHeartbeats 3200000 in
theorem ref12Told_two (lo hi ask fst x0 : Int) (neg dn : Bool) (e0 v : Int) (zf zv : Int) (gf gv : Bool) (r0 r1 : Int) (r2 : Bool) (r3 r4 r5 : Int) (r6 : Bool) (r7 r8 : Int) (w : World)
    (HN : Hid (∀ wx, Calls Try.prog 34 #[.int .u64 v] wx fun e w' => e = .returned (.bool false) ∧ w' = wx))
    (HZf : Hid (∀ wx, Calls Try.prog 35 #[.int .u64 fst] wx fun e w' => e = .returned (.int .u64 zf) ∧ w' = wx))
    (HZv : Hid (∀ wx, Calls Try.prog 35 #[.int .u64 v] wx fun e w' => e = .returned (.int .u64 zv) ∧ w' = wx))
    (HGf : Hid (∀ wx, Calls Try.prog 36 #[.int .u64 fst] wx fun e w' => e = .returned (.bool gf) ∧ w' = wx))
    (HGv : Hid (∀ wx, Calls Try.prog 36 #[.int .u64 v] wx fun e w' => e = .returned (.bool gv) ∧ w' = wx))
    (HH : Hid (∀ wx, Calls Try.prog 37 #[.agg #[.int .u64 lo, .int .u64 hi, .bool gf, .int .i64 2, .int .u64 ask, .int .u64 fst, .bool dn, .int .u64 x0, .int .i64 e0]] wx fun e w' => e = .returned (.agg #[.int .u64 r0, .int .u64 r1, .bool r2, .int .i64 r3, .int .u64 r4, .int .u64 r5, .bool r6, .int .u64 r7, .int .i64 r8]) ∧ Below wx.heap.size wx w'))
    (hq : (zf == 0) = false) (hq2 : (zv == 0) = false) (hq3 : (gv == gf) = false) :
    Calls Try.prog 21 #[.agg #[.int .u64 lo, .int .u64 hi, .bool neg, .int .i64 1, .int .u64 ask, .int .u64 fst, .bool dn, .int .u64 x0, .int .i64 e0], .int .u64 v] w fun e w' => e = .returned (.agg #[.int .u64 r0, .int .u64 r1, .bool r2, .int .i64 r3, .int .u64 r4, .int .u64 r5, .bool r6, .int .u64 r7, .int .i64 r8]) ∧ Below w.heap.size w w' := by
  go_enter Try.func21, Try.ntmps21
  go_wp2_with fail
  refine (HN.out _).mono ?_
  rintro e w' ⟨rfl, rfl⟩
  go_wp2_with fail
  refine (HZf.out _).mono ?_
  rintro e w' ⟨rfl, rfl⟩
  go_wp2_with fail
  refine (HZv.out _).mono ?_
  rintro e w' ⟨rfl, rfl⟩
  go_wp2_with fail
  refine (HGf.out _).mono ?_
  rintro e w' ⟨rfl, rfl⟩
  go_wp2_with fail
  go_quiet ((go_at_call 36; exact Calls.quiet_of_same (HGv.out _)))
  go_wp2_with fail
  refine (HH.out _).mono ?_
  rintro e w2 ⟨rfl, hb2⟩
  obtain ⟨⟨c0, c1, c2, c3, c4, c5, c6, c7, c8, f0, f1, f2, f3, f4, f5, f6, f7, f8⟩, wz, hz, hd, hbz⟩ := put9_end r0 r1 r2 r3 r4 r5 r6 r7 r8 ((two_box w _ _ _ _ _ _ _ _ _).1.drewN _) (below_drew12 (two_box w _ _ _ _ _ _ _ _ _).2 _) (by omega) hb2
  clear hb2
  go_wp2_with fail
  unfold put9 at hz
  rw [hz]
  refine bodyPost_ret (v := .agg #[.int .u64 r0, .int .u64 r1, .bool r2, .int .i64 r3, .int .u64 r4, .int .u64 r5, .bool r6, .int .u64 r7, .int .i64 r8]) (by simp [results, Try.results21, go_sem, hd.c0, hd.c1, hd.c2, hd.c3, hd.c4, hd.c5, hd.c6, hd.c7, hd.c8]) rfl ⟨rfl, hbz⟩
set_option maxRecDepth 20000 in
set_option maxHeartbeats 3200000 in
theorem ref12Told_zero (lo hi ask fst x0 : Int) (neg dn : Bool) (e0 v : Int) (n zv : Int) (w : World)
    (HN : Hid (∀ wx, Calls Try.prog 34 #[.int .u64 v] wx fun e w' => e = .returned (.bool false) ∧ w' = wx))
    (HZv : Hid (∀ wx, Calls Try.prog 35 #[.int .u64 v] wx fun e w' => e = .returned (.int .u64 zv) ∧ w' = wx))
    (h0 : 2 ≤ n) (h1 : n ≤ 100)
    (hq2 : (zv == 0) = true) :
    Calls Try.prog 21 #[.agg #[.int .u64 lo, .int .u64 hi, .bool neg, .int .i64 n, .int .u64 ask, .int .u64 fst, .bool dn, .int .u64 x0, .int .i64 e0], .int .u64 v] w fun e w' => e = .returned (.agg #[.int .u64 lo, .int .u64 hi, .bool neg, .int .i64 (n + 1), .int .u64 ask, .int .u64 fst, .bool true, .int .u64 ask, .int .i64 0]) ∧ Below w.heap.size w w' := by
  go_enter Try.func21, Try.ntmps21
  go_wp2_with fail
  refine (HN.out _).mono ?_
  rintro e w' ⟨rfl, rfl⟩
  go_wp2_with fail
  refine (HZv.out _).mono ?_
  rintro e w' ⟨rfl, rfl⟩
  go_wp2_with fail
  refine (ref12Ended_any lo hi ask fst x0 ask neg dn (n + 1) e0 0 _).mono ?_
  rintro e w2 ⟨rfl, hb2⟩
  obtain ⟨⟨c0, c1, c2, c3, c4, c5, c6, c7, c8, f0, f1, f2, f3, f4, f5, f6, f7, f8⟩, wz, hz, hd, hbz⟩ := put9_end lo hi neg (n + 1) ask fst true ask 0 (two_box w _ _ _ _ _ _ _ _ _).1 (two_box w _ _ _ _ _ _ _ _ _).2 (by omega) hb2
  clear hb2
  go_wp2_with fail
  unfold put9 at hz
  rw [hz]
  refine bodyPost_ret (v := .agg #[.int .u64 lo, .int .u64 hi, .bool neg, .int .i64 (n + 1), .int .u64 ask, .int .u64 fst, .bool true, .int .u64 ask, .int .i64 0]) (by simp [results, Try.results21, go_sem, hd.c0, hd.c1, hd.c2, hd.c3, hd.c4, hd.c5, hd.c6, hd.c7, hd.c8]) rfl ⟨rfl, hbz⟩
set_option maxRecDepth 20000 in
set_option maxHeartbeats 3200000 in
theorem ref12Told_low (lo hi ask fst x0 : Int) (neg dn : Bool) (e0 v : Int) (n zv : Int) (gv : Bool) (r0 r1 : Int) (r2 : Bool) (r3 r4 r5 : Int) (r6 : Bool) (r7 r8 : Int) (w : World)
    (HN : Hid (∀ wx, Calls Try.prog 34 #[.int .u64 v] wx fun e w' => e = .returned (.bool false) ∧ w' = wx))
    (HZv : Hid (∀ wx, Calls Try.prog 35 #[.int .u64 v] wx fun e w' => e = .returned (.int .u64 zv) ∧ w' = wx))
    (HGv : Hid (∀ wx, Calls Try.prog 36 #[.int .u64 v] wx fun e w' => e = .returned (.bool gv) ∧ w' = wx))
    (HH : Hid (∀ wx, Calls Try.prog 37 #[.agg #[.int .u64 ask, .int .u64 hi, .bool neg, .int .i64 (n + 1), .int .u64 ask, .int .u64 fst, .bool dn, .int .u64 x0, .int .i64 e0]] wx fun e w' => e = .returned (.agg #[.int .u64 r0, .int .u64 r1, .bool r2, .int .i64 r3, .int .u64 r4, .int .u64 r5, .bool r6, .int .u64 r7, .int .i64 r8]) ∧ Below wx.heap.size wx w'))
    (h0 : 2 ≤ n) (h1 : n ≤ 100)
    (hq2 : (zv == 0) = false) (hq3 : (gv == neg) = true) :
    Calls Try.prog 21 #[.agg #[.int .u64 lo, .int .u64 hi, .bool neg, .int .i64 n, .int .u64 ask, .int .u64 fst, .bool dn, .int .u64 x0, .int .i64 e0], .int .u64 v] w fun e w' => e = .returned (.agg #[.int .u64 r0, .int .u64 r1, .bool r2, .int .i64 r3, .int .u64 r4, .int .u64 r5, .bool r6, .int .u64 r7, .int .i64 r8]) ∧ Below w.heap.size w w' := by
  go_enter Try.func21, Try.ntmps21
  go_wp2_with fail
  refine (HN.out _).mono ?_
  rintro e w' ⟨rfl, rfl⟩
  go_wp2_with fail
  refine (HZv.out _).mono ?_
  rintro e w' ⟨rfl, rfl⟩
  go_wp2_with fail
  go_quiet ((go_at_call 36; exact Calls.quiet_of_same (HGv.out _)))
  go_wp2_with fail
  refine (HH.out _).mono ?_
  rintro e w2 ⟨rfl, hb2⟩
  obtain ⟨⟨c0, c1, c2, c3, c4, c5, c6, c7, c8, f0, f1, f2, f3, f4, f5, f6, f7, f8⟩, wz, hz, hd, hbz⟩ := put9_end r0 r1 r2 r3 r4 r5 r6 r7 r8 (((two_box w _ _ _ _ _ _ _ _ _).1.drewN _).set (Nat.ne_of_lt (Nat.lt_succ_self w.heap.size)) _) ((below_drew12 (two_box w _ _ _ _ _ _ _ _ _).2 _).setCell (p := ⟨_, _, none⟩) (Nat.le_refl _) _) (by omega) hb2
  clear hb2
  go_wp2_with fail
  unfold put9 at hz
  rw [hz]
  refine bodyPost_ret (v := .agg #[.int .u64 r0, .int .u64 r1, .bool r2, .int .i64 r3, .int .u64 r4, .int .u64 r5, .bool r6, .int .u64 r7, .int .i64 r8]) (by simp [results, Try.results21, go_sem, hd.c0, hd.c1, hd.c2, hd.c3, hd.c4, hd.c5, hd.c6, hd.c7, hd.c8]) rfl ⟨rfl, hbz⟩
set_option maxRecDepth 20000 in
set_option maxHeartbeats 3200000 in
theorem ref12Told_high (lo hi ask fst x0 : Int) (neg dn : Bool) (e0 v : Int) (n zv : Int) (gv : Bool) (r0 r1 : Int) (r2 : Bool) (r3 r4 r5 : Int) (r6 : Bool) (r7 r8 : Int) (w : World)
    (HN : Hid (∀ wx, Calls Try.prog 34 #[.int .u64 v] wx fun e w' => e = .returned (.bool false) ∧ w' = wx))
    (HZv : Hid (∀ wx, Calls Try.prog 35 #[.int .u64 v] wx fun e w' => e = .returned (.int .u64 zv) ∧ w' = wx))
    (HGv : Hid (∀ wx, Calls Try.prog 36 #[.int .u64 v] wx fun e w' => e = .returned (.bool gv) ∧ w' = wx))
    (HH : Hid (∀ wx, Calls Try.prog 37 #[.agg #[.int .u64 lo, .int .u64 ask, .bool neg, .int .i64 (n + 1), .int .u64 ask, .int .u64 fst, .bool dn, .int .u64 x0, .int .i64 e0]] wx fun e w' => e = .returned (.agg #[.int .u64 r0, .int .u64 r1, .bool r2, .int .i64 r3, .int .u64 r4, .int .u64 r5, .bool r6, .int .u64 r7, .int .i64 r8]) ∧ Below wx.heap.size wx w'))
    (h0 : 2 ≤ n) (h1 : n ≤ 100)
    (hq2 : (zv == 0) = false) (hq3 : (gv == neg) = false) :
    Calls Try.prog 21 #[.agg #[.int .u64 lo, .int .u64 hi, .bool neg, .int .i64 n, .int .u64 ask, .int .u64 fst, .bool dn, .int .u64 x0, .int .i64 e0], .int .u64 v] w fun e w' => e = .returned (.agg #[.int .u64 r0, .int .u64 r1, .bool r2, .int .i64 r3, .int .u64 r4, .int .u64 r5, .bool r6, .int .u64 r7, .int .i64 r8]) ∧ Below w.heap.size w w' := by
  go_enter Try.func21, Try.ntmps21
  go_wp2_with fail
  refine (HN.out _).mono ?_
  rintro e w' ⟨rfl, rfl⟩
  go_wp2_with fail
  refine (HZv.out _).mono ?_
  rintro e w' ⟨rfl, rfl⟩
  go_wp2_with fail
  go_quiet ((go_at_call 36; exact Calls.quiet_of_same (HGv.out _)))
  go_wp2_with fail
  refine (HH.out _).mono ?_
  rintro e w2 ⟨rfl, hb2⟩
  obtain ⟨⟨c0, c1, c2, c3, c4, c5, c6, c7, c8, f0, f1, f2, f3, f4, f5, f6, f7, f8⟩, wz, hz, hd, hbz⟩ := put9_end r0 r1 r2 r3 r4 r5 r6 r7 r8 (((two_box w _ _ _ _ _ _ _ _ _).1.drewN _).set (Nat.ne_of_lt (Nat.lt_succ_self w.heap.size)) _) ((below_drew12 (two_box w _ _ _ _ _ _ _ _ _).2 _).setCell (p := ⟨_, _, none⟩) (Nat.le_refl _) _) (by omega) hb2
  clear hb2
  go_wp2_with fail
  unfold put9 at hz
  rw [hz]
  refine bodyPost_ret (v := .agg #[.int .u64 r0, .int .u64 r1, .bool r2, .int .i64 r3, .int .u64 r4, .int .u64 r5, .bool r6, .int .u64 r7, .int .i64 r8]) (by simp [results, Try.results21, go_sem, hd.c0, hd.c1, hd.c2, hd.c3, hd.c4, hd.c5, hd.c6, hd.c7, hd.c8]) rfl ⟨rfl, hbz⟩
end Go.Proofs.Ytoeifjnknhjchaa
