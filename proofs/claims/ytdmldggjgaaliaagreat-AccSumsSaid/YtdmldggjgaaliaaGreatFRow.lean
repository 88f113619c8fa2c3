/- Rows of floats: what came in, and rows of one's own. -/
import Derived.Test.YtdmldggjgaaliaaGreatBase
import Derived.WalkKit
import Derived.LoopTactic
import Derived.BigCall
import Derived.BigQuiet
import Derived.Maps.AppendAt
import Derived.Laws.OwnMore
import Derived.Deep.OwnRows
namespace Go.Proofs.YtdmldggjgaaliaaGreat
open Go.RowKit

theorem hideS {p : Prop} (h : p) : Hid p := h
/-- The same, with the elder world's name kept. -/
theorem turned {P : Program} {f : Nat} {args : Array Value} {w : World} {Q : Ending → Prop} (h : Calls P f args w fun e w' => Q e ∧ w' = w) : Calls P f args w fun e w' => Q e ∧ w = w' :=
  h.mono fun _ _ ⟨a, b⟩ => ⟨a, b.symm⟩
theorem infoU : (Tryz.prog.info? 29).map (fun i => (i.zero, i.size, i.bytes)) = some (some (.int .u64 0), 1, 8) := by kernel_rfl
theorem infoF : (Tryz.prog.info? 26).map (fun i => (i.zero, i.size, i.bytes)) = some (some (.float .f64 0), 1, 8) := by kernel_rfl

theorem own_below {w w' : World} {B e size n : Nat} {v : Value} {xs : List Value} (h : w.ownsRow B e size v n xs) (hb : Below w.heap.size w w') : w'.ownsRow B e size v n xs := by
  refine ⟨h.1, ?_⟩
  rcases h.2 with hn | ⟨g, cap, cur, rfl, hg, hgg, rest⟩
  · exact .inl hn
  · exact .inr ⟨g, cap, cur, rfl, hg, by rw [hb.block g (Array.getElem?_eq_some_iff.1 hgg).1]; exact hgg, rest⟩

def uV (x : Nat) : Value := .int .u64 (x : Int)
def fV (x : Nat) : Value := .float .f64 x
theorem getD_some {l : List Nat} {i : Nat} (hi : i < l.length) : l[i]? = some (l.getD i 0) := by simp [List.getD, List.getElem?_eq_getElem hi]
/-- The first k, as values. -/
def rowOf (f : Nat → Value) (l : List Nat) (k : Nat) : List Value := (l.take k).map f
theorem take_next {f : Nat → Value} {l : List Nat} {k : Nat} (hk : k < l.length) : rowOf f l (k + 1) = rowOf f l k ++ [f (l.getD k 0)] := by
  unfold rowOf
  rw [List.take_add_one, getD_some hk, List.map_append]; rfl
theorem rowOf_all (f : Nat → Value) (l : List Nat) : rowOf f l l.length = l.map f := by unfold rowOf; rw [List.take_length]

/-- A slice that reads as a list of floats, wherever it lies. -/
structure Src (w : World) (p : Option Addr) (b off : Nat) (xs : List Nat) : Prop where
  at_ : 0 < xs.length → p = some ⟨b, off, none⟩
  lt : 0 < xs.length → b < w.heap.size
  cell : ∀ j, j < xs.length → w.cell? ⟨b, off + j, none⟩ = some (.float .f64 (xs.getD j 0))
theorem Src.below {w w' : World} {p : Option Addr} {b off : Nat} {xs : List Nat} (h : Src w p b off xs) (hb : Below w.heap.size w w') : Src w' p b off xs :=
  ⟨h.at_, fun hx => Nat.lt_of_lt_of_le (h.lt hx) hb.size, fun j hj => (hb.cell (p := ⟨b, off + j, none⟩) (h.lt (by omega))).trans (h.cell j hj)⟩

/-- A row of one's own, with where it lies. -/
structure OwnF (w : World) (B t : Nat) (f : Nat → Value) (v : Value) (xs : List Nat) : Prop where
  own : w.ownsRow B t 1 v xs.length (xs.map f)
theorem OwnF.below {w w' : World} {B t : Nat} {f : Nat → Value} {v : Value} {xs : List Nat} (h : OwnF w B t f v xs) (hb : Below w.heap.size w w') : OwnF w' B t f v xs := ⟨own_below h.own hb⟩
theorem OwnF.shape {w : World} {B t : Nat} {f : Nat → Value} {v : Value} {xs : List Nat} (h : OwnF w B t f v xs) :
    ∃ p g c, v = .slice p xs.length c ∧ (0 < xs.length → p = some ⟨g, 0, none⟩ ∧ B ≤ g ∧ g < w.heap.size) ∧ ∀ j, j < xs.length → w.cell? ⟨g, j, none⟩ = some (f (xs.getD j 0)) := by
  rcases h.own.2 with ⟨hv, hn⟩ | ⟨g, cap, cur, hv, hb, hg, _⟩
  · exact ⟨none, 0, 0, by rw [hv, hn], fun h0 => by omega, fun j hj => by omega⟩
  · refine ⟨some ⟨g, 0, none⟩, g, cap, hv, fun _ => ⟨rfl, hb, (Array.getElem?_eq_some_iff.1 hg).1⟩, fun j hj => ?_⟩
    have h2 := h.own
    rw [hv] at h2
    rw [h2.cellAt j (by omega), List.getElem?_map, getD_some hj]; rfl
theorem OwnF.cell1 {w : World} {B t g n c : Nat} {f : Nat → Value} {xs : List Nat} (h : OwnF w B t f (.slice (some ⟨g, 0, none⟩) n c) xs) (hn : xs.length = n) (j : Nat) (hj : j < xs.length) : w.cell? ⟨g, j, none⟩ = some (f (xs.getD j 0)) := by
  have h2 := h.own
  rw [hn] at h2
  rw [h2.cellAt j (by omega), List.getElem?_map, getD_some hj]; rfl

end Go.Proofs.YtdmldggjgaaliaaGreat
