/- Rows of words of 64 bits of one's own. Rows of floats of one's own. Flows: rows of them that came in, and rows of one's own; the program's (amounts as floats) and the document's (amounts as bits). -/
import Derived.Test.YtkcnkhdbojdhgabGreatHal
import Derived.Laws.AppendOwnNone
import Derived.OwnWalk
import Derived.WalkKit
import Derived.Handy
namespace Go.Proofs.YtkcnkhdbojdhgabGreat
open Go.RowKit

theorem info_ur : (Tryz.prog.info? 33).map (fun i => (i.zero, i.size, i.bytes)) = some (some (.int .u64 0), 1, 8) := by kernel_rfl
end Go.Proofs.YtkcnkhdbojdhgabGreat
namespace Go.Proofs.YtkcnkhdbojdhgabGreat
open Go.RowKit

theorem info_flr : (Tryz.prog.info? 35).map (fun i => (i.zero, i.size, i.bytes)) = some (some (.float .f64 0), 1, 8) := by kernel_rfl
structure FlSrc (w : World) (p : Option Addr) (b off : Nat) (xs : List Nat) : Prop where
  at_ : 0 < xs.length → p = some ⟨b, off, none⟩
  lt : 0 < xs.length → b < w.heap.size
  cell : ∀ j, j < xs.length → w.cell? ⟨b, off + j, none⟩ = some (.float .f64 (xs.getD j 0))
theorem flown_src {w : World} {base n : Nat} {v : Value} {xs : List Nat} (h : w.ownsRow base 35 1 v n (xs.map fV)) (hn : xs.length = n) :
    ∃ p g c, v = .slice p n c ∧ FlSrc w p g 0 xs ∧ base ≤ g ∧ n ≤ c ∧ c ≤ maxLen := by
  rcases h.2 with ⟨rfl, rfl⟩ | ⟨g, cap, cur, rfl, hg, hh, hnc, hcm, hsz, htk⟩
  · exact ⟨none, base, 0, rfl, ⟨fun h => by omega, fun h => by omega, fun i hi => by omega⟩, Nat.le_refl _, Nat.le_refl _, Nat.zero_le _⟩
  · refine ⟨_, g, cap, rfl, ⟨fun _ => rfl, fun _ => (Array.getElem?_eq_some_iff.1 hh).1, fun i hi => ?_⟩, hg, hnc, hcm⟩
    rw [Nat.zero_add, World.ownsRow.cellAt h i (by omega), List.getElem?_map, List.getD_eq_getElem?_getD, List.getElem?_eq_getElem hi]; rfl
end Go.Proofs.YtkcnkhdbojdhgabGreat
namespace Go.Proofs.YtkcnkhdbojdhgabGreat
open Go.RowKit

structure Flw where
  (day : Int) (am : Nat) (cur : Int)
def flw0 : Flw := ⟨0, 0, 0⟩
def aF (a : Nat) : Value := .float .f64 a
structure FCells (mk : Nat → Value) (w : World) (b o : Nat) (f : Flw) : Prop where
  c0 : w.cell? ⟨b, o, none⟩ = some (.int .i64 f.day)
  c1 : w.cell? ⟨b, o + 1, none⟩ = some (mk f.am)
  c2 : w.cell? ⟨b, o + 2, none⟩ = some (.int .i64 f.cur)
theorem FCells.below {mk : Nat → Value} {w w' : World} {B b o : Nat} {f : Flw} (h : FCells mk w b o f) (hb : Below B w w') (hB : b < B) : FCells mk w' b o f :=
  ⟨(hb.cell (p := ⟨b, o, none⟩) hB).trans h.c0, (hb.cell (p := ⟨b, o + 1, none⟩) hB).trans h.c1, (hb.cell (p := ⟨b, o + 2, none⟩) hB).trans h.c2⟩
structure JSrc (mk : Nat → Value) (w : World) (p : Option Addr) (b off : Nat) (l : List Flw) : Prop where
  at_ : 0 < l.length → p = some ⟨b, off, none⟩
  lt : 0 < l.length → b < w.heap.size
  cell : ∀ i, i < l.length → FCells mk w b (off + i * 3) (l.getD i flw0)
theorem JSrc.below {mk : Nat → Value} {w w' : World} {p : Option Addr} {b off : Nat} {l : List Flw} (h : JSrc mk w p b off l) (hb : Below w.heap.size w w') : JSrc mk w' p b off l :=
  ⟨h.at_, fun hx => Nat.lt_of_lt_of_le (h.lt hx) hb.size, fun j hj => (h.cell j hj).below hb (h.lt (by omega))⟩
end Go.Proofs.YtkcnkhdbojdhgabGreat
