/- Rows of words of 64 bits of one's own. Rows of floats of one's own. -/
import Derived.Test.YtphnainibdepbaaGreatHav
import Derived.Laws.AppendOwnNone
import Derived.OwnWalk
import Derived.WalkKit
import Derived.Handy
namespace Go.Proofs.YtphnainibdepbaaGreat
open Go.RowKit

theorem info_ur : (Tryz.prog.info? 49).map (fun i => (i.zero, i.size, i.bytes)) = some (some (.int .u64 0), 1, 8) := by kernel_rfl
structure USrc (w : World) (p : Option Addr) (b off : Nat) (xs : List Nat) : Prop where
  at_ : 0 < xs.length → p = some ⟨b, off, none⟩
  lt : 0 < xs.length → b < w.heap.size
  cell : ∀ j, j < xs.length → w.cell? ⟨b, off + j, none⟩ = some (.int .u64 (xs.getD j 0 : Nat))
theorem USrc.below {w w' : World} {p : Option Addr} {b off : Nat} {xs : List Nat} (h : USrc w p b off xs) (hb : Below w.heap.size w w') : USrc w' p b off xs :=
  ⟨h.at_, fun hx => Nat.lt_of_lt_of_le (h.lt hx) hb.size, fun j hj => (hb.cell (p := ⟨b, off + j, none⟩) (h.lt (by omega))).trans (h.cell j hj)⟩
theorem uown_src {w : World} {base n : Nat} {v : Value} {xs : List Nat} (h : w.ownsRow base 49 1 v n (xs.map uV)) (hn : xs.length = n) :
    ∃ p g c, v = .slice p n c ∧ USrc w p g 0 xs ∧ base ≤ g ∧ n ≤ c ∧ c ≤ maxLen := by
  rcases h.2 with ⟨rfl, rfl⟩ | ⟨g, cap, cur, rfl, hg, hh, hnc, hcm, hsz, htk⟩
  · exact ⟨none, base, 0, rfl, ⟨fun h => by omega, fun h => by omega, fun i hi => by omega⟩, Nat.le_refl _, Nat.le_refl _, Nat.zero_le _⟩
  · refine ⟨_, g, cap, rfl, ⟨fun _ => rfl, fun _ => (Array.getElem?_eq_some_iff.1 hh).1, fun i hi => ?_⟩, hg, hnc, hcm⟩
    rw [Nat.zero_add, World.ownsRow.cellAt h i (by omega), List.getElem?_map, List.getD_eq_getElem?_getD, List.getElem?_eq_getElem hi]; rfl
theorem uown_nil (w : World) (base : Nat) : w.ownsRow base 49 1 (.slice none 0 0) 0 (([] : List Nat).map uV) := ⟨rfl, Or.inl ⟨rfl, rfl⟩⟩
theorem uown_below {w w' : World} {base n : Nat} {v : Value} {xs : List Nat} (h : w.ownsRow base 49 1 v n (xs.map uV)) (hb : Below w.heap.size w w') : w'.ownsRow base 49 1 v n (xs.map uV) := by
  refine ⟨h.1, ?_⟩
  rcases h.2 with hn | ⟨g, cap, cur, rfl, hg, hgg, rest⟩
  · exact .inl hn
  · exact .inr ⟨g, cap, cur, rfl, hg, by rw [hb.block g (Array.getElem?_eq_some_iff.1 hgg).1]; exact hgg, rest⟩
theorem ugrown_below {w w' : World} {v : Value} {B n : Nat} {xs : List Value} (ho : w.ownsRow B 49 1 v n xs) (hg : w.grownBy w' v.ownBlock) (hB : B ≤ w.heap.size) : Below B w w' :=
  (Below.refl B w).grown hg hB (fun k hk => by
    rcases ho.2 with ⟨rfl, _⟩ | ⟨g, cap, cur, rfl, hbg, _⟩
    · cases hk
    · obtain rfl : g = k := by simpa [Value.ownBlock] using hk
      exact hbg)
end Go.Proofs.YtphnainibdepbaaGreat
namespace Go.Proofs.YtphnainibdepbaaGreat
open Go.RowKit

theorem info_flr : (Tryz.prog.info? 42).map (fun i => (i.zero, i.size, i.bytes)) = some (some (.float .f64 0), 1, 8) := by kernel_rfl
structure FlSrc (w : World) (p : Option Addr) (b off : Nat) (xs : List Nat) : Prop where
  at_ : 0 < xs.length → p = some ⟨b, off, none⟩
  lt : 0 < xs.length → b < w.heap.size
  cell : ∀ j, j < xs.length → w.cell? ⟨b, off + j, none⟩ = some (.float .f64 (xs.getD j 0))
theorem FlSrc.below {w w' : World} {p : Option Addr} {b off : Nat} {xs : List Nat} (h : FlSrc w p b off xs) (hb : Below w.heap.size w w') : FlSrc w' p b off xs :=
  ⟨h.at_, fun hx => Nat.lt_of_lt_of_le (h.lt hx) hb.size, fun j hj => (hb.cell (p := ⟨b, off + j, none⟩) (h.lt (by omega))).trans (h.cell j hj)⟩
theorem flown_src {w : World} {base n : Nat} {v : Value} {xs : List Nat} (h : w.ownsRow base 42 1 v n (xs.map fV)) (hn : xs.length = n) :
    ∃ p g c, v = .slice p n c ∧ FlSrc w p g 0 xs ∧ base ≤ g ∧ n ≤ c ∧ c ≤ maxLen := by
  rcases h.2 with ⟨rfl, rfl⟩ | ⟨g, cap, cur, rfl, hg, hh, hnc, hcm, hsz, htk⟩
  · exact ⟨none, base, 0, rfl, ⟨fun h => by omega, fun h => by omega, fun i hi => by omega⟩, Nat.le_refl _, Nat.le_refl _, Nat.zero_le _⟩
  · refine ⟨_, g, cap, rfl, ⟨fun _ => rfl, fun _ => (Array.getElem?_eq_some_iff.1 hh).1, fun i hi => ?_⟩, hg, hnc, hcm⟩
    rw [Nat.zero_add, World.ownsRow.cellAt h i (by omega), List.getElem?_map, List.getD_eq_getElem?_getD, List.getElem?_eq_getElem hi]; rfl
end Go.Proofs.YtphnainibdepbaaGreat
