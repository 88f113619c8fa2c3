/- Rows of floats: what came in, and rows of one's own. The contracts of the document's Kind, times, above, long: rates. NaNs, infinities, numbers: math.IsNaN, math.IsInf; comparisons by ranks. -/
import Derived.Test.YtienedhaogjahaaGreatDoorAwake
import Derived.WalkKit
import Derived.LoopTactic
import Derived.BigCall
import Derived.BigQuiet
import Derived.Maps.AppendAt
import Derived.Laws.OwnMore
import Derived.Deep.OwnRows
import Derived.Test.YtienedhaogjahaaGreatDoorFlt
namespace Go.Proofs.YtienedhaogjahaaGreatDoor
open Go.RowKit

theorem hideS {p : Prop} (h : p) : Hid p := h
theorem turned {P : Program} {f : Nat} {args : Array Value} {w : World} {Q : Ending → Prop} (h : Calls P f args w fun e w' => Q e ∧ w' = w) : Calls P f args w fun e w' => Q e ∧ w = w' :=
  h.mono fun _ _ ⟨a, b⟩ => ⟨a, b.symm⟩
theorem own_below {w w' : World} {B e size n : Nat} {v : Value} {xs : List Value} (h : w.ownsRow B e size v n xs) (hb : Below w.heap.size w w') : w'.ownsRow B e size v n xs := by
  refine ⟨h.1, ?_⟩
  rcases h.2 with hn | ⟨g, cap, cur, rfl, hg, hgg, rest⟩
  · exact .inl hn
  · exact .inr ⟨g, cap, cur, rfl, hg, by rw [hb.block g (Array.getElem?_eq_some_iff.1 hgg).1]; exact hgg, rest⟩

theorem getD_some {l : List Nat} {i : Nat} (hi : i < l.length) : l[i]? = some (l.getD i 0) := by simp [List.getD, List.getElem?_eq_getElem hi]
structure Src (w : World) (p : Option Addr) (b off : Nat) (xs : List Nat) : Prop where
  at_ : 0 < xs.length → p = some ⟨b, off, none⟩
  lt : 0 < xs.length → b < w.heap.size
  cell : ∀ j, j < xs.length → w.cell? ⟨b, off + j, none⟩ = some (.float .f64 (xs.getD j 0))
theorem Src.below {w w' : World} {p : Option Addr} {b off : Nat} {xs : List Nat} (h : Src w p b off xs) (hb : Below w.heap.size w w') : Src w' p b off xs :=
  ⟨h.at_, fun hx => Nat.lt_of_lt_of_le (h.lt hx) hb.size, fun j hj => (hb.cell (p := ⟨b, off + j, none⟩) (h.lt (by omega))).trans (h.cell j hj)⟩

structure OwnF (w : World) (B t : Nat) (f : Nat → Value) (v : Value) (xs : List Nat) : Prop where
  own : w.ownsRow B t 1 v xs.length (xs.map f)
theorem OwnF.below {w w' : World} {B t : Nat} {f : Nat → Value} {v : Value} {xs : List Nat} (h : OwnF w B t f v xs) (hb : Below w.heap.size w w') : OwnF w' B t f v xs := ⟨own_below h.own hb⟩
theorem OwnF.shape {w : World} {B t : Nat} {f : Nat → Value} {v : Value} {xs : List Nat} (h : OwnF w B t f v xs) :
    ∃ p g c, v = .slice p xs.length c ∧ (0 < xs.length → p = some ⟨g, 0, none⟩ ∧ B ≤ g ∧ g < w.heap.size) ∧ ∀ j, j < xs.length → w.cell? ⟨g, j, none⟩ = some (f (xs.getD j 0)) := by
  rcases h.own.2 with ⟨hv, hn⟩ | ⟨g, cap, cur, hv, hb, hg, _⟩
  · exact ⟨none, 0, 0, by rw [hv, hn], fun h0 => by omega, fun j hj => by omega⟩
  · refine ⟨some ⟨g, 0, none⟩, g, cap, hv, fun _ => ⟨rfl, hb, (Array.getElem?_eq_some_iff.1 hg).1⟩, fun j hj => ?_⟩
    have h2 := h.own
    rw [hv] at h2
    rw [h2.cellAt j (by omega), List.getElem?_map, getD_some hj]; rfl
end Go.Proofs.YtienedhaogjahaaGreatDoor
namespace Go.Proofs.YtienedhaogjahaaGreatDoor
open Go.RowKit

def finB (u : Int) : Bool := decide (szI u < 9218868437227405312)
end Go.Proofs.YtienedhaogjahaaGreatDoor
namespace Go.Proofs.YtienedhaogjahaaGreatDoor
open Go.RowKit

set_option maxHeartbeats 400000 in
theorem isNaN_math (b : Nat) (w : World) (h : U64 b) :
    Calls Tryz.prog 131 #[.float .f64 b] w fun e w' => e = .returned (.bool (nanB b)) ∧ w' = w := by
  have h1 : (FloatKind.f64.format.order b b != some .eq) = nanB b := by rw [bne, eq_self h, Bool.not_not]
  clear h
  go_enter Tryz.func131, Tryz.ntmps131
  go_wp2
  go_ret
  exact ⟨rfl, rfl⟩

theorem compare_gt_iff (x y : Int) : (compare x y == .gt) = decide (y < x) := by
  show (compareOfLessAndEq x y == .gt) = _
  unfold compareOfLessAndEq
  by_cases a : x < y
  · have : ¬ y < x := by omega
    simp [a, this]
  · by_cases b : x = y
    · simp [b]
    · have : y < x := by omega
      simp [a, b, this]
theorem gt_rank {a b : Nat} (ha : U64 a) (hb : U64 b) (hna : nanB a = false) (hnb : nanB b = false) : (FloatKind.f64.format.order a b == some .gt) = decide (rankI b < rankI a) := by
  rw [order_rank (by have := ha.2; omega) (by have := hb.2; omega) hna hnb, ← compare_gt_iff]; rfl

theorem rkp_nan {r : Nat} (h : r ≤ 9218868437227405312) : nanB (r : Int) = false := by unfold nanB szI; rw [decide_eq_false_iff_not]; omega
theorem rkp_rank {r : Nat} (h : r ≤ 9218868437227405312) : rankI (r : Int) = r := by
  unfold rankI
  have hs : sgB (r : Int) = false := by unfold sgB; rw [decide_eq_false_iff_not]; omega
  rw [rkp_nan h, hs]
  show szI (r : Int) = r
  unfold szI; omega
theorem szN (x : Nat) : szI (x : Int) = ((x % 9223372036854775808 : Nat) : Int) := by unfold szI; omega
theorem inf_gt {x : Nat} (h : nanB (x : Int) = false) : (FloatKind.f64.format.order (x % 9223372036854775808) 9218868437227405311 == some .gt) = !finB (x : Int) := by
  have h1 := nan_false h
  have e : finB (x : Int) = decide (x % 9223372036854775808 < 9218868437227405312) := by
    unfold finB; rw [szN]; exact decide_eq_decide.2 (by omega)
  rw [e]
  generalize x % 9223372036854775808 = a at *
  rw [gt_rank (u64_of_nat (by omega)) (u64_of_nat (by omega)) (rkp_nan h1) (rkp_nan (r := 9218868437227405311) (by omega)), rkp_rank h1, rkp_rank (r := 9218868437227405311) (by omega)]
  by_cases c : a < 9218868437227405312
  · rw [decide_eq_true c]; exact decide_eq_false (by omega)
  · rw [decide_eq_false c]; exact decide_eq_true (by omega)

theorem fin_nan {x : Nat} (h : nanB (x : Int) = true) : finB (x : Int) = false := by
  unfold nanB at h; unfold finB
  have := of_decide_eq_true h
  exact decide_eq_false (by omega)

set_option maxHeartbeats 400000 in
theorem abs_math (x : Nat) (w : World) (h : U64 x) :
    Calls Tryz.prog 161 #[.float .f64 x] w fun e w' => e = .returned (.float .f64 (x % 9223372036854775808)) ∧ w' = w := by
  have h1 := call_bits
  have h2 := call_frombits
  have h3 := andNot_sz h
  have h4 : (szI (x : Int)).toNat = x % 9223372036854775808 := by rw [szN]; rfl
  clear h
  go_enter Tryz.func161, Tryz.ntmps161
  go_wp2
  go_ret
  exact ⟨rfl, rfl⟩

set_option maxHeartbeats 400000 in
theorem isInf_both (x : Nat) (g : Bool) (w : World) (h : U64 x) (hg : (FloatKind.f64.format.order (x % 9223372036854775808) 9218868437227405311 == some .gt) = g) :
    Calls Tryz.prog 132 #[.float .f64 x, .int .i64 0] w fun e w' => e = .returned (.bool g) ∧ w' = w := by
  have H := hideS fun w => abs_math x w h
  clear h
  generalize x % 9223372036854775808 = a at *
  go_enter Tryz.func132, Tryz.ntmps132
  go_wp2_with fail
  refine (H.out _).mono ?_
  rintro e w' ⟨rfl, rfl⟩
  go_wp2_with fail
  go_ret
  exact ⟨rfl, rfl⟩

end Go.Proofs.YtienedhaogjahaaGreatDoor
