/- The document's words of kinds, counts, numbers and days. -/
import Derived.Test.YtiiajhomdpfafaaGreatDoorHbq
import Derived.Test.YtiiajhomdpfafaaGreatDoorHbg
import Derived.Test.YtiiajhomdpfafaaGreatDoorHbo
import Derived.Test.YtiiajhomdpfafaaGreatDoorHau
namespace Go.Proofs.YtiiajhomdpfafaaGreatDoor
open Go.RowKit

set_option maxRecDepth 20000 in
theorem r17Counts_any (w : World) : Calls Tryz.prog 63 #[] w fun e w' => e = .returned (.slice (some ⟨w.heap.size, 0, none⟩) 5 5) ∧ w' = w.alloc (.cells cntsV 9) := by
  go_enter Tryz.func63, Tryz.ntmps63
  go_wp2_with fail
  go_ret
  exact ⟨rfl, rfl⟩
def kdsV : Array Value := #[.string ⟨#[122, 101, 114, 111]⟩, .string ⟨#[112, 97, 121]⟩, .string ⟨#[102, 105, 120, 101, 100]⟩, .string ⟨#[103, 105, 118, 101]⟩, .string ⟨#[98, 111, 116, 104]⟩, .string ⟨#[115, 99, 97, 108, 101]⟩, .string ⟨#[119, 105, 110, 100, 111, 119]⟩, .string ⟨#[114, 101, 112, 101, 97, 116]⟩]
set_option maxRecDepth 20000 in
theorem r17kinds_any (w : World) : Calls Tryz.prog 59 #[] w fun e w' => e = .returned (.slice (some ⟨w.heap.size, 0, none⟩) 8 8) ∧ w' = w.alloc (.cells kdsV 9) := by
  go_enter Tryz.func59, Tryz.ntmps59
  go_wp2_with fail
  go_ret
  exact ⟨rfl, rfl⟩
theorem kds_cell (w : World) {n : Int} (h0 : 1 ≤ n) (h1 : n ≤ 8) : ∃ j : Nat, n - 1 = (j : Int) ∧ j < 8 ∧ (w.alloc (.cells kdsV 9)).cell? ⟨w.heap.size, j, none⟩ = some (.string (wdK n)) := by
  rcases (show n = 1 ∨ n = 2 ∨ n = 3 ∨ n = 4 ∨ n = 5 ∨ n = 6 ∨ n = 7 ∨ n = 8 by omega) with rfl | rfl | rfl | rfl | rfl | rfl | rfl | rfl
  · exact ⟨0, by decide, by decide, (box_cell w _ _ 0).trans rfl⟩
  · exact ⟨1, by decide, by decide, (box_cell w _ _ 1).trans rfl⟩
  · exact ⟨2, by decide, by decide, (box_cell w _ _ 2).trans rfl⟩
  · exact ⟨3, by decide, by decide, (box_cell w _ _ 3).trans rfl⟩
  · exact ⟨4, by decide, by decide, (box_cell w _ _ 4).trans rfl⟩
  · exact ⟨5, by decide, by decide, (box_cell w _ _ 5).trans rfl⟩
  · exact ⟨6, by decide, by decide, (box_cell w _ _ 6).trans rfl⟩
  · exact ⟨7, by decide, by decide, (box_cell w _ _ 7).trans rfl⟩
set_option maxRecDepth 20000 in
theorem r17hex_any (u : Nat) (w : World) (hu : U64 (u : Int)) (hk : finB (u : Int) = true) : Calls Tryz.prog 60 #[.int .u64 (u : Int)] w fun e w' => e = .returned (.string (hxB17 u)) ∧ Below w.heap.size w w' := by
  have H := hidD (hexD_ok u w hu hk)
  clear hu hk
  unfold hxB17
  generalize bsA (hexS u) = s at *
  go_enter Tryz.func60, Tryz.ntmps60
  go_wp2_with fail
  refine H.out.mono ?_
  rintro e w1 ⟨rfl, hb⟩
  have HB := hidD hb
  clear hb H
  go_wp2_with fail
  go_ret
  exact ⟨rfl, HB.out⟩
set_option maxRecDepth 20000 in
theorem r17date_of (n : Int) (y m d : Nat) (w : World) (h : IsD n y m d) : Calls Tryz.prog 62 #[.int .i64 n] w fun e w' => e = .returned (.string (dateT y m d)) ∧ Below w.heap.size w w' := by
  have H := hidD (refPrint_ok n y m d w h)
  clear h
  generalize dateT y m d = s at *
  go_enter Tryz.func62, Tryz.ntmps62
  go_wp2_with fail
  refine H.out.mono ?_
  rintro e w1 ⟨rfl, hb⟩
  have HB := hidD hb
  clear hb H
  go_wp2_with fail
  go_ret
  exact ⟨rfl, HB.out⟩
theorem r17date_any {dy : Int → ByteArray} (hd : DyOk dy) (n : Int) (w : World) (h0 : 0 ≤ n) (h1 : n ≤ 109572) : Calls Tryz.prog 62 #[.int .i64 n] w fun e w' => e = .returned (.string (dy n)) ∧ Below w.heap.size w w' := by
  obtain ⟨y, m, d, hI, e⟩ := hd n h0 h1
  rw [e]
  exact r17date_of n y m d w hI
theorem r17whole_any (n : Int) (w : World) (h0 : 0 ≤ n) (h1 : n ≤ 5000) : Calls Tryz.prog 61 #[.int .i64 n] w fun e w' => e = .returned (.string (itB17 n)) ∧ Below w.heap.size w w' := by
  have e : bsA (Lib.itoa n) = itB17 n := by
    unfold itB17 Lib.itoa
    rw [if_neg (by omega)]
    rfl
  rw [← e]
  exact wholeT_any n w (by omega) (by omega)
def TrDB (w : World) (g : Nat) (t : Trm) : Prop := w.heap[g]? = some (.cells (trD t) 51)
theorem TrDB.below {w w' : World} {g : Nat} {t : Trm} (h : TrDB w g t) (hb : Below w.heap.size w w') : TrDB w' g t := (hb.block _ (lt_of_blk h)).trans h
theorem TrDB.c {w : World} {g : Nat} {t : Trm} (h : TrDB w g t) (i : Nat) : w.cell? ⟨g, i, none⟩ = (trD t)[i]? := by
  unfold TrDB at h
  simp only [World.cell?, h, Option.isSome_none, Bool.false_eq_true, if_false]
theorem add_y {ox oy : Operand} {a : Act} {x y s : ByteArray} (hx : a.eval ox = .string x) (hy : a.eval oy = .string y) (hs : x ++ y = s) (hz : x.size + y.size ≤ 9223372036854775807) {o : Oper} (ho : o.op = .binOp .add 9 ox oy 9) (w : World) : (execOp a.eval o).run Tryz.prog w = .ok (.value (.string s)) w := by
  have g : ¬ 9223372036854775807 < x.size + y.size := by omega
  unfold execOp
  rw [ho]
  simp only [hx, hy]
  rw [← hs]
  go_simp
end Go.Proofs.YtiiajhomdpfafaaGreatDoor
