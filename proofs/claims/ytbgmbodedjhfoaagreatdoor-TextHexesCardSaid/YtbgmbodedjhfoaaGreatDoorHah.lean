/- strconv's digits of 0.375 with two places. strconv's digits of 0.375 with two places: fixedWidthFloat, numDigits. strconv's digits of 0.375 with two places: formatBase10, setDigits. -/
import Derived.Test.YtbgmbodedjhfoaaGreatDoorProg
import Derived.Handy
import Derived.WalkMore
import Derived.Below
import Derived.BigFrame
import Derived.BigQuiet
import Derived.WalkSpells
import Derived.WalkLawsBesides
import Derived.Lib.MinMax
import Derived.Deep.RegionHeld3
namespace Go.Proofs.YtbgmbodedjhfoaaGreatDoor
open Go.RowKit

structure PrT (w : World) : Prop where
  hi : w.cell? ⟨15, 702, none⟩ = some (.int .u64 18014398509481984000)
  lo : w.cell? ⟨15, 703, none⟩ = some (.int .u64 0)
  p1 : w.cell? ⟨1, 1, none⟩ = some (.int .u64 10)
  p3 : w.cell? ⟨1, 3, none⟩ = some (.int .u64 1000)
  op : w.cell? ⟨4, 0, none⟩ = some (.bool true)
theorem PrT.below {w w' : World} (h : PrT w) (hb : Below w.heap.size w w') : PrT w' := by
  have k : ∀ (a : Addr) v, w.cell? a = some v → w'.cell? a = some v := fun a v e => (World.cell?_of_block (w := w) (a := a) (hb.block a.block (World.block_lt_of_cell? _ _ e))).trans e
  exact ⟨k _ _ h.hi, k _ _ h.lo, k _ _ h.p1, k _ _ h.p3, k _ _ h.op⟩
set_option maxRecDepth 20000 in
set_option maxHeartbeats 3200000 in
theorem mul_a (w : World) : Calls Tryz.prog 173 #[.int .u64 13835058055282163712, .int .u64 18014398509481984000] w fun e w' => e = .returned (.tuple #[.int .u64 13510798882111488000, .int .u64 0]) ∧ Below w.heap.size w w' := by
  go_enter Tryz.func173, Tryz.ntmps173
  go_wp2
  go_ret2
  exact ⟨by rfl, Below.refl _ _⟩
set_option maxRecDepth 20000 in
set_option maxHeartbeats 3200000 in
theorem mul_b (w : World) : Calls Tryz.prog 173 #[.int .u64 13835058055282163712, .int .u64 0] w fun e w' => e = .returned (.tuple #[.int .u64 0, .int .u64 0]) ∧ Below w.heap.size w w' := by
  go_enter Tryz.func173, Tryz.ntmps173
  go_wp2
  go_ret2
  exact ⟨by rfl, Below.refl _ _⟩
set_option maxRecDepth 20000 in
set_option maxHeartbeats 3200000 in
theorem b2_no (w : World) : Calls Tryz.prog 142 #[.bool false] w fun e w' => e = .returned (.int .u64 0) ∧ w' = w := by
  go_enter Tryz.func142, Tryz.ntmps142
  go_wp2
  go_ret
  exact ⟨rfl, rfl⟩
set_option maxRecDepth 20000 in
set_option maxHeartbeats 3200000 in
theorem b2r_no (w : World) : Calls Tryz.prog 174 #[.bool false] w fun e w' => e = .returned (.int .u64 0) ∧ w' = w := by
  go_enter Tryz.func174, Tryz.ntmps174
  go_wp2
  go_ret
  exact ⟨rfl, rfl⟩
set_option maxRecDepth 20000 in
set_option maxHeartbeats 3200000 in
theorem div_375 (w : World) : Calls Tryz.prog 158 #[.int .u64 1500, .int .u64 10] w fun e w' => e = .returned (.int .u64 150) ∧ Below w.heap.size w w' := by
  go_enter Tryz.func158, Tryz.ntmps158
  go_wp2_with fail
  go_region_with ((go_at_call 174; refine (b2r_no _).mono ?_; rintro e w1 ⟨rfl, rfl⟩))
  all_goals
    go_wp2_with fail
    go_ret
    exact ⟨by rfl, ⟨rfl, rfl, rfl, Nat.le_refl _, fun _ _ => rfl⟩⟩
set_option maxRecDepth 20000 in
set_option maxHeartbeats 3200000 in
theorem rnd_375 (w : World) : Calls Tryz.prog 156 #[.int .u64 150] w fun e w' => e = .returned (.int .u64 38) ∧ w' = w := by
  go_enter Tryz.func156, Tryz.ntmps156
  go_wp2
  go_ret
  exact ⟨by rfl, rfl⟩
set_option maxRecDepth 20000 in
set_option maxHeartbeats 3200000 in
theorem usc_375 (g : Nat) (w : World) (h0 : w.cell? ⟨g, 0, none⟩ = some (.int .u64 18014398509481984000)) (h1 : w.cell? ⟨g, 1, none⟩ = some (.int .u64 0)) (h2 : w.cell? ⟨g, 2, none⟩ = some (.int .i64 53)) :
    Calls Tryz.prog 152 #[.int .u64 13835058055282163712, .pointer (some ⟨g, 0, none⟩)] w fun e w' => e = .returned (.int .u64 1500) ∧ Below w.heap.size w w' := by
  have hlt : g < w.heap.size := World.block_lt_of_cell? _ _ h0
  have hbt : bits BinOp.and IntKind.i64 53 63 = 53 := by kernel_rfl
  go_enter Tryz.func152, Tryz.ntmps152
  go_wp2_with fail
  refine (mul_a _).mono ?_
  rintro e w1 ⟨rfl, hb1⟩
  have k : ∀ i, w1.cell? ⟨g, i, none⟩ = w.cell? ⟨g, i, none⟩ := fun i => World.cell?_of_block (w := w) (a := ⟨g, i, none⟩) (hb1.block g hlt)
  have a1 := (k 1).trans h1
  have a2 := (k 2).trans h2
  have HB1 : Hid (Below w.heap.size w w1) := hb1
  clear h0 h1 h2 k hb1 hlt
  go_wp2_with fail
  refine (mul_b _).mono ?_
  rintro e w2 ⟨rfl, hb2⟩
  have HB2 : Hid (Below w.heap.size w w2) := HB1.out.trans (hb2.mono HB1.out.size)
  clear hb2
  go_wp2_with ((go_at_call 142; refine (b2_no _).mono ?_; rintro e w3 ⟨rfl, rfl⟩))
  go_region_with ((go_at_call 142; refine (b2_no _).mono ?_; rintro e w4 ⟨rfl, rfl⟩))
  all_goals
    go_wp2_with fail
    go_ret
    exact ⟨by rfl, HB2.out.trans ⟨rfl, rfl, rfl, Nat.le_refl _, fun _ _ => rfl⟩⟩
end Go.Proofs.YtbgmbodedjhfoaaGreatDoor
namespace Go.Proofs.YtbgmbodedjhfoaaGreatDoor
open Go.RowKit

theorem hidT {P : Prop} (h : P) : Hid P := h
set_option maxRecDepth 20000 in
set_option maxHeartbeats 3200000 in
theorem fwf_375 (w : World) (h : PrT w) : Calls Tryz.prog 120 #[.int .u64 13835058055282163712, .int .i64 (-65), .int .i64 3, .int .i64 2, .int .u8 102] w fun e w' => e = .returned (.tuple #[.int .u64 38, .int .i64 (-2)]) ∧ Below w.heap.size w w' := by
  have hg0 : 15 < w.heap.size := World.block_lt_of_cell? _ _ h.hi
  have hg1 : 15 ≠ w.heap.size := Nat.ne_of_lt hg0
  have HS : Hid (Below w.heap.size w (w.alloc (.cells #[.int .u64 18014398509481984000, .int .u64 0, .int .i64 53] 189))) := (Below.refl _ _).alloc (Nat.le_refl _) _
  have HU := hidT (usc_375 w.heap.size (w.alloc (.cells #[.int .u64 18014398509481984000, .int .u64 0, .int .i64 53] 189)) (by simp) (by simp) (by simp))
  have HP : Hid (∀ w1, Below (w.alloc (.cells #[.int .u64 18014398509481984000, .int .u64 0, .int .i64 53] 189)).heap.size (w.alloc (.cells #[.int .u64 18014398509481984000, .int .u64 0, .int .i64 53] 189)) w1 → Below w.heap.size w w1 ∧ PrT w1) := fun w1 hb => ⟨HS.out.trans (hb.mono HS.out.size), h.below (HS.out.trans (hb.mono HS.out.size))⟩
  obtain ⟨hi, lo, _, _, _⟩ := h
  go_enter Tryz.func120, Tryz.ntmps120
  go_wp2_with (first | (go_at_call 152; refine HU.out.mono ?_; rintro e w1 ⟨rfl, hb1⟩; have H1 := hidT (HP.out w1 hb1); clear hb1; have q3 := H1.out.2.p3) | go_in)
  refine wp_loop_rounds 3 ?_
  rw [rounds_succ]
  go_wp2_with (first | (go_at_call 158; refine (div_375 _).mono ?_; rintro e w2 ⟨rfl, hb2⟩; have H2 := hidT (H1.out.1.trans (hb2.mono H1.out.1.size)); clear hb2) | go_in)
  rw [rounds_succ]
  go_wp2_with (first | (go_at_call 156; refine (rnd_375 _).mono ?_; rintro e w3 ⟨rfl, rfl⟩))
  go_ret2
  exact ⟨by rfl, H2.out⟩
set_option maxRecDepth 20000 in
set_option maxHeartbeats 3200000 in
theorem len_38 (w : World) : Calls Tryz.prog 88 #[.int .u64 38] w fun e w' => e = .returned (.int .i64 6) ∧ w' = w := by
  go_enter Tryz.func88, Tryz.ntmps88
  go_wp2
  go_ret
  exact ⟨by kernel_rfl, rfl⟩
set_option maxRecDepth 20000 in
set_option maxHeartbeats 3200000 in
theorem len_375 (w : World) : Calls Tryz.prog 88 #[.int .u64 6755399441055744] w fun e w' => e = .returned (.int .i64 53) ∧ w' = w := by
  go_enter Tryz.func88, Tryz.ntmps88
  go_wp2
  go_ret
  exact ⟨by kernel_rfl, rfl⟩
set_option maxRecDepth 20000 in
set_option maxHeartbeats 3200000 in
theorem num_38 (w : World) (h : PrT w) : Calls Tryz.prog 77 #[.int .u64 38] w fun e w' => e = .returned (.int .i64 2) ∧ w' = w := by
  obtain ⟨_, _, p1, _, _⟩ := h
  go_enter Tryz.func77, Tryz.ntmps77
  go_wp2_with (first | (go_at_call 88; refine (len_38 _).mono ?_; rintro e w1 ⟨rfl, rfl⟩) | go_in)
  go_ret
  exact ⟨by rfl, rfl⟩
end Go.Proofs.YtbgmbodedjhfoaaGreatDoor
namespace Go.Proofs.YtbgmbodedjhfoaaGreatDoor
open Go.RowKit

set_option maxRecDepth 20000 in
set_option maxHeartbeats 3200000 in
theorem fb_38 (g c : Nat) (x0 x1 : Value) (w : World) (h0 : w.cell? ⟨g, 0, none⟩ = some x0) (h1 : w.cell? ⟨g, 1, none⟩ = some x1) (f0 : w.frozen? ⟨g, 0, none⟩ = false) (f1 : w.frozen? ⟨g, 1, none⟩ = false) :
    Calls Tryz.prog 78 #[.slice (some ⟨g, 0, none⟩) 2 c, .int .u64 38] w fun e w' => e = .returned (.tuple #[]) ∧ w' = ((w.setCell ⟨g, 1, none⟩ (.int .u8 56)).setCell ⟨g, 0, none⟩ (.int .u8 51)).drew := by
  go_enter Tryz.func78, Tryz.ntmps78
  go_wp2_with fail
  refine wp_loop_rounds 2 ?_
  rw [rounds_succ]
  go_wp2_with fail
  go_region
  go_wp2_with fail
  exact bodyPost_end (v := .tuple #[]) (by simp [results, Tryz.results78, go_sem]) rfl ⟨rfl, by rfl⟩
end Go.Proofs.YtbgmbodedjhfoaaGreatDoor
