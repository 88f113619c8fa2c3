/- strconv's text of 0.375 with two places: setDigits, fmtEFG. strconv's text of 0.375 with two places: ftoa64. -/
import Derived.Test.YtbgmbodedjhfoaaGreatDoorHah
import Derived.Test.YtbgmbodedjhfoaaGreatDoorTqR
namespace Go.Proofs.YtbgmbodedjhfoaaGreatDoor
open Go.RowKit

set_option maxRecDepth 20000 in
set_option maxHeartbeats 3200000 in
theorem sd_38 (g : Nat) (x0 x1 : Value) (w : World) (h0 : w.cell? ⟨g, 0, none⟩ = some x0) (h1 : w.cell? ⟨g, 1, none⟩ = some x1) (f0 : w.frozen? ⟨g, 0, none⟩ = false) (f1 : w.frozen? ⟨g, 1, none⟩ = false) (q1 : ((w.setCell ⟨g, 1, none⟩ (.int .u8 56)).setCell ⟨g, 0, none⟩ (.int .u8 51)).cell? ⟨g, 1, none⟩ = some (.int .u8 56)) :
    Calls Tryz.prog 119 #[.slice (some ⟨g, 0, none⟩) 24 24, .int .u64 38, .int .i64 (-2), .int .i64 2] w fun e w' => e = .returned (.tuple #[.int .i64 0, .int .i64 2]) ∧ w' = ((w.setCell ⟨g, 1, none⟩ (.int .u8 56)).setCell ⟨g, 0, none⟩ (.int .u8 51)).drew := by
  have HF := hidT (fb_38 g 24 x0 x1 w h0 h1 f0 f1)
  have HQ := hidT q1
  clear h0 h1 f0 f1 q1
  go_enter Tryz.func119, Tryz.ntmps119
  go_wp2_with fail
  refine HF.out.mono ?_
  rintro e w1 ⟨rfl, hw1⟩
  have q1 : w1.cell? ⟨g, 1, none⟩ = some (.int .u8 56) := by rw [hw1]; exact HQ.out
  have HW := hidT hw1
  clear hw1
  go_wp2_with fail
  refine wp_loop_rounds 2 ?_
  rw [rounds_succ]
  go_wp2_with fail
  go_ret2
  exact ⟨rfl, HW.out⟩
structure EfS (w0 : World) (B g : Nat) (cur : Array Value) (w : World) (v : Value) (n : Nat) (xs : List Int) : Prop where
  own : w.ownsRow B 5 1 v n (byV xs)
  buf : w.heap[g]? = some (.cells cur 99)
  bel : Below B w0 w
  le : B ≤ w.heap.size
theorem EfS.al {w0 : World} {B g : Nat} {cur : Array Value} {w : World} {v : Value} {n : Nat} {xs : List Int} (h : EfS w0 B g cur w v n xs) (o : Obj) : EfS w0 B g cur (w.alloc o) v n xs := by
  have hb : Below w.heap.size w (w.alloc o) := (Below.refl _ _).alloc (Nat.le_refl _) _
  exact ⟨byrow_below h.own hb, (hb.block g (by_lt h.buf)).trans h.buf, h.bel.trans (hb.mono h.le), Nat.le_trans h.le hb.size⟩
theorem EfS.more {w0 : World} {B g : Nat} {cur : Array Value} {w w5 : World} {v v5 : Value} {n : Nat} {xs ys : List Int} (h : EfS w0 B g cur w v n xs) (h5 : w5.ownsRow B 5 1 v5 (n + 1) (byV ys)) (hg : w.grownBy w5 v.ownBlock) : EfS w0 B g cur w5 v5 (n + 1) ys := by
  have := by_more h.own h.buf (by decide) h.bel h.le h5 hg
  exact ⟨this.1.1, this.1.2, this.2.1, this.2.2⟩
theorem by_cells (w : World) (x : Int) : ∀ j u, (byV [x])[j]? = some u → (w.alloc (.cells #[.int .u8 x] 5)).cell? ⟨w.heap.size, j, none⟩ = some u := fun j u h => by
  rw [by_new]
  simpa [byV] using h
set_option maxRecDepth 20000 in
set_option maxHeartbeats 6400000 in
theorem efg_38 (w0 : World) (B g : Nat) (cur : Array Value) (v : Value) (w : World) (h : EfS w0 B g cur w v 0 []) (c0 : cur[0]? = some (.int .u8 51)) (c1 : cur[1]? = some (.int .u8 56)) :
    Calls Tryz.prog 117 #[v, .bool false, .slice (some ⟨g, 0, none⟩) 24 24, .int .i64 0, .int .i64 2, .int .i64 2, .int .u8 102, .bool false] w fun e w' => ∃ v', e = .returned v' ∧ EfS w0 B g cur w' v' 4 [48, 46, 51, 56] := by
  have HE := hidT (h.al (.cells #[.int .u8 48] 5))
  have HC := hidT (And.intro c0 c1)
  have HC0 := hidT (by_cells w 48)
  clear h c0 c1
  have m1 : min (2 : Int) 0 = 0 := rfl
  have m2 : max (0 : Int) 2 = 2 := rfl
  have m3 : min (2 : Int) 2 = 2 := rfl
  have m4 : max (0 : Int) 0 = 0 := rfl
  go_enter Tryz.func117, Tryz.ntmps117
  go_wp2_with (first | (at_builtin; refine wpList_append_by _ rfl (.tmp 209) (.tmp 210) rfl B v 0 [] rfl HE.out.own HE.out.le w.heap.size 1 1 [48] rfl rfl HC0.out (by omega) ?_; intro v5 w5 ho5 hg5; have H5 := hidT (HE.out.more ho5 hg5); clear ho5 hg5; have H5a := hidT (H5.out.al (.cells #[.int .u8 46] 5)); have HC5 := hidT (by_cells w5 46)) | (at_builtin; refine wpList_append_by _ rfl (.tmp 214) (.tmp 215) rfl B v5 1 [48] rfl H5a.out.own H5a.out.le w5.heap.size 1 1 [46] rfl rfl HC5.out (by omega) ?_; intro v6 w6 ho6 hg6; have H6 := hidT (H5a.out.more ho6 hg6); clear ho6 hg6; have H6a := hidT (H6.out.al (.cells #[.int .u8 51] 5)); have HC6 := hidT (by_cells w6 51)))
  refine wp_loop_rounds 2 ?_
  rw [rounds_succ]
  have z0 := (by_cell H6.out.buf 0 HC.out.1).1
  go_wp2_with fail
  refine wp_loop_rounds 4 ?_
  rw [rounds_succ]
  go_wp2_with (at_builtin; refine wpList_append_by _ rfl (.tmp 250) (.tmp 257) rfl B v6 2 [48, 46] rfl H6a.out.own H6a.out.le w6.heap.size 1 1 [51] rfl rfl HC6.out (by omega) ?_; intro v7 w7 ho7 hg7; have H7 := hidT (H6a.out.more ho7 hg7); clear ho7 hg7; have H7a := hidT (H7.out.al (.cells #[.int .u8 56] 5)); have HC7 := hidT (by_cells w7 56); have z1 := (by_cell H7.out.buf 1 HC.out.2).1)
  rw [rounds_succ]
  go_wp2_with (at_builtin; refine wpList_append_by _ rfl (.tmp 250) (.tmp 257) rfl B v7 3 [48, 46, 51] rfl H7a.out.own H7a.out.le w7.heap.size 1 1 [56] rfl rfl HC7.out (by omega) ?_; intro v8 w8 ho8 hg8; have H8 := hidT (H7a.out.more ho8 hg8); clear ho8 hg8)
  rw [rounds_succ]
  go_wp2_with fail
  refine wp_loop_rounds 2 ?_
  rw [rounds_succ]
  go_wp2_with fail
  go_ret
  exact ⟨_, rfl, H8.out⟩
end Go.Proofs.YtbgmbodedjhfoaaGreatDoor
namespace Go.Proofs.YtbgmbodedjhfoaaGreatDoor
open Go.RowKit

theorem call_sbits (b : Nat) (w : World) : (callFunc 114 #[.float .f64 b]).run Tryz.prog w = .ok (.value (.int .u64 b)) w :=
  (run_callFunc_extern (e := Extern.MathFloatBits.float64bits) Tryz.func114 (by kernel_rfl) (by kernel_rfl) (by kernel_rfl) (by kernel_rfl) _ w).trans rfl
theorem blkT_far (w : World) (a : Addr) (v : Value) (k : Nat) (h : k ≠ a.block) : (w.setCell a v).heap[k]? = w.heap[k]? := by
  simp only [World.setCell, Array.getElem?_modify]
  rw [if_neg (by omega)]
def z24 : Array Value := #[.int .u8 0, .int .u8 0, .int .u8 0, .int .u8 0, .int .u8 0, .int .u8 0, .int .u8 0, .int .u8 0, .int .u8 0, .int .u8 0, .int .u8 0, .int .u8 0, .int .u8 0, .int .u8 0, .int .u8 0, .int .u8 0, .int .u8 0, .int .u8 0, .int .u8 0, .int .u8 0, .int .u8 0, .int .u8 0, .int .u8 0, .int .u8 0]
def d24 : Array Value := (z24.setIfInBounds 1 (.int .u8 56)).setIfInBounds 0 (.int .u8 51)
theorem d24_box {w : World} {g : Nat} (h : w.heap[g]? = some (.cells z24 99)) : ((w.setCell ⟨g, 1, none⟩ (.int .u8 56)).setCell ⟨g, 0, none⟩ (.int .u8 51)).heap[g]? = some (.cells d24 99) :=
  heap_setCell_same _ g 0 _ _ _ (heap_setCell_same w g 1 _ _ _ h)
theorem d24_bel {B : Nat} {w : World} {g : Nat} (hg : B ≤ g) : Below B w ((w.setCell ⟨g, 1, none⟩ (.int .u8 56)).setCell ⟨g, 0, none⟩ (.int .u8 51)).drew :=
  (((Below.refl B w).setCell (p := ⟨g, 1, none⟩) hg _).setCell (p := ⟨g, 0, none⟩) hg _).drew
set_option maxRecDepth 20000 in
set_option maxHeartbeats 6400000 in
theorem ft_38 (w0 : World) (B : Nat) (v : Value) (w : World) (ho : w.ownsRow B 5 1 v 0 (byV [])) (hB : B ≤ w.heap.size) (hb : Below B w0 w) (hp : PrT w) :
    Calls Tryz.prog 99 #[v, .float .f64 4600427019358961664, .int .u8 102, .int .i64 2] w fun e w' => ∃ v' g cur, e = .returned v' ∧ EfS w0 B g cur w' v' 4 [48, 46, 51, 56] := by
  have H0 := hidT (And.intro ho (And.intro hB hb))
  have HP := hidT hp
  clear ho hB hb hp
  have hcb := call_sbits
  have b1 : bits BinOp.and IntKind.i64 1021 2047 = 1021 := by kernel_rfl
  have b2 : bits BinOp.and IntKind.u64 4600427019358961664 4503599627370495 = 2251799813685248 := by kernel_rfl
  have b3 : bits BinOp.or IntKind.u64 2251799813685248 4503599627370496 = 6755399441055744 := by kernel_rfl
  have p1 := HP.out.op
  go_enter Tryz.func99, Tryz.ntmps99
  go_wp2_with go_in
  go_quiet (fail)
  obtain ⟨w1, hw1⟩ : ∃ wq, World.drewN w nq = wq := ⟨_, rfl⟩
  have HK1 : Hid (Below w.heap.size w w1) := by show Below _ _ _; rw [← hw1]; exact ⟨rfl, rfl, rfl, Nat.le_refl _, fun _ _ => rfl⟩
  rw [hw1]
  clear hw1 p1
  have HP1 := hidT (HP.out.below HK1.out)
  have p1 := HP1.out.op
  go_wp2_with (first | (go_at_call 88; refine (len_375 _).mono ?_; rintro e w2 ⟨rfl, rfl⟩) | (go_at_call 104; go_in))
  obtain ⟨w2, hw2⟩ : ∃ w2, w1.alloc (.cells #[.int .u8 0, .int .u8 0, .int .u8 0, .int .u8 0, .int .u8 0, .int .u8 0, .int .u8 0, .int .u8 0, .int .u8 0, .int .u8 0, .int .u8 0, .int .u8 0, .int .u8 0, .int .u8 0, .int .u8 0, .int .u8 0, .int .u8 0, .int .u8 0, .int .u8 0, .int .u8 0, .int .u8 0, .int .u8 0, .int .u8 0, .int .u8 0] 99) = w2 := ⟨_, rfl⟩
  obtain ⟨g, hg⟩ : ∃ g, w1.heap.size = g := ⟨_, rfl⟩
  have H2 : Hid (w2.ownsRow B 5 1 v 0 (byV []) ∧ w2.heap[g]? = some (.cells z24 99) ∧ Below B w0 w2 ∧ B ≤ w2.heap.size ∧ PrT w2 ∧ B ≤ g) := by
    have hb2 : Below w1.heap.size w1 w2 := by rw [← hw2]; exact (Below.refl _ _).alloc (Nat.le_refl _) _
    have hk : Below w.heap.size w w2 := HK1.out.trans (hb2.mono HK1.out.size)
    exact ⟨byrow_below H0.out.1 hk, by rw [← hw2, ← hg]; exact heap_alloc_new _ _, H0.out.2.2.trans (hk.mono H0.out.2.1), Nat.le_trans H0.out.2.1 hk.size, HP.out.below hk, by rw [← hg]; exact Nat.le_trans H0.out.2.1 HK1.out.size⟩
  rw [hw2, hg]
  clear hw2 hg p1
  refine (fwf_375 _ H2.out.2.2.2.2.1).mono ?_
  rintro e w3 ⟨rfl, hb3⟩
  have H3 : Hid (w3.ownsRow B 5 1 v 0 (byV []) ∧ w3.heap[g]? = some (.cells z24 99) ∧ Below B w0 w3 ∧ B ≤ w3.heap.size ∧ PrT w3 ∧ B ≤ g) := ⟨byrow_below H2.out.1 hb3, (hb3.block g (by_lt H2.out.2.1)).trans H2.out.2.1, H2.out.2.2.1.trans (hb3.mono H2.out.2.2.2.1), Nat.le_trans H2.out.2.2.2.1 hb3.size, H2.out.2.2.2.2.1.below hb3, H2.out.2.2.2.2.2⟩
  clear hb3
  have HN : Hid (PrT w3.drew) := H3.out.2.2.2.2.1.below ⟨rfl, rfl, rfl, Nat.le_refl _, fun _ _ => rfl⟩
  have HSd : Hid (Calls Tryz.prog 119 #[.slice (some ⟨g, 0, none⟩) 24 24, .int .u64 38, .int .i64 (-2), .int .i64 2] w3.drew fun e w' => e = .returned (.tuple #[.int .i64 0, .int .i64 2]) ∧ EfS w0 B g d24 w' v 0 []) := by
    have hbx : w3.drew.heap[g]? = some (.cells z24 99) := H3.out.2.1
    have hbx2 := d24_box hbx
    refine (sd_38 g _ _ w3.drew (by_cell hbx 0 rfl).1 (by_cell hbx 1 rfl).1 (by_cell hbx 0 rfl).2 (by_cell hbx 1 rfl).2 (by_cell hbx2 1 rfl).1).mono ?_
    rintro e w' ⟨he, hw'⟩
    have hbel : Below B w3.drew w' := by rw [hw']; exact d24_bel H3.out.2.2.2.2.2
    have hap : ∀ k, v.ownBlock = some k → k ≠ g := fun k hk e => by_box H3.out.1 H3.out.2.1 (by decide) (by rw [hk, e])
    refine ⟨he, ?_, by rw [hw']; exact hbx2, H3.out.2.2.1.trans ((⟨rfl, rfl, rfl, Nat.le_refl _, fun _ _ => rfl⟩ : Below B w3 w3.drew).trans hbel), ?_⟩
    · refine ⟨H3.out.1.1, ?_⟩
      rcases H3.out.1.2 with hn | ⟨k, cap, cu, rfl, hg, hgg, rest⟩
      · exact .inl hn
      · refine .inr ⟨k, cap, cu, rfl, hg, ?_, rest⟩
        have hkg := hap k rfl
        rw [hw']
        exact (blkT_far _ _ _ _ hkg).trans ((blkT_far _ _ _ _ hkg).trans hgg)
    · exact Nat.le_trans (show B ≤ w3.drew.heap.size from H3.out.2.2.2.1) hbel.size
  go_wp2_with fail
  go_region_with (first | (go_at_call 77; refine (num_38 _ HN.out).mono ?_; rintro e w4 ⟨rfl, rfl⟩) | (go_at_call 119; refine HSd.out.mono ?_; rintro e w5 ⟨rfl, h5⟩; have H5 := hidT h5; clear h5))
  all_goals
    go_wp2_with fail
    refine (efg_38 w0 B g d24 v _ H5.out rfl rfl).mono ?_
    rintro e w6 ⟨v6, rfl, h6⟩
    have H6 := hidT h6
    clear h6
    go_wp2_with fail
    go_ret
    exact ⟨_, _, _, rfl, H6.out⟩
end Go.Proofs.YtbgmbodedjhfoaaGreatDoor
