/- The walk of InterpLent: lists are memory of their own; what is handed in stays, the room behind it too. -/
import Derived.Test.YtnmjljijgmmakabGreatHbi
namespace Go.Proofs.YtnmjljijgmmakabGreat
open Go.RowKit

set_option maxRecDepth 20000 in
set_option maxHeartbeats 1600000 in
theorem interpLent_many (kind x k : Int) (px py : Option Addr) (lx cx ly cy : Nat) (w : World) (hl : 40 < lx ∨ 40 < ly) (hmx : lx ≤ 9223372036854775807) (hmy : ly ≤ 9223372036854775807)
    (HW : Hid (∀ wx, Calls Tryz.prog 4 #[] wx fun e w' => e = .returned (.bool true) ∧ Below wx.heap.size wx w')) :
    Calls Tryz.prog 3 #[.agg #[.int .i64 kind, .slice px lx cx, .slice py ly cy], .int .i64 x, .int .i64 k] w fun e w' => e = .returned (.bool true) ∧ Below w.heap.size w w' := by
  have HB0 := hideS (abox_at w kind (.slice px lx cx) (.slice py ly cy))
  by_cases h1 : 40 < lx
  · have d1 : decide ((40 : Int) < (lx : Int)) = true := decide_eq_true (by omega)
    clear hl h1
    go_enter Tryz.func3, Tryz.ntmps3
    go_wp2_with (go_at_call 4; refine (HW.out _).mono ?_; rintro e w9 ⟨rfl, hb9⟩)
    go_ret
    exact ⟨rfl, (HB0.out.step hb9).bl⟩
  · have d1 : decide ((40 : Int) < (lx : Int)) = false := decide_eq_false (by omega)
    have d2 : decide ((40 : Int) < (ly : Int)) = true := decide_eq_true (by omega)
    clear hl h1
    go_enter Tryz.func3, Tryz.ntmps3
    go_wp2_with (go_at_call 4; refine (HW.out _).mono ?_; rintro e w9 ⟨rfl, hb9⟩)
    go_ret
    exact ⟨rfl, (HB0.out.step hb9).bl⟩
theorem apiBitsL (x : Nat) (w : World) : Calls Tryz.prog 12 #[.float .f64 x] w fun e w' => e = .returned (.int .u64 (x : Int)) ∧ w' = w := by
  have h1 := call_bits
  go_enter Tryz.func12, Tryz.ntmps12
  go_wp2
  go_ret
  exact ⟨rfl, rfl⟩
theorem two_ints (w : World) (a b : Int) : VSrc (w.alloc (.cells #[.int .i64 a, .int .i64 b] 3)) (some ⟨w.heap.size, 0, none⟩) w.heap.size 0 2 (xV [a, b]) := by
  refine ⟨fun _ => rfl, fun _ => by simp, fun j hj => ?_⟩
  rcases (show j = 0 ∨ j = 1 by omega) with rfl | rfl <;> simp [xV]
theorem two_flts (w : World) (a b : Nat) : VSrc (w.alloc (.cells #[.float .f64 a, .float .f64 b] 31)) (some ⟨w.heap.size, 0, none⟩) w.heap.size 0 2 (flV [a, b]) := by
  refine ⟨fun _ => rfl, fun _ => by simp, fun j hj => ?_⟩
  rcases (show j = 0 ∨ j = 1 by omega) with rfl | rfl <;> simp [flV]

set_option maxRecDepth 40000 in
set_option maxHeartbeats 12800000 in
theorem interpLent_go (kind x k E F G : Int) (V : Nat) (L M : List Nat) (px py : Option Addr) (bx ox cx b2 oy cy n m : Nat) (xs : List Int) (ys : List Nat) (w : World) (hn : xs.length = n) (hm : ys.length = m) (hn' : n ≤ 40) (hm' : m ≤ 40) (hs : TFl w px py bx ox b2 oy xs ys) (nilx : px = none → n = 0 ∧ cx = 0) (nily : py = none → m = 0 ∧ cy = 0) (fL : FitL L) (fM : FitL M) (lL : L.length ≤ 40) (lM : M.length ≤ 4)
    (HO : Hid (∀ wx, Below w.heap.size w wx → Calls Tryz.prog 5 #[.agg #[.int .i64 kind, .slice px n cx, .slice py m cy]] wx fun e w' => ∃ p g c, e = .returned (.agg #[.int .i64 kind, .slice px n cx, .slice p m c]) ∧ (VSrc w' p g 0 m (yV ys) ∧ m ≤ c ∧ c ≤ 9223372036854775807) ∧ Below wx.heap.size wx w'))
    (HS : Hid (∀ (gx gy c1 c2 : Nat) wx, TFl wx (some ⟨gx, 0, none⟩) (some ⟨gy, 0, none⟩) gx 0 gy 0 xs ys → Calls Tryz.prog 6 #[.agg #[.int .i64 kind, .slice (some ⟨gx, 0, none⟩) n c1, .slice (some ⟨gy, 0, none⟩) m c2]] wx fun e w' => FlW wx w' e L E))
    (HP : Hid (∀ (gx gy c1 c2 : Nat) wx, TFl wx (some ⟨gx, 0, none⟩) (some ⟨gy, 0, none⟩) gx 0 gy 0 xs ys → Calls Tryz.prog 7 #[.agg #[.int .i64 kind, .slice (some ⟨gx, 0, none⟩) n c1, .slice (some ⟨gy, 0, none⟩) m c2], .int .i64 k] wx fun e w' => FlW wx w' e M F))
    (HA : Hid (∀ (gx gy c1 c2 : Nat) wx, TFl wx (some ⟨gx, 0, none⟩) (some ⟨gy, 0, none⟩) gx 0 gy 0 xs ys → Calls Tryz.prog 8 #[.agg #[.int .i64 kind, .slice (some ⟨gx, 0, none⟩) n c1, .slice (some ⟨gy, 0, none⟩) m c2], .int .i64 x] wx fun e w' => e = .returned (.tuple #[.float .f64 V, .int .i64 G]) ∧ Below wx.heap.size wx w'))
    (DS : Hid (∀ (pd : Option Addr) (gd cd : Nat) wx, TSrc wx px pd bx ox gd 0 xs ys → Calls Tryz.prog 9 #[.agg #[.int .i64 kind, .slice px n cx, .slice pd m cd]] wx fun e w' => UOut wx w' e L E))
    (DP : Hid (∀ (pd : Option Addr) (gd cd : Nat) wx, TSrc wx px pd bx ox gd 0 xs ys → Calls Tryz.prog 10 #[.agg #[.int .i64 kind, .slice px n cx, .slice pd m cd], .int .i64 k] wx fun e w' => UOut wx w' e M F))
    (DA : Hid (∀ (pd : Option Addr) (gd cd : Nat) wx, m ≤ cd → cd ≤ 9223372036854775807 → TSrc wx px pd bx ox gd 0 xs ys → Calls Tryz.prog 11 #[.agg #[.int .i64 kind, .slice px n cx, .slice pd m cd], .int .i64 x] wx fun e w' => e = .returned (.tuple #[.int .u64 (V : Int), .int .i64 G]) ∧ Below wx.heap.size wx w'))
    (HI : Hid (∀ wx, Calls Tryz.prog 14 #[.float .f64 V, .int .u64 (V : Int)] wx fun e w' => e = .returned (.bool true) ∧ w' = wx))
    (HW : Hid (∀ wx, Calls Tryz.prog 4 #[] wx fun e w' => e = .returned (.bool true) ∧ Below wx.heap.size wx w')) :
    Calls Tryz.prog 3 #[.agg #[.int .i64 kind, .slice px n cx, .slice py m cy], .int .i64 x, .int .i64 k] w fun e w' => e = .returned (.bool true) ∧ Below w.heap.size w w' := by
  have HB0 := hideS (abox_at w kind (.slice px n cx) (.slice py m cy))
  have d1 : decide ((40 : Int) < (n : Int)) = false := decide_eq_false (by omega)
  have d2 : decide ((40 : Int) < (m : Int)) = false := decide_eq_false (by omega)
  have HLn := hideS (And.intro hn hm)
  have HIx : Hid (VSrc w px bx ox n (xV xs)) := by show VSrc _ _ _ _ _ _; rw [← hn]; exact hs.x
  have HIy : Hid (VSrc w py b2 oy m (flV ys)) := by show VSrc _ _ _ _ _ _; rw [← hm]; exact hs.y
  have HFt := hideS hs.f
  have HNx := hideS nilx
  have HNy := hideS nily
  have HLL := hideS (And.intro fL (And.intro fM (And.intro lL lM)))
  clear hn hm hs nilx nily fL fM lL lM
  go_enter Tryz.func3, Tryz.ntmps3
  go_wp2_with fail
  refine (HO.out _ HB0.out.bl).mono ?_
  rintro e w1 ⟨pd, gd, cd, rfl, ⟨hdy, hc1, hc2⟩, hb1⟩
  have HB1 := hideS (HB0.out.step hb1)
  have HDy := hideS hdy
  have HCd := hideS (And.intro hc1 hc2)
  clear hb1 HB0 HO d1 d2 hdy hc1 hc2
  obtain ⟨⟨z0, z1, z2⟩, fz⟩ := zero3_cells w1 29
  have y0 := fz 0
  have y1 := fz 1
  have y2 := fz 2
  have HX := hideS (set3_box w1 29 kind (.slice px n cx) (.slice pd m cd))
  clear fz
  obtain ⟨w2, hw2⟩ : ∃ w2, w1.alloc (zero3 29) = w2 := ⟨_, rfl⟩
  rw [hw2] at z0 z1 z2 y0 y1 y2 HX
  unfold zero3 at hw2
  obtain ⟨w3, hw3⟩ : ∃ w3, set3 w2 w1.heap.size kind (.slice px n cx) (.slice pd m cd) = w3 := ⟨_, rfl⟩
  rw [hw3] at HX
  unfold set3 at hw3
  have HB3 := hideS (HB1.out.step HX.out.2)
  have HD3 := hideS HX.out.1
  have HDy3 := hideS (HDy.out.below HX.out.2)
  clear HX HB1 HDy
  obtain ⟨g1, hg1⟩ : ∃ g1, w1.heap.size = g1 := ⟨_, rfl⟩
  rw [hg1] at hw3 z0 z1 z2 y0 y1 y2 HD3
  have HBa : Hid (∀ o, TBox w kind (.slice px n cx) (.slice py m cy) (w3.alloc o)) := fun o => HB3.out.step ((Below.refl _ w3).alloc (Nat.le_refl _) o)
  have HO3 := hideS (own_builtT w3 3)
  have a1 := (HBa.out (.cells #[] 3)).t1
  go_wp2_with (first
    | (at_builtin; refine wpList_append_is _ rfl (.tmp 44) (.tmp 46) rfl w3.heap.size (.slice (some ⟨w3.heap.size, 0, none⟩) 0 0) 0 [] rfl HO3.out px bx ox cx n xs rfl HLn.out.1 (HIx.out.below (HBa.out _).bl) HNx.out (by omega) (by omega) (by simp) ?_; intro v5 w5 ho5 hg5; have b5 := hideS (((Below.refl w3.heap.size w3).alloc (Nat.le_refl _) (.cells #[] 3)).trans (grown_belowT HO3.out hg5 (by simp))); rw [Nat.zero_add, List.nil_append] at ho5; have HO5 := hideS ho5; clear ho5 hg5; have A5 := hideS ((Below.refl w5.heap.size w5).alloc (Nat.le_refl _) (.cells #[.int .i64 7701, .int .i64 7702] 3)); have HO5a := hideS (own_belowT HO5.out A5.out); have HT5 := hideS (two_ints w5 7701 7702); have HZ5 : Hid (w3.heap.size ≤ (w5.alloc (.cells #[.int .i64 7701, .int .i64 7702] 3)).heap.size) := Nat.le_trans b5.out.size A5.out.size; have b5a := hideS (b5.out.trans (A5.out.mono b5.out.size)); clear a1)
    | (at_builtin; refine wpList_append_is _ rfl (.tmp 47) (.tmp 48) rfl w3.heap.size v5 n xs rfl HO5a.out (some ⟨w5.heap.size, 0, none⟩) w5.heap.size 0 2 2 [7701, 7702] rfl rfl HT5.out (fun e => by cases e) (by omega) (by omega) HZ5.out ?_; intro v6 w6 ho6 hg6; have b6 := hideS (b5a.out.trans (grown_belowT HO5a.out hg6 HZ5.out)); obtain ⟨gx, c1, hv6, hx6, hgx, hcx1, hcx2⟩ := iown_v ho6 (by rw [List.length_append, HLn.out.1]; rfl) (by omega); subst hv6; have HX6 := hideS (And.intro hx6 (And.intro hcx1 hcx2)); have HB6 := hideS (HB3.out.step b6.out); clear ho6 hg6 hx6 hgx hcx1 hcx2; have HBb : Hid (∀ o, TBox w kind (.slice px n cx) (.slice py m cy) (w6.alloc o)) := fun o => HB6.out.step ((Below.refl _ w6).alloc (Nat.le_refl _) o); have HO6 := hideS (own_builtT w6 31); have a2 := (HBb.out (.cells #[] 31)).t2; clear A5 HO5a HT5 HZ5 b5a b5 HO5)
    | (at_builtin; refine wpList_append_fs _ rfl (.tmp 50) (.tmp 52) rfl w6.heap.size (.slice (some ⟨w6.heap.size, 0, none⟩) 0 0) 0 [] rfl HO6.out py b2 oy cy m ys rfl HLn.out.2 (HIy.out.below (HBb.out _).bl) HNy.out (by omega) (by omega) (by simp) ?_; intro v7 w7 ho7 hg7; have b7 := hideS (((Below.refl w6.heap.size w6).alloc (Nat.le_refl _) (.cells #[] 31)).trans (grown_belowT HO6.out hg7 (by simp))); rw [Nat.zero_add, List.nil_append] at ho7; have HO7 := hideS ho7; clear ho7 hg7 a2; have A7 := hideS ((Below.refl w7.heap.size w7).alloc (Nat.le_refl _) (.cells #[.float .f64 4665191552769851392, .float .f64 4665192652281479168] 31)); have HO7a := hideS (own_belowT HO7.out A7.out); have HT7 := hideS (two_flts w7 4665191552769851392 4665192652281479168); have HZ7 : Hid (w6.heap.size ≤ (w7.alloc (.cells #[.float .f64 4665191552769851392, .float .f64 4665192652281479168] 31)).heap.size) := Nat.le_trans b7.out.size A7.out.size; have b7a := hideS (b7.out.trans (A7.out.mono b7.out.size)))
    | (at_builtin; refine wpList_append_fs _ rfl (.tmp 53) (.tmp 54) rfl w6.heap.size v7 m ys rfl HO7a.out (some ⟨w7.heap.size, 0, none⟩) w7.heap.size 0 2 2 [4665191552769851392, 4665192652281479168] rfl rfl HT7.out (fun e => by cases e) (by omega) (by omega) HZ7.out ?_; intro v8 w8 ho8 hg8; have b8 := hideS (b7a.out.trans (grown_belowT HO7a.out hg8 HZ7.out)); obtain ⟨gy, c2, hv8, hy8, hgy, hcy1, hcy2⟩ := fown_v ho8 (by rw [List.length_append, HLn.out.2]; rfl) (by omega); subst hv8; have HY8 := hideS (And.intro hy8 (And.intro hcy1 (And.intro hcy2 hgy))); have HB8 := hideS (HB6.out.step b8.out); clear ho8 hg8 hy8 hgy hcy1 hcy2; have t0 := HB8.out.t0; have t1 := HB8.out.t1; have t2 := HB8.out.t2))
  clear hw2 hw3 z0 z1 z2 y0 y1 y2 HBa HO3 HBb HO6 A7 HO7a HT7 HZ7 b7a b7 HO7 HB6
  have HX8 := hideS (HX6.out.1.below b8.out)
  have hq1 := HX6.out.2.1
  have hq2 := HY8.out.2.1
  have HD8 := hideS ((HD3.out.step b6.out).step b8.out)
  have HDy8 := hideS ((HDy3.out.below b6.out).below b8.out)
  have u1 : (n : Int) ≤ (c1 : Int) := by omega
  have u2 : (m : Int) ≤ (c2 : Int) := by omega
  have u3 : (0 : Int) ≤ (n : Int) := by omega
  have u4 : (0 : Int) ≤ (m : Int) := by omega
  have q1 := HX6.out.2.2
  have q2 := HY8.out.2.2.1
  unfold maxLen at q1 q2
  have HX9 := hideS (abox_at w8 kind (.slice (some ⟨gx, 0, none⟩) n c1) (.slice (some ⟨gy, 0, none⟩) m c2))
  have HXo : Hid (Box3 (w8.alloc (.cells #[.int .i64 kind, .slice (some ⟨gx, 0, none⟩) n c1, .slice (some ⟨gy, 0, none⟩) m c2] 25)).drew w8.heap.size kind (.slice (some ⟨gx, 0, none⟩) n c1) (.slice (some ⟨gy, 0, none⟩) m c2) ∧ Below w8.heap.size w8 (w8.alloc (.cells #[.int .i64 kind, .slice (some ⟨gx, 0, none⟩) n c1, .slice (some ⟨gy, 0, none⟩) m c2] 25)).drew) := ⟨⟨HX9.out.t0, HX9.out.t1, HX9.out.t2, HX9.out.lt⟩, HX9.out.bl.drew⟩
  obtain ⟨w10, hw10⟩ : ∃ w10, (w8.alloc (.cells #[.int .i64 kind, .slice (some ⟨gx, 0, none⟩) n c1, .slice (some ⟨gy, 0, none⟩) m c2] 25)).drew = w10 := ⟨_, rfl⟩
  rw [hw10] at HXo
  have HLW : Hid (LenW w kind px py n m cx cy g1 pd cd gd gx gy c1 c2 w8.heap.size bx ox b2 oy xs ys w10.heap.size w10) := by
    have tb := HB8.out.step HXo.out.2
    have ix := HIx.out.below tb.bl
    have iy := HIy.out.below tb.bl
    have d8 : Box3 w8 g1 kind (.slice px n cx) (.slice pd m cd) := ⟨HD8.out.t0, HD8.out.t1, HD8.out.t2, HD8.out.lt⟩
    have dy8 : VSrc w8 pd gd 0 m (yV ys) := ⟨HDy8.out.at_, HDy8.out.lt, HDy8.out.cell⟩
    have x8 : VSrc w8 (some ⟨gx, 0, none⟩) gx 0 (n + 2) (xV (lenX xs)) := ⟨HX8.out.at_, HX8.out.lt, HX8.out.cell⟩
    have y8 : VSrc w8 (some ⟨gy, 0, none⟩) gy 0 (m + 2) (flV (lenY ys)) := ⟨HY8.out.1.at_, HY8.out.1.lt, HY8.out.1.cell⟩
    have db := d8.step HXo.out.2
    have dy := dy8.below HXo.out.2
    have xr := x8.below HXo.out.2
    have yr := y8.below HXo.out.2
    exact ⟨tb.t0, tb.t1, tb.t2, tb.bl, ix, iy, db, dy, xr, yr, HXo.out.1, Nat.le_refl _, tb.lt, db.lt, HXo.out.1.lt, xr.lt (by omega), yr.lt (by omega), ix.lt, iy.lt, dy.lt⟩
  have o0 := HLW.out.obx.t0
  have o1 := HLW.out.obx.t1
  have o2 := HLW.out.obx.t2
  have K0 : Hid (w8.cell? ⟨w.heap.size, 0, none⟩ = some (.int .i64 kind) ∧ w8.cell? ⟨w.heap.size, 1, none⟩ = some (.slice px n cx) ∧ w8.cell? ⟨w.heap.size, 2, none⟩ = some (.slice py m cy)) := ⟨HB8.out.t0, HB8.out.t1, HB8.out.t2⟩
  have K1 : Hid (∀ o, (w8.alloc o).cell? ⟨w.heap.size, 0, none⟩ = some (.int .i64 kind) ∧ (w8.alloc o).cell? ⟨w.heap.size, 1, none⟩ = some (.slice px n cx) ∧ (w8.alloc o).cell? ⟨w.heap.size, 2, none⟩ = some (.slice py m cy)) := fun o => by
    have := HB8.out.step ((Below.refl _ w8).alloc (Nat.le_refl _) o)
    exact ⟨this.t0, this.t1, this.t2⟩
  have K2 : Hid (w10.cell? ⟨w.heap.size, 0, none⟩ = some (.int .i64 kind) ∧ w10.cell? ⟨w.heap.size, 1, none⟩ = some (.slice px n cx) ∧ w10.cell? ⟨w.heap.size, 2, none⟩ = some (.slice py m cy)) := ⟨HLW.out.t0, HLW.out.t1, HLW.out.t2⟩
  go_region_held3 (fun x => x.cell? ⟨w.heap.size, 0, none⟩ = some (.int .i64 kind) ∧ x.cell? ⟨w.heap.size, 1, none⟩ = some (.slice px n cx) ∧ x.cell? ⟨w.heap.size, 2, none⟩ = some (.slice py m cy)) (first | exact K0.out | exact K1.out _ | exact K2.out | go_keep) (fail)
  clear K0 K1 K2
  clear t0 t1 t2 u1 u2 u3 u4 q1 q2 hq1 hq2 HXo HX9 HB8 HX8 HY8 HX6 HD8 HDy8 HB3 HD3 HDy3 b6 b8
  go_wp2_with fail
  try rw [hw10]
  clear o0 o1 o2 hw10
  have LW10 := HLW
  clear HLW
  refine (HS.out gx gy c1 c2 _ (LW10.out.own HLn.out.1 HLn.out.2 HFt.out)).mono ?_
  rintro e w11 ⟨pa, ga, ca, rfl, sa, fa, hb11⟩
  have LW11 := hideS (LW10.out.step hb11)
  have Sa11 := hideS sa
  have Fa11 : Hid (0 < L.length → ∀ j, w11.frozen? ⟨ga, j, none⟩ = false) := fun h0 => (fa h0).2.2
  have Ra : Hid (0 < L.length → w10.heap.size ≤ ga ∧ ga < w11.heap.size) := fun h0 => ⟨(fa h0).1, (fa h0).2.1⟩
  have Z11 : Hid (w10.heap.size ≤ w11.heap.size) := hb11.size
  clear hb11 sa fa LW10
  have o0 := LW11.out.obx.t0
  have o1 := LW11.out.obx.t1
  have o2 := LW11.out.obx.t2
  go_wp2_with fail
  clear o0 o1 o2
  refine (HS.out gx gy c1 c2 _ (LW11.out.own HLn.out.1 HLn.out.2 HFt.out)).mono ?_
  rintro e w12 ⟨pb, gb, cb, rfl, sb, fb, hb12⟩
  have LW12 := hideS (LW11.out.step hb12)
  have Sa12 := hideS (Sa11.out.below hb12)
  have Fa12 : Hid (0 < L.length → ∀ j, w12.frozen? ⟨ga, j, none⟩ = false) := fun h0 j => (hb12.frozen (p := ⟨ga, j, none⟩) (Sa11.out.lt h0)).trans (Fa11.out h0 j)
  have Sb12 := hideS sb
  have Fb12 : Hid (0 < L.length → ∀ j, w12.frozen? ⟨gb, j, none⟩ = false) := fun h0 => (fb h0).2.2
  have Rb : Hid (0 < L.length → w11.heap.size ≤ gb ∧ gb < w12.heap.size) := fun h0 => ⟨(fb h0).1, (fb h0).2.1⟩
  have Z12 : Hid (w11.heap.size ≤ w12.heap.size) := hb12.size
  clear hb12 sb fb LW11 Sa11 Fa11
  have o0 := LW12.out.obx.t0
  have o1 := LW12.out.obx.t1
  have o2 := LW12.out.obx.t2
  go_wp2_with fail
  clear o0 o1 o2
  refine (HP.out gx gy c1 c2 _ (LW12.out.own HLn.out.1 HLn.out.2 HFt.out)).mono ?_
  rintro e w13 ⟨pp, gp, cp, rfl, sp, fp, hb13⟩
  have LW13 := hideS (LW12.out.step hb13)
  have Sa13 := hideS (Sa12.out.below hb13)
  have Fa13 : Hid (0 < L.length → ∀ j, w13.frozen? ⟨ga, j, none⟩ = false) := fun h0 j => (hb13.frozen (p := ⟨ga, j, none⟩) (Sa12.out.lt h0)).trans (Fa12.out h0 j)
  have Sb13 := hideS (Sb12.out.below hb13)
  have Fb13 : Hid (0 < L.length → ∀ j, w13.frozen? ⟨gb, j, none⟩ = false) := fun h0 j => (hb13.frozen (p := ⟨gb, j, none⟩) (Sb12.out.lt h0)).trans (Fb12.out h0 j)
  have Sp13 := hideS sp
  have Fp13 : Hid (0 < M.length → ∀ j, w13.frozen? ⟨gp, j, none⟩ = false) := fun h0 => (fp h0).2.2
  have Rp : Hid (0 < M.length → w12.heap.size ≤ gp ∧ gp < w13.heap.size) := fun h0 => ⟨(fp h0).1, (fp h0).2.1⟩
  have Z13 : Hid (w12.heap.size ≤ w13.heap.size) := hb13.size
  clear hb13 sp fp LW12 Sa12 Fa12 Sb12 Fb12
  have o0 := LW13.out.obx.t0
  have o1 := LW13.out.obx.t1
  have o2 := LW13.out.obx.t2
  go_wp2_with fail
  clear o0 o1 o2
  refine (HP.out gx gy c1 c2 _ (LW13.out.own HLn.out.1 HLn.out.2 HFt.out)).mono ?_
  rintro e w14 ⟨pq, gq, cq, rfl, sq, fq, hb14⟩
  have LW14 := hideS (LW13.out.step hb14)
  have Sa14 := hideS (Sa13.out.below hb14)
  have Fa14 : Hid (0 < L.length → ∀ j, w14.frozen? ⟨ga, j, none⟩ = false) := fun h0 j => (hb14.frozen (p := ⟨ga, j, none⟩) (Sa13.out.lt h0)).trans (Fa13.out h0 j)
  have Sb14 := hideS (Sb13.out.below hb14)
  have Fb14 : Hid (0 < L.length → ∀ j, w14.frozen? ⟨gb, j, none⟩ = false) := fun h0 j => (hb14.frozen (p := ⟨gb, j, none⟩) (Sb13.out.lt h0)).trans (Fb13.out h0 j)
  have Sp14 := hideS (Sp13.out.below hb14)
  have Fp14 : Hid (0 < M.length → ∀ j, w14.frozen? ⟨gp, j, none⟩ = false) := fun h0 j => (hb14.frozen (p := ⟨gp, j, none⟩) (Sp13.out.lt h0)).trans (Fp13.out h0 j)
  have Sq14 := hideS sq
  have Fq14 : Hid (0 < M.length → ∀ j, w14.frozen? ⟨gq, j, none⟩ = false) := fun h0 => (fq h0).2.2
  have Rq : Hid (0 < M.length → w13.heap.size ≤ gq ∧ gq < w14.heap.size) := fun h0 => ⟨(fq h0).1, (fq h0).2.1⟩
  have Z14 : Hid (w13.heap.size ≤ w14.heap.size) := hb14.size
  clear hb14 sq fq LW13 Sa13 Fa13 Sb13 Fb13 Sp13 Fp13
  have o0 := LW14.out.obx.t0
  have o1 := LW14.out.obx.t1
  have o2 := LW14.out.obx.t2
  go_wp2_with fail
  clear o0 o1 o2
  refine (HA.out gx gy c1 c2 _ (LW14.out.own HLn.out.1 HLn.out.2 HFt.out)).mono ?_
  rintro e w15 ⟨rfl, hb15⟩
  have LW15 := hideS (LW14.out.step hb15)
  have Sa15 := hideS (Sa14.out.below hb15)
  have Fa15 : Hid (0 < L.length → ∀ j, w15.frozen? ⟨ga, j, none⟩ = false) := fun h0 j => (hb15.frozen (p := ⟨ga, j, none⟩) (Sa14.out.lt h0)).trans (Fa14.out h0 j)
  have Sb15 := hideS (Sb14.out.below hb15)
  have Fb15 : Hid (0 < L.length → ∀ j, w15.frozen? ⟨gb, j, none⟩ = false) := fun h0 j => (hb15.frozen (p := ⟨gb, j, none⟩) (Sb14.out.lt h0)).trans (Fb14.out h0 j)
  have Sp15 := hideS (Sp14.out.below hb15)
  have Fp15 : Hid (0 < M.length → ∀ j, w15.frozen? ⟨gp, j, none⟩ = false) := fun h0 j => (hb15.frozen (p := ⟨gp, j, none⟩) (Sp14.out.lt h0)).trans (Fp14.out h0 j)
  have Sq15 := hideS (Sq14.out.below hb15)
  have Fq15 : Hid (0 < M.length → ∀ j, w15.frozen? ⟨gq, j, none⟩ = false) := fun h0 j => (hb15.frozen (p := ⟨gq, j, none⟩) (Sq14.out.lt h0)).trans (Fq14.out h0 j)
  have HGs : Hid ((0 < L.length → w10.heap.size ≤ ga ∧ gb ≠ ga ∧ (0 < M.length → gp ≠ ga ∧ gq ≠ ga)) ∧ (0 < M.length → w10.heap.size ≤ gp ∧ gq ≠ gp ∧ (0 < L.length → gb ≠ gp))) := by
    have z1 := Z11.out
    have z2 := Z12.out
    have z3 := Z13.out
    have z4 := Z14.out
    refine ⟨fun h0 => ?_, fun h0 => ?_⟩
    · have e1 := Ra.out h0
      have e2 := Rb.out h0
      exact ⟨e1.1, by omega, fun h1 => by have e3 := Rp.out h1; have e4 := Rq.out h1; exact ⟨by omega, by omega⟩⟩
    · have e3 := Rp.out h0
      have e4 := Rq.out h0
      exact ⟨by omega, by omega, fun h1 => by have e2 := Rb.out h1; omega⟩
  clear hb15 LW14 Sa14 Sb14 Sp14 Sq14 Fa14 Fb14 Fp14 Fq14 Ra Rb Rp Rq Z11 Z12 Z13 Z14 Fb15 Fq15 HS HP HA
  have hst := store_flt
  have lL := HLL.out.2.2.1
  have lM := HLL.out.2.2.2
  have O1 := hideS (OnlyF.first (g := ga) (m := L.length) (w5 := w15) (fun j hj => ⟨_, by have := Sa15.out.cell j hj; rw [Nat.zero_add] at this; exact this⟩) Fa15.out)
  go_wp2_with fail
  go_loopw [21] (fun t wr => ∃ (j : Nat), j ≤ L.length ∧ t = .int .i64 (j : Int) ∧ Hid (OnlyF ga L.length w15 wr)) (fun t _ => L.length - (intOf t).toNat)
  case atStart => exact ⟨0, by omega, rfl, O1⟩
  case round =>
    clear O1
    obtain ⟨j, hj, rfl, G1⟩ := hrel
    by_cases hlt : j < L.length
    · have hq := Sa15.out.at_ (by omega)
      subst hq
      have fz := G1.out.frz (by omega) j
      obtain ⟨u0, z0⟩ := G1.out.cell j hlt
      have G9 := hideS (G1.out.set (by omega) j (.float .f64 4619567317775286272))
      go_wp2_with fail
      go_roundw
      case rel => exact ⟨j + 1, by omega, by simp, G9⟩
      case measure => simp [intOf]; omega
    · have hge : ¬ (j : Int) < (L.length : Int) := by omega
      obtain ⟨wa, hwa⟩ : ∃ wa, wa = wr := ⟨wr, rfl⟩
      subst hwa
      have LWa := hideS (LW15.out.stay (G1.out.below (fun h => (HGs.out.1 h).1)))
      have Sba := hideS (G1.out.src Sb15.out (fun h _ => (HGs.out.1 h).2.1))
      have Spa := hideS (G1.out.src Sp15.out (fun h h' => ((HGs.out.1 h).2.2 h').1))
      have Sqa := hideS (G1.out.src Sq15.out (fun h h' => ((HGs.out.1 h).2.2 h').2))
      have Fpa : Hid (0 < M.length → ∀ j, wa.frozen? ⟨gp, j, none⟩ = false) := fun h0 j => (G1.out.frzO (fun h => ((HGs.out.1 h).2.2 h0).1) j).trans (Fp15.out h0 j)
      have O2 := hideS (OnlyF.first (g := gp) (m := M.length) (w5 := wa) (fun j hj => ⟨_, by have := Spa.out.cell j hj; rw [Nat.zero_add] at this; exact this⟩) Fpa.out)
      clear G1 LW15 Sa15 Sb15 Sp15 Sq15 Fa15 Fp15 Fpa
      go_wp2_with fail
      go_loopw [22] (fun t wr => ∃ (j : Nat), j ≤ M.length ∧ t = .int .i64 (j : Int) ∧ Hid (OnlyF gp M.length wa wr)) (fun t _ => M.length - (intOf t).toNat)
      case atStart => exact ⟨0, by omega, rfl, O2⟩
      case round =>
        clear O2 hge hlt hj
        obtain ⟨j, hj, rfl, G1⟩ := hrel
        by_cases hlt : j < M.length
        · have hq := Spa.out.at_ (by omega)
          subst hq
          have fz := G1.out.frz (by omega) j
          obtain ⟨u0, z0⟩ := G1.out.cell j hlt
          have G9 := hideS (G1.out.set (by omega) j (.float .f64 4619567317775286272))
          go_wp2_with fail
          go_roundw
          case rel => exact ⟨j + 1, by omega, by simp, G9⟩
          case measure => simp [intOf]; omega
        · have hge : ¬ (j : Int) < (M.length : Int) := by omega
          obtain ⟨wb, hwb⟩ : ∃ wb, wb = wr := ⟨wr, rfl⟩
          subst hwb
          have LWb := hideS (LWa.out.stay (G1.out.below (fun h => (HGs.out.2 h).1)))
          have Sbb := hideS (G1.out.src Sba.out (fun h h' => (HGs.out.2 h).2.2 h'))
          have Sqb := hideS (G1.out.src Sqa.out (fun h _ => (HGs.out.2 h).2.1))
          clear G1 LWa Sba Spa Sqa HGs hst
          have d0 := LWb.out.dbx.t0
          have d1 := LWb.out.dbx.t1
          have d2 := LWb.out.dbx.t2
          go_wp2_with fail
          clear d0 d1 d2 hge hlt hj
          refine (DS.out pd gd cd _ (LWb.out.docT HLn.out.1 HLn.out.2 HFt.out)).mono ?_
          rintro e w16 ⟨vw, rfl, ow, hb16⟩
          have LW16 := hideS (LWb.out.step hb16)
          have Sb16 := hideS (Sbb.out.below hb16)
          have Sq16 := hideS (Sqb.out.below hb16)
          have OW16 := hideS ow
          clear ow hb16 LWb Sbb Sqb DS
          have d0 := LW16.out.dbx.t0
          have d1 := LW16.out.dbx.t1
          have d2 := LW16.out.dbx.t2
          go_wp2_with fail
          clear d0 d1 d2
          refine (DP.out pd gd cd _ (LW16.out.docT HLn.out.1 HLn.out.2 HFt.out)).mono ?_
          rintro e w17 ⟨vp, rfl, op, hb17⟩
          have LW17 := hideS (LW16.out.step hb17)
          have Sb17 := hideS (Sb16.out.below hb17)
          have Sq17 := hideS (Sq16.out.below hb17)
          have OW17 := hideS (OW16.out.below hb17)
          have OP17 := hideS op
          clear op hb17 LW16 Sb16 Sq16 OW16 DP
          have d0 := LW17.out.dbx.t0
          have d1 := LW17.out.dbx.t1
          have d2 := LW17.out.dbx.t2
          go_wp2_with fail
          clear d0 d1 d2
          refine (DA.out pd gd cd _ HCd.out.1 HCd.out.2 (LW17.out.docT HLn.out.1 HLn.out.2 HFt.out)).mono ?_
          rintro e w18 ⟨rfl, hb18⟩
          have LW18 := hideS (LW17.out.step hb18)
          have Sb18 := hideS (Sb17.out.below hb18)
          have Sq18 := hideS (Sq17.out.below hb18)
          have OW18 := hideS (OW17.out.below hb18)
          have OP18 := hideS (OP17.out.below hb18)
          clear hb18 LW17 Sb17 Sq17 OW17 OP17 DA
          go_wp2_with fail
          go_loopw [29] (fun t wr => ∃ (j : Nat), j ≤ n ∧ t = .int .i64 (j : Int) ∧ Hid (∃ q, wr = w18.drewN q)) (fun t _ => n - (intOf t).toNat)
          case atStart => exact ⟨0, by omega, rfl, ⟨0, rfl⟩⟩
          case round =>
            obtain ⟨j, hj, rfl, G1⟩ := hrel
            have hdr : Below w18.heap.size w18 wr := by
              obtain ⟨q, rfl⟩ := G1.out
              exact ⟨rfl, rfl, rfl, Nat.le_refl _, fun _ _ => rfl⟩
            have LWr := hideS (LW18.out.step hdr)
            have t1 := LWr.out.t1
            by_cases hlt : j < n
            · have hq := LWr.out.ix.at_ (by omega)
              subst hq
              have e0 : wr.cell? ⟨gx, j, none⟩ = some (.int .i64 (xs.getD j 0)) := by
                have := LWr.out.xr.cell j (by omega)
                rw [Nat.zero_add, ← lenX_head xs j (by rw [HLn.out.1]; exact hlt)] at this
                exact this
              have e1 : wr.cell? ⟨bx, ox + j, none⟩ = some (.int .i64 (xs.getD j 0)) := LWr.out.ix.cell j hlt
              generalize xs.getD j 0 = xj at *
              have zz : (xj != xj) = false := by simp
              have g1' : (0 : Int) ≤ (j : Int) := by omega
              have g2' : (j : Int) < (n : Int) := by omega
              have g3' : (j : Int) < ((n + 2 : Nat) : Int) := by omega
              clear hdr
              go_wp2_with fail
              go_quiet (fail)
              have G2 : Hid (∃ q, wr.drewN nq = w18.drewN q) := by
                obtain ⟨q, e⟩ := G1.out
                exact ⟨q + nq, by rw [e, World.drewN_drewN]⟩
              go_wp2_with fail
              go_roundw
              case rel => exact ⟨j + 1, by omega, by simp, G2⟩
              case measure => simp [intOf]; omega
            · have hge : ¬ (j : Int) < (n : Int) := by omega
              obtain ⟨wc, hwc⟩ : ∃ wc, wc = wr := ⟨wr, rfl⟩
              subst hwc
              have Sbc := hideS (Sb18.out.below hdr)
              have Sqc := hideS (Sq18.out.below hdr)
              have OWc := hideS (OW18.out.below hdr)
              have OPc := hideS (OP18.out.below hdr)
              clear hdr G1 LW18 Sb18 Sq18 OW18 OP18
              go_wp2_with fail
              clear hge hlt hj t1
              go_loopw [30] (fun t wr => ∃ (j : Nat), j ≤ m ∧ t = .int .i64 (j : Int) ∧ Hid (∃ q, wr = wc.drewN q)) (fun t _ => m - (intOf t).toNat)
              case atStart => exact ⟨0, by omega, rfl, ⟨0, rfl⟩⟩
              case round =>
                obtain ⟨j, hj, rfl, G1⟩ := hrel
                have hdr : Below wc.heap.size wc wr := by
                  obtain ⟨q, rfl⟩ := G1.out
                  exact ⟨rfl, rfl, rfl, Nat.le_refl _, fun _ _ => rfl⟩
                have LWs := hideS (LWr.out.step hdr)
                have t2 := LWs.out.t2
                by_cases hlt : j < m
                · have hq := LWs.out.dy.at_ (by omega)
                  subst hq
                  have e0 : wr.cell? ⟨gy, j, none⟩ = some (.float .f64 (ys.getD j 0)) := by
                    have := LWs.out.yr.cell j (by omega)
                    rw [Nat.zero_add, ← lenY_head ys j (by rw [HLn.out.2]; exact hlt)] at this
                    exact this
                  have e1 : wr.cell? ⟨gd, j, none⟩ = some (.int .u64 (ys.getD j 0 : Nat)) := by
                    have := LWs.out.dy.cell j hlt
                    rw [Nat.zero_add] at this
                    exact this
                  have e2 := LWs.out.dbx.t2
                  generalize ys.getD j 0 = yj at *
                  have HAb := hideS fun w => apiBitsL yj w
                  obtain ⟨yi, hyi⟩ : ∃ yi : Int, (yj : Int) = yi := ⟨_, rfl⟩
                  rw [hyi] at HAb e1
                  clear hyi
                  have zz : (yi != yi) = false := by simp
                  have g1' : (0 : Int) ≤ (j : Int) := by omega
                  have g2' : (j : Int) < (m : Int) := by omega
                  have g3' : (j : Int) < ((m + 2 : Nat) : Int) := by omega
                  clear hdr
                  go_wp2_with fail
                  go_quiet ((go_at_call 12; exact Calls.quiet_of_same (HAb.out _)))
                  have G2 : Hid (∃ q, wr.drewN nq = wc.drewN q) := by
                    obtain ⟨q, e⟩ := G1.out
                    exact ⟨q + nq, by rw [e, World.drewN_drewN]⟩
                  go_wp2_with fail
                  go_roundw
                  case rel => exact ⟨j + 1, by omega, by simp, G2⟩
                  case measure => simp [intOf]; omega
                · have hge : ¬ (j : Int) < (m : Int) := by omega
                  obtain ⟨wd, hwd⟩ : ∃ wd, wd = wr := ⟨wr, rfl⟩
                  subst hwd
                  have HFa := hideS (And.intro (Sbc.out.below hdr) (And.intro (Sqc.out.below hdr) (And.intro (OWc.out.below hdr) (OPc.out.below hdr))))
                  have HL := hideS LWs.out.bl
                  have t1 := LWs.out.t1
                  have xa : wd.cell? ⟨gx, n, none⟩ = some (.int .i64 7701) := by
                    have := LWs.out.xr.cell n (by omega)
                    rw [Nat.zero_add] at this
                    rw [this]
                    show some (Value.int .i64 ((xs ++ [7701, 7702]).getD n 0)) = _
                    rw [← HLn.out.1]; simp [List.getD]
                  have xb : wd.cell? ⟨gx, n + 1, none⟩ = some (.int .i64 7702) := by
                    have := LWs.out.xr.cell (n + 1) (by omega)
                    rw [Nat.zero_add] at this
                    rw [this]
                    show some (Value.int .i64 ((xs ++ [7701, 7702]).getD (n + 1) 0)) = _
                    rw [← HLn.out.1]; simp [List.getD]
                  have ya : wd.cell? ⟨gy, m, none⟩ = some (.float .f64 4665191552769851392) := by
                    have := LWs.out.yr.cell m (by omega)
                    rw [Nat.zero_add] at this
                    rw [this]
                    show some (Value.float .f64 ((ys ++ [4665191552769851392, 4665192652281479168]).getD m 0)) = _
                    rw [← HLn.out.2]; simp [List.getD]
                  have yb : wd.cell? ⟨gy, m + 1, none⟩ = some (.float .f64 4665192652281479168) := by
                    have := LWs.out.yr.cell (m + 1) (by omega)
                    rw [Nat.zero_add] at this
                    rw [this]
                    show some (Value.float .f64 ((ys ++ [4665191552769851392, 4665192652281479168]).getD (m + 1) 0)) = _
                    rw [← HLn.out.2]; simp [List.getD]
                  have k1 : (FloatKind.f64.format.order 4665191552769851392 4665191552769851392 != some .eq) = false := by kernel_rfl
                  have k2 : (FloatKind.f64.format.order 4665192652281479168 4665192652281479168 != some .eq) = false := by kernel_rfl
                  have g1' : IntKind.i64.wrap ((n : Int) + 1) = (n : Int) + 1 := by rw [IntKind.wrap_i64]; omega
                  have g2' : IntKind.i64.wrap ((m : Int) + 1) = (m : Int) + 1 := by rw [IntKind.wrap_i64]; omega
                  have g3' : (n : Int) < ((n + 2 : Nat) : Int) := by omega
                  have g4' : (n : Int) + 1 < ((n + 2 : Nat) : Int) := by omega
                  have g5' : (m : Int) < ((m + 2 : Nat) : Int) := by omega
                  have g6' : (m : Int) + 1 < ((m + 2 : Nat) : Int) := by omega
                  have g7' : (0 : Int) ≤ (n : Int) + 1 := by omega
                  have g8' : (0 : Int) ≤ (m : Int) + 1 := by omega
                  have hEE : (E == E) = true := by simp
                  have hFF : (F == F) = true := by simp
                  have hGG : (G == G) = true := by simp
                  clear hdr G1 LWr LWs Sbc Sqc OWc OPc
                  have HAr := hideS (areS_any _ gb 0 cb L.length pb vw L wd HFa.out.1 HFa.out.2.2.1 HLL.out.1 rfl (by have := HLL.out.2.2.1; omega))
                  have HAq : Hid (∀ wx, (∃ q, wx = wd.drewN q) → Calls Tryz.prog 13 #[.slice pq M.length cq, vp] wx fun e w' => e = .returned (.bool true) ∧ ∃ q, w' = wd.drewN q) := fun wx ⟨q, hq⟩ => by
                    have b0 : Below wd.heap.size wd wx := by rw [hq]; exact ⟨rfl, rfl, rfl, Nat.le_refl _, fun _ _ => rfl⟩
                    refine (areS_any _ gq 0 cq M.length pq vp M wx (HFa.out.2.1.below b0) (HFa.out.2.2.2.below b0) HLL.out.2.1 rfl (by have := HLL.out.2.2.2; omega)).mono ?_
                    rintro e w' ⟨he, q', hw'⟩
                    exact ⟨he, q + q', by rw [hw', hq, World.drewN_drewN]⟩
                  have HZ : Hid (∀ wx, (∃ q, wx = wd.drewN q) → ∀ w9, Below wx.heap.size wx w9 → Below w.heap.size w w9) := fun wx ⟨q, hq⟩ w9 hb => by
                    subst hq
                    exact HL.out.trans ((show Below wd.heap.size wd w9 from (show Below wd.heap.size wd (wd.drewN q) from ⟨rfl, rfl, rfl, Nat.le_refl _, fun _ _ => rfl⟩).trans hb).mono HL.out.size)
                  clear HFa HL HLL
                  go_wp2_with fail
                  clear t1 t2 xa xb ya yb k1 k2 g1' g2' g3' g4' g5' g6' g7' g8' hge hlt hj
                  refine HAr.out.mono ?_
                  rintro e w20 ⟨rfl, hq20⟩
                  have H20 := hideS hq20
                  clear hq20 HAr
                  go_wp2_with fail
                  refine (HAq.out _ H20.out).mono ?_
                  rintro e w21 ⟨rfl, hq21⟩
                  have H21 := hideS hq21
                  clear hq21 HAq H20
                  go_wp2_with fail
                  refine (HI.out _).mono ?_
                  rintro e w' ⟨rfl, rfl⟩
                  go_wp2_with fail
                  refine (HW.out _).mono ?_
                  rintro e w22 ⟨rfl, hb22⟩
                  have HLz := hideS (HZ.out _ H21.out _ hb22)
                  clear hb22 HZ H21
                  go_wp2_with fail
                  go_ret
                  exact ⟨rfl, HLz.out⟩

theorem interpLent_walk (kind x k : Int) (px py : Option Addr) (bx ox cx b2 oy cy : Nat) (xs : List Int) (ys : List Nat) (w : World) (hs : TFl w px py bx ox b2 oy xs ys) (_hxI : ∀ i < xs.length, TI64 (xs.getD i 0)) (hx : xs.length ≤ 17592186043904) (hy : ys.length ≤ 17592186043904) (_hlx : xs.length ≤ cx) (_hly : ys.length ≤ cy) (_hxx : TI64 x) (_hkk : TI64 k) (nilx : px = none → xs.length = 0 ∧ cx = 0) (nily : py = none → ys.length = 0 ∧ cy = 0) :
    Calls Tryz.prog 3 #[.agg #[.int .i64 kind, .slice px xs.length cx, .slice py ys.length cy], .int .i64 x, .int .i64 k] w fun e w' => e = .returned (.bool true) ∧ Below w.heap.size w w' := by
  by_cases hl : 40 < xs.length ∨ 40 < ys.length
  · exact interpLent_many kind x k px py _ cx _ cy w hl (by omega) (by omega) (fun wx => awake10 wx)
  · obtain ⟨L, E, fL, l2, pS, dS⟩ := slopes_lent kind xs ys
    obtain ⟨M, F, fM, m1, pP, dP⟩ := points_lent kind k xs ys hs.f
    obtain ⟨V, G, hA⟩ := atO_ex kind xs ys x
    have hV := atO_lt hA hs.f
    refine interpLent_go kind x k E F G V L M px py bx ox cx b2 oy cy _ _ xs ys w rfl rfl (by omega) (by omega) hs nilx nily fL fM (by omega) m1 (fun wx hb => ?_) (fun gx gy c1 c2 wx h => pS _ _ gx 0 c1 gy 0 c2 wx h) (fun gx gy c1 c2 wx h => pP _ _ gx 0 c1 gy 0 c2 wx h) (fun gx gy c1 c2 wx h => intAt_any kind x G V _ _ gx 0 c1 gy 0 c2 xs ys wx hA h)
      (fun pd gd cd wx h => dS px pd bx ox cx gd 0 cd wx h) (fun pd gd cd wx h => dP px pd bx ox cx gd 0 cd wx h) (fun pd gd cd wx h1 h2 h => docAt kind x G V px pd bx ox cx gd 0 cd xs ys wx hA h h1 h2) (fun wx => isS V V wx rfl (u64N hV)) (fun wx => awake10 wx)
    refine (docOf kind px py bx ox cx b2 oy cy xs ys wx (hs.below hb) hy).mono fun e w' ⟨p, g, c, he, ⟨ht, h1, h2, _⟩, hbl⟩ => ?_
    exact ⟨p, g, c, he, ⟨ht.y, h1, h2⟩, hbl⟩
end Go.Proofs.YtnmjljijgmmakabGreat
