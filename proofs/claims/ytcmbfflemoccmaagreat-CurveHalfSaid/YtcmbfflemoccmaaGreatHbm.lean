/- The contract of package curve's Single where the curve may be. Curves through binary32, in plain words. The contracts of package curve's Last and Falls. The contracts of package interp's node and Find. -/
import Derived.Test.YtcmbfflemoccmaaGreatHbl
import Derived.Test.YtcmbfflemoccmaaGreatHaw
import Derived.Test.YtcmbfflemoccmaaGreatHar
import Derived.Test.YtcmbfflemoccmaaGreatHau
namespace Go.Proofs.YtcmbfflemoccmaaGreat
open Go.RowKit

theorem below_drN11 {B : Nat} {w w1 : World} (hb : Below B w w1) (q : Nat) : Below B w (w1.drewN q) := ⟨hb.os, hb.tape, hb.output, hb.size, hb.block⟩
def SgO (w : World) (base kind : Int) (n : Nat) (ds : List Int) (fs : List Nat) (e : Ending) (w' : World) : Prop :=
  (e = .returned (.tuple #[.agg #[.int .i64 0, .int .i64 0, .slice none 0 0, .slice none 0 0], .int .i64 91]) ∧ ∃ j < n, ¬ (0 < sgl (fs.getD j 0) ∧ sgl (fs.getD j 0) < 2139095040)) ∨
  ∃ (gx cx gy cy : Nat) (gs : List Nat), gs.length = n ∧ (∀ j < n, SgR (fs.getD j 0) (gs.getD j 0)) ∧ e = .returned (.tuple #[.agg #[.int .i64 base, .int .i64 kind, .slice (some ⟨gx, 0, none⟩) n cx, .slice (some ⟨gy, 0, none⟩) n cy], .int .i64 0]) ∧
    w'.ownsRow w.heap.size 3 1 (.slice (some ⟨gx, 0, none⟩) n cx) n (ds.map kV) ∧ w'.ownsRow w.heap.size 38 1 (.slice (some ⟨gy, 0, none⟩) n cy) n (gs.map fV)
structure SgW (w : World) (B : Nat) (base kind : Int) (vd vf : Value) (ds : List Int) (fs : List Nat) (i : Nat) (vX vY : Value) (gs : List Nat) (wr : World) : Prop where
  l : SgL w B base kind vd vf vX vY wr
  x : wr.ownsRow (B + 1) 3 1 vX i ((ds.take i).map kV)
  y : wr.ownsRow (B + 1) 38 1 vY i (gs.map fV)
  n : gs.length = i
  g : ∀ j < i, SgR (fs.getD j 0) (gs.getD j 0)
theorem SgW.drewN {w : World} {B : Nat} {base kind : Int} {vd vf : Value} {ds : List Int} {fs : List Nat} {i : Nat} {vX vY : Value} {gs : List Nat} {wr : World} (h : SgW w B base kind vd vf ds fs i vX vY gs wr) (q : Nat) : SgW w B base kind vd vf ds fs i vX vY gs (wr.drewN q) :=
  ⟨h.l.stay (below_drN11 (Below.refl _ wr) q), kown_below h.x (below_drN11 (Below.refl _ wr) q), kown_below h.y (below_drN11 (Below.refl _ wr) q), h.n, h.g⟩
theorem own_in {t : TypeId} {w : World} {b n : Nat} {v : Value} {xs : List Value} (h : w.ownsRow b t 1 v n xs) {g : Nat} (e : v.ownBlock = some g) : g < w.heap.size := by
  rcases h.2 with ⟨rfl, _⟩ | ⟨k, cap, cur, rfl, hk, hgg, _⟩
  · cases e
  · have e1 : k = g := by simpa [Value.ownBlock] using e
    subst e1
    exact (Array.getElem?_eq_some_iff.1 hgg).1
theorem grown_cell {w w' : World} {r : Option Nat} (h : w.grownBy w' r) {g i : Nat} (hg : g < w.heap.size) (hr : ∀ k, r = some k → k ≠ g) : w'.cell? ⟨g, i, none⟩ = w.cell? ⟨g, i, none⟩ := by
  exact World.cell?_of_block (h.block g hg (fun e => hr g e.symm rfl))
structure SgT (w : World) (B : Nat) (base kind : Int) (vd vf vX vY : Value) (i : Nat) (xs : List Int) (gs : List Nat) (v3 : Value) (w3 : World) : Prop where
  l : SgL w B base kind vd vf vX vY w3
  x : w3.ownsRow (B + 1) 3 1 v3 (i + 1) (xs.map kV)
  y : w3.ownsRow (B + 1) 38 1 vY i (gs.map fV)
theorem SgT.below {w : World} {B : Nat} {base kind : Int} {vd vf vX vY : Value} {i : Nat} {xs : List Int} {gs : List Nat} {v3 : Value} {w3 w4 : World} (h : SgT w B base kind vd vf vX vY i xs gs v3 w3) (hb : Below w3.heap.size w3 w4) : SgT w B base kind vd vf vX vY i xs gs v3 w4 :=
  ⟨h.l.stay (hb.mono h.l.sz), kown_below h.x hb, kown_below h.y hb⟩
theorem sgT_of {w : World} {B : Nat} {base kind : Int} {vd vf vX vY : Value} {i : Nat} {xs : List Int} {gs : List Nat} {D : Int} {v3 : Value} {w1 w3 : World} (hl : SgL w B base kind vd vf vX vY w1) (hx : w1.ownsRow (B + 1) 3 1 vX i (xs.map kV)) (hy : w1.ownsRow (B + 1) 38 1 vY i (gs.map fV)) (h3 : w3.ownsRow (B + 1) 3 1 v3 (i + 1) ((xs ++ [D]).map kV)) (hg : w1.grownBy w3 vX.ownBlock) : SgT w B base kind vd vf vX vY i (xs ++ [D]) gs v3 w3 :=
  ⟨hl.stay (kgrown_below hx hg hl.sz), h3, own_far hy hg (fun g e c => own_apart hy hx (by decide) g e c)⟩
theorem sgW_of {w : World} {B : Nat} {base kind : Int} {vd vf vX vY : Value} {ds : List Int} {fs : List Nat} {i : Nat} {gs : List Nat} {X : Nat} {v3 v5 : Value} {w4 w5 : World} (hi : i < ds.length) (h : SgT w B base kind vd vf vX vY i (ds.take i ++ [ds.getD i 0]) gs v3 w4) (hn : gs.length = i) (hg : ∀ j < i, SgR (fs.getD j 0) (gs.getD j 0)) (hX : SgR (fs.getD i 0) X) (h5 : w5.ownsRow (B + 1) 38 1 v5 (i + 1) ((gs ++ [X]).map fV)) (hw : w4.grownBy w5 vY.ownBlock) :
    SgL w B base kind vd vf vX vY w5 ∧ SgW w B base kind vd vf ds fs (i + 1) v3 v5 (gs ++ [X]) ((w5.setCell ⟨B, 2, none⟩ v3).setCell ⟨B, 3, none⟩ v5) := by
  have l5 := h.l.stay (kgrown_below h.y hw h.l.sz)
  have x5 : w5.ownsRow (B + 1) 3 1 v3 (i + 1) ((ds.take (i + 1)).map kV) := by
    have e : ds.take (i + 1) = ds.take i ++ [ds.getD i 0] := by
      rw [List.take_add_one, List.getD_eq_getElem?_getD, List.getElem?_eq_getElem hi]; rfl
    rw [e]
    exact own_far h.x hw (fun g e c => own_apart h.x h.y (by decide) g e c)
  refine ⟨l5, ⟨l5.put v3 v5, kown_put (kown_put x5 (Nat.lt_succ_self B) _) (Nat.lt_succ_self B) _, kown_put (kown_put h5 (Nat.lt_succ_self B) _) (Nat.lt_succ_self B) _, by simp [hn], fun j hj => ?_⟩⟩
  by_cases c : j < i
  · have e : (gs ++ [X]).getD j 0 = gs.getD j 0 := by
      rw [List.getD_eq_getElem?_getD, List.getD_eq_getElem?_getD, List.getElem?_append_left (by omega)]
    rw [e]; exact hg j c
  · obtain rfl : j = i := by omega
    have e : (gs ++ [X]).getD j 0 = X := by
      rw [List.getD_eq_getElem?_getD, List.getElem?_append_right (by omega), hn, Nat.sub_self]; rfl
    rw [e]; exact hX

set_option maxRecDepth 20000 in
set_option maxHeartbeats 6400000 in
theorem curSingle_ok (base kind : Int) (bd od cd b2 o2 cf n : Nat) (ds : List Int) (fs : List Nat) (w : World) (hd : VSrc w (some ⟨bd, od, none⟩) bd od n (xV ds)) (hf : VSrc w (some ⟨b2, o2, none⟩) b2 o2 n (flV fs)) (hl : ds.length = n) (hn : 1 ≤ n) (hn' : n ≤ 255) (hp : ∀ i < n, 0 < fs.getD i 0 ∧ fs.getD i 0 < 9218868437227405312)
    (HC : Hid (∀ wx, Below w.heap.size w wx → Calls Tryz.prog 10 #[.agg #[.int .i64 base, .int .i64 kind, .slice (some ⟨bd, od, none⟩) n cd, .slice (some ⟨b2, o2, none⟩) n cf]] wx fun e w' => e = .returned (.int .i64 0) ∧ Below wx.heap.size wx w')) :
    Calls Tryz.prog 19 #[.agg #[.int .i64 base, .int .i64 kind, .slice (some ⟨bd, od, none⟩) n cd, .slice (some ⟨b2, o2, none⟩) n cf]] w fun e w' => SgO w base kind n ds fs e w' ∧ Below w.heap.size w w' := by
  have HB := hideS (sgB_at w base kind (.slice (some ⟨bd, od, none⟩) n cd) (.slice (some ⟨b2, o2, none⟩) n cf))
  have HD := hideS hd
  have HF := hideS hf
  have HLn := hideS hl
  have HPs := hideS hp
  clear hd hf hl hp
  go_enter Tryz.func19, Tryz.ntmps19
  go_wp2_with fail
  refine (HC.out _ HB.out.bl).mono ?_
  rintro e w2 ⟨rfl, hb2⟩
  have HB2 := hideS (HB.out.stay (hb2.mono HB.out.sz))
  have q0 := HB2.out.t0
  have q1 := HB2.out.t1
  have q3 := HB2.out.t3
  have hlt : w.heap.size < w2.heap.size := by have := HB2.out.sz; omega
  have hne : w.heap.size ≠ w2.heap.size := Nat.ne_of_lt hlt
  have HL0 : Hid (SgW w w2.heap.size base kind (.slice (some ⟨bd, od, none⟩) n cd) (.slice (some ⟨b2, o2, none⟩) n cf) ds fs 0 (.slice none 0 0) (.slice none 0 0) [] (w2.alloc (.cells #[.int .i64 base, .int .i64 kind, .slice none 0 0, .slice none 0 0] 25))) :=
    ⟨sgL_at HB2.out, ⟨rfl, Or.inl ⟨rfl, rfl⟩⟩, ⟨rfl, Or.inl ⟨rfl, rfl⟩⟩, rfl, fun j hj => by omega⟩
  clear hb2 HB HC HB2
  go_wp2_with fail
  clear q0 q1 q3 hlt hne
  generalize w2.heap.size = B at *
  go_loopw [6, 7, 22] (fun _ _ i wr => ∃ (k : Nat) (vX vY : Value) (gs : List Nat), k ≤ n ∧ i = .int .i64 k ∧ Hid (SgW w B base kind (.slice (some ⟨bd, od, none⟩) n cd) (.slice (some ⟨b2, o2, none⟩) n cf) ds fs k vX vY gs wr)) (fun _ _ i _ => n - (intOf i).toNat)
  case atStart => exact ⟨0, _, _, _, Nat.zero_le _, rfl, HL0⟩
  case round =>
    clear HL0
    obtain ⟨k, vX, vY, gs, hk, rfl, HW⟩ := hrel
    by_cases hlt : k < n
    · obtain ⟨p0, p1⟩ := HPs.out k hlt
      have hcf : wr.cell? ⟨b2, o2 + k, none⟩ = some (.float .f64 (fs.getD k 0)) := (HF.out.below HW.out.l.b.bl).cell k hlt
      have HX : Hid (∀ b x, (0 < b ∧ b < 2139095040 ∧ x = dblS b) → (sgl (fs.getD k 0) < 2139095040 → b = sgl (fs.getD k 0)) → SgR (fs.getD k 0) x) := fun b x h1 h2 => ⟨b, h1.1, h1.2.1, h1.2.2, h2⟩
      have HBad : Hid (∀ x, facB x = false → (∀ b, (sgl (fs.getD k 0) < 2139095040 → b = sgl (fs.getD k 0)) → (0 < b → b < 2139095040 → x = dblS b) → ¬ (0 < sgl (fs.getD k 0) ∧ sgl (fs.getD k 0) < 2139095040))) := fun x hx b h1 h2 h3 => by
        have e1 := h1 h3.2
        have e2 := h2 (by omega) (by omega)
        obtain ⟨d0, d1⟩ := dblS_fin (b := b) (by omega) (by omega)
        rw [e2, facB_of d0 d1] at hx
        cases hx
      have HEx : Hid (¬ (0 < sgl (fs.getD k 0) ∧ sgl (fs.getD k 0) < 2139095040) → ∃ j < n, ¬ (0 < sgl (fs.getD j 0) ∧ sgl (fs.getD j 0) < 2139095040)) := fun h => ⟨k, hlt, h⟩
      generalize hfe : fs.getD k 0 = f at hcf p0 p1 HX HBad HEx
      have HFe := hideS hfe
      clear hfe
      obtain ⟨b, q, hdn, hb32, hbs⟩ := run_down f p0 p1 wr
      obtain ⟨wq, hwq⟩ : ∃ wq, wr.drewN q = wq := ⟨_, rfl⟩
      rw [hwq] at hdn
      obtain ⟨x, q2, hup, hx, hx1, hx2⟩ := run_up b hb32 wq
      obtain ⟨w1, hw1⟩ : ∃ w1, wq.drewN q2 = w1 := ⟨_, rfl⟩
      rw [hw1] at hup
      have HW1 : Hid (SgW w B base kind (.slice (some ⟨bd, od, none⟩) n cd) (.slice (some ⟨b2, o2, none⟩) n cf) ds fs k vX vY gs w1) := by
        show SgW _ _ _ _ _ _ _ _ _ _ _ _ _
        rw [← hw1, ← hwq]; exact (HW.out.drewN q).drewN q2
      have HIf := hideS fun w => isFactor_any x w hx
      cases hfx : facB x with
      | false =>
        rw [hfx] at HIf
        have HBad2 := hideS (HEx.out (HBad.out x hfx b hbs hx2))
        have HBx := hideS HW1.out.l.b
        have d0 := HBx.out.d0
        have d1 := HBx.out.d1
        have d2 := HBx.out.d2
        have d3 := HBx.out.d3
        have z0 := HBx.out.fz 0
        have z1 := HBx.out.fz 1
        have z2 := HBx.out.fz 2
        have z3 := HBx.out.fz 3
        clear HW HW1 hwq hw1 hx hx1 hx2 hbs hfx p0 p1 HX hb32 HBad HEx
        go_wp2_with fail
        refine (HIf.out _).mono ?_
        rintro e w' ⟨rfl, rfl⟩
        go_wp2_with fail
        have hs : ∀ j, w.heap.size ≤ (⟨w.heap.size + 1, j, none⟩ : Addr).block := fun j => by show w.heap.size ≤ w.heap.size + 1; omega
        refine bodyPost_ret (v := .tuple #[.agg #[.int .i64 0, .int .i64 0, .slice none 0 0, .slice none 0 0], .int .i64 91]) (by simp [results, Tryz.results19, go_sem, d0, d1, d2, d3]) rfl ?_
        exact ⟨Or.inl ⟨rfl, HBad2.out⟩, (((HBx.out.bl.setCell (hs 0) _).setCell (hs 1) _).setCell (hs 2) _).setCell (hs 3) _⟩
      | true =>
        rw [hfx] at HIf
        have HXx : Hid (SgR (fs.getD k 0) x) := by rw [HFe.out]; exact HX.out b x (hx1 hfx) hbs
        obtain ⟨qx, cx, rfl⟩ := kown_shape HW1.out.x
        obtain ⟨qy, cy, rfl⟩ := kown_shape HW1.out.y
        clear HW hwq hw1 hx hx1 hx2 hbs hfx p0 p1 HX hb32 HBad HEx
        go_wp2_with fail
        refine (turned (HIf.out _)).mono ?_
        rintro e w' ⟨rfl, rfl⟩
        clear hdn hup hcf HIf
        have hBs : B < w1.heap.size := by have := HW1.out.l.sz; omega
        have hcd : w1.cell? ⟨bd, od + k, none⟩ = some (.int .i64 (ds.getD k 0)) := (HD.out.below HW1.out.l.b.bl).cell k hlt
        have HKd : Hid (∀ wx, Below w.heap.size w wx → wx.cell? ⟨bd, od + k, none⟩ = some (.int .i64 (ds.getD k 0))) := fun wx hb => (HD.out.below hb).cell k hlt
        have HTk : Hid (∀ {v3 : Value} {gs' : List Nat} {vY' : Value} {w3 : World}, True → True) := fun _ => trivial
        generalize hDe : ds.getD k 0 = D at hcd HKd
        have HDe := hideS hDe
        clear hDe HTk
        have t2 := HW1.out.l.b.t2
        have s2 := HW1.out.l.s2
        have s3 := HW1.out.l.s3
        have f2 := HW1.out.l.fz 2
        have f3 := HW1.out.l.fz 3
        have bw : ∀ o, Below w1.heap.size w1 (w1.alloc o) := fun o => (Below.refl _ w1).alloc (Nat.le_refl _) o
        have bww : ∀ o o', Below w1.heap.size w1 ((w1.alloc o).alloc o') := fun o o' => (bw o).alloc (bw o).size o'
        have HAp : Hid (∀ wa, Below w1.heap.size w1 wa → SgL w B base kind (.slice (some ⟨bd, od, none⟩) n cd) (.slice (some ⟨b2, o2, none⟩) n cf) (.slice qx k cx) (.slice qy k cy) wa ∧ wa.ownsRow (B + 1) 3 1 (.slice qx k cx) k ((ds.take k).map kV) ∧ wa.ownsRow (B + 1) 38 1 (.slice qy k cy) k (gs.map fV) ∧ B + 1 ≤ wa.heap.size) := fun wa hb => ⟨HW1.out.l.stay (hb.mono HW1.out.l.sz), kown_below HW1.out.x hb, kown_below HW1.out.y hb, Nat.le_trans HW1.out.l.sz hb.size⟩
        have Ha := hideS (HAp.out _ (bw (.cells #[.int .i64 D] 3)).drew)
        have Hab := hideS (HAp.out _ (bww (.cells #[.int .i64 D] 3) (.cells #[.float .f64 x] 38)).drew)
        have Hba := hideS (HAp.out _ (bww (.cells #[.float .f64 x] 38) (.cells #[.int .i64 D] 3)).drew)
        have z1 : (w1.alloc (.cells #[.int .i64 D] 3)).heap.size = w1.heap.size + 1 := by simp
        have z2 : (w1.alloc (.cells #[.float .f64 x] 38)).heap.size = w1.heap.size + 1 := by simp
        have Ca : Hid (∀ j < 1, (w1.alloc (.cells #[.int .i64 D] 3)).drew.cell? ⟨w1.heap.size, 0 + j, none⟩ = some (xV [D] j)) := one_int w1 D 3
        have Cab : Hid (∀ j < 1, ((w1.alloc (.cells #[.int .i64 D] 3)).alloc (.cells #[.float .f64 x] 38)).drew.cell? ⟨w1.heap.size, 0 + j, none⟩ = some (xV [D] j)) := fun j hj => (((Below.refl _ (w1.alloc (.cells #[.int .i64 D] 3))).alloc (Nat.le_refl _) (.cells #[.float .f64 x] 38)).cell (p := ⟨w1.heap.size, 0 + j, none⟩) (by rw [z1]; exact Nat.lt_succ_self _)).trans (one_int w1 D 3 j hj)
        have Cba : Hid (∀ j < 1, ((w1.alloc (.cells #[.float .f64 x] 38)).alloc (.cells #[.int .i64 D] 3)).drew.cell? ⟨w1.heap.size + 1, 0 + j, none⟩ = some (xV [D] j)) := by
          have := one_int (w1.alloc (.cells #[.float .f64 x] 38)) D 3
          rw [z2] at this; exact this
        have Xab : Hid (∀ j < 1, ((w1.alloc (.cells #[.int .i64 D] 3)).alloc (.cells #[.float .f64 x] 38)).drew.cell? ⟨w1.heap.size + 1, 0 + j, none⟩ = some (flV [x] j)) := by
          have := one_flt (w1.alloc (.cells #[.int .i64 D] 3)) x 38
          rw [z1] at this; exact this
        have Xba : Hid (∀ j < 1, ((w1.alloc (.cells #[.float .f64 x] 38)).alloc (.cells #[.int .i64 D] 3)).drew.cell? ⟨w1.heap.size, 0 + j, none⟩ = some (flV [x] j)) := fun j hj => (((Below.refl _ (w1.alloc (.cells #[.float .f64 x] 38))).alloc (Nat.le_refl _) (.cells #[.int .i64 D] 3)).cell (p := ⟨w1.heap.size, 0 + j, none⟩) (by rw [z2]; exact Nat.lt_succ_self _)).trans (one_flt w1 x 38 j hj)
        have HNo : Hid (∀ g, (Value.slice qx k cx).ownBlock = some g → g < w1.heap.size) := fun g hg => own_in HW1.out.x hg
        have HLen := hideS (And.intro HW1.out.n (And.intro HW1.out.g (show k < ds.length by rw [HLn.out]; exact hlt)))
        have HLw : Hid (∀ wa, Below w1.heap.size w1 wa → wa.cell? ⟨B, 2, none⟩ = some (.slice qx k cx) ∧ wa.cell? ⟨B, 3, none⟩ = some (.slice qy k cy) ∧ wa.cell? ⟨w.heap.size, 2, none⟩ = some (.slice (some ⟨bd, od, none⟩) n cd) ∧ wa.cell? ⟨bd, od + k, none⟩ = some (.int .i64 D)) := fun wa hb => ⟨(HAp.out wa hb).1.s2, (HAp.out wa hb).1.s3, (HAp.out wa hb).1.b.t2, HKd.out _ (HAp.out wa hb).1.b.bl⟩
        have e1 : ∀ o, (w1.alloc o).cell? ⟨B, 2, none⟩ = some (.slice qx k cx) := fun o => (HLw.out _ (bw o)).1
        have e2 : ∀ o, (w1.alloc o).cell? ⟨B, 3, none⟩ = some (.slice qy k cy) := fun o => (HLw.out _ (bw o)).2.1
        have e3 : ∀ o, (w1.alloc o).cell? ⟨w.heap.size, 2, none⟩ = some (.slice (some ⟨bd, od, none⟩) n cd) := fun o => (HLw.out _ (bw o)).2.2.1
        have e4 : ∀ o, (w1.alloc o).cell? ⟨bd, od + k, none⟩ = some (.int .i64 D) := fun o => (HLw.out _ (bw o)).2.2.2
        have e5 : ∀ o, (w1.alloc o).drew.cell? ⟨B, 2, none⟩ = some (.slice qx k cx) := e1
        have e6 : ∀ o, (w1.alloc o).drew.cell? ⟨B, 3, none⟩ = some (.slice qy k cy) := e2
        have e7 : ∀ o, (w1.alloc o).drew.cell? ⟨w.heap.size, 2, none⟩ = some (.slice (some ⟨bd, od, none⟩) n cd) := e3
        have e8 : ∀ o, (w1.alloc o).drew.cell? ⟨bd, od + k, none⟩ = some (.int .i64 D) := e4
        have i1 : ∀ o o', ((w1.alloc o).alloc o').cell? ⟨B, 2, none⟩ = some (.slice qx k cx) := fun o o' => (HLw.out _ (bww o o')).1
        have i2 : ∀ o o', ((w1.alloc o).alloc o').cell? ⟨B, 3, none⟩ = some (.slice qy k cy) := fun o o' => (HLw.out _ (bww o o')).2.1
        have i3 : ∀ o o', ((w1.alloc o).alloc o').drew.cell? ⟨B, 2, none⟩ = some (.slice qx k cx) := i1
        have i4 : ∀ o o', ((w1.alloc o).alloc o').drew.cell? ⟨B, 3, none⟩ = some (.slice qy k cy) := i2
        have g3 : (0 : Int) ≤ (k : Int) := by omega
        have g4 : (k : Int) < (n : Int) := by omega
        clear z1 z2
        go_wp2_with fail
        refine wp_region_late (fun xw => xw.cell? ⟨B, 2, none⟩ = some (.slice qx k cx) ∧ xw.cell? ⟨B, 3, none⟩ = some (.slice qy k cy) ∧ xw.cell? ⟨w.heap.size, 2, none⟩ = some (.slice (some ⟨bd, od, none⟩) n cd) ∧ xw.cell? ⟨bd, od + k, none⟩ = some (.int .i64 D)) (fun i => i == 15 || i == 16 || i == 17) (by kernel_rfl) ?_
        have hS0 : w1.drew.cell? ⟨B, 2, none⟩ = some (.slice qx k cx) ∧ w1.drew.cell? ⟨B, 3, none⟩ = some (.slice qy k cy) ∧ w1.drew.cell? ⟨w.heap.size, 2, none⟩ = some (.slice (some ⟨bd, od, none⟩) n cd) ∧ w1.drew.cell? ⟨bd, od + k, none⟩ = some (.int .i64 D) := ⟨s2, s3, t2, hcd⟩
        refine anyL_take 0 (.pointer (some ⟨B, 2, none⟩)) rfl (by kernel_rfl) (by kernel_rfl) (by kernel_rfl) (by kernel_rfl) (by kernel_rfl) (fun _ _ _ h => h) (by rfl) hS0 (fun wx hS => by obtain ⟨x1, x2, x3, x4⟩ := hS; go_simp) ?_
        simp only [Act.put, List.setIfInBounds_toArray]
        refine anyL_take 1 (.slice qx k cx) rfl (by kernel_rfl) (by kernel_rfl) (by kernel_rfl) (by kernel_rfl) (by kernel_rfl) (fun _ _ _ h => h) (by rfl) hS0 (fun wx hS => by obtain ⟨x1, x2, x3, x4⟩ := hS; go_simp) ?_
        simp only [Act.put]
        refine anyL_take 2 (.pointer (some ⟨w.heap.size, 2, none⟩)) rfl (by kernel_rfl) (by kernel_rfl) (by kernel_rfl) (by kernel_rfl) (by kernel_rfl) (fun _ _ _ h => h) (by rfl) hS0 (fun wx hS => by obtain ⟨x1, x2, x3, x4⟩ := hS; go_simp) ?_
        simp only [Act.put]
        refine anyL_take 3 (.slice (some ⟨bd, od, none⟩) n cd) rfl (by kernel_rfl) (by kernel_rfl) (by kernel_rfl) (by kernel_rfl) (by kernel_rfl) (fun _ _ _ h => h) (by rfl) hS0 (fun wx hS => by obtain ⟨x1, x2, x3, x4⟩ := hS; go_simp) ?_
        simp only [Act.put]
        refine anyL_take 4 (.int .i64 k) rfl (by kernel_rfl) (by kernel_rfl) (by kernel_rfl) (by kernel_rfl) (by kernel_rfl) (fun _ _ _ h => h) (by rfl) hS0 (fun wx hS => by obtain ⟨x1, x2, x3, x4⟩ := hS; go_simp) ?_
        simp only [Act.put]
        refine anyL_take 5 (.pointer (some ⟨bd, od + k, none⟩)) rfl (by kernel_rfl) (by kernel_rfl) (by kernel_rfl) (by kernel_rfl) (by kernel_rfl) (fun _ _ _ h => h) (by rfl) hS0 (fun wx hS => by obtain ⟨x1, x2, x3, x4⟩ := hS; go_simp) ?_
        simp only [Act.put]
        refine anyL_take 6 (.int .i64 D) rfl (by kernel_rfl) (by kernel_rfl) (by kernel_rfl) (by kernel_rfl) (by kernel_rfl) (fun _ _ _ h => h) (by rfl) hS0 (fun wx hS => by obtain ⟨x1, x2, x3, x4⟩ := hS; go_simp) ?_
        simp only [Act.put]
        refine anyL_take 9 (.pointer (some ⟨B, 3, none⟩)) rfl (by kernel_rfl) (by kernel_rfl) (by kernel_rfl) (by kernel_rfl) (by kernel_rfl) (fun _ _ _ h => h) (by rfl) hS0 (fun wx hS => by obtain ⟨x1, x2, x3, x4⟩ := hS; go_simp) ?_
        simp only [Act.put]
        refine anyL_take 10 (.slice qy k cy) rfl (by kernel_rfl) (by kernel_rfl) (by kernel_rfl) (by kernel_rfl) (by kernel_rfl) (fun _ _ _ h => h) (by rfl) hS0 (fun wx hS => by obtain ⟨x1, x2, x3, x4⟩ := hS; go_simp) ?_
        simp only [Act.put]
        refine anyL_take 11 (.float .f64 x) rfl (by kernel_rfl) (by kernel_rfl) (by kernel_rfl) (by kernel_rfl) (by kernel_rfl) (fun _ _ _ h => h) (by rfl) hS0 (fun wx hS => by obtain ⟨x1, x2, x3, x4⟩ := hS; go_simp) ?_
        simp only [Act.put]
        refine anyL_two (i := 7) (j := 12) (by kernel_rfl) ?_ ?_
        · refine wpOp_step rfl (fun K1 hK1 => ?_)
          go_simp
          refine hK1 _ _ ⟨fun _ => HLw.out _ (bw (.cells #[.int .i64 D] 3)).drew, ?_⟩
          refine anyL_two (i := 8) (j := 12) (by kernel_rfl) ?_ ?_
          · refine wpOp_step rfl (fun K2 hK2 => ?_)
            refine step_append_ik rfl (.tmp 35) (.tmp 41) rfl (B + 1) (.slice qx k cx) k (ds.take k) rfl Ha.out.2.1 (w1.heap.size) 0 1 1 [D] rfl rfl Ca.out (by omega) (by omega) Ha.out.2.2.2 ?_
            intro v3 w3 ho3 hg3
            have HT3 := hideS (sgT_of Ha.out.1 Ha.out.2.1 Ha.out.2.2.1 ho3 hg3)
            have HG3 := hideS hg3
            obtain ⟨q3, c3, rfl⟩ := kown_shape ho3
            clear ho3 hg3
            have hS3 : w3.cell? ⟨B, 2, none⟩ = some (.slice qx k cx) ∧ w3.cell? ⟨B, 3, none⟩ = some (.slice qy k cy) ∧ w3.cell? ⟨w.heap.size, 2, none⟩ = some (.slice (some ⟨bd, od, none⟩) n cd) ∧ w3.cell? ⟨bd, od + k, none⟩ = some (.int .i64 D) := ⟨HT3.out.l.s2, HT3.out.l.s3, HT3.out.l.b.t2, HKd.out _ HT3.out.l.b.bl⟩
            refine hK2 _ _ ⟨fun _ => hS3, ?_⟩
            simp only [Act.put]
            refine anyL_take 14 (.pointer (some ⟨B, 2, none⟩)) rfl (by kernel_rfl) (by kernel_rfl) (by kernel_rfl) (by kernel_rfl) (by kernel_rfl) (fun _ _ _ h => h) (by rfl) hS3 (fun wx hS => by obtain ⟨x1, x2, x3, x4⟩ := hS; go_simp) ?_
            simp only [Act.put]
            have ba3 : ∀ o, Below w3.heap.size w3 (w3.alloc o) := fun o => (Below.refl _ w3).alloc (Nat.le_refl _) o
            have HT4 := hideS (HT3.out.below (ba3 (.cells #[.float .f64 x] 38)))
            have X1 := hideS (one_flt w3 x 38)
            refine anyL_one (i := 12) (by kernel_rfl) ?_
            refine wpOp_step rfl (fun K3 hK3 => ?_)
            go_simp
            refine hK3 _ _ ⟨fun _ => ⟨HT4.out.l.s2, HT4.out.l.s3, HT4.out.l.b.t2, HKd.out _ HT4.out.l.b.bl⟩, ?_⟩
            refine anyL_one (i := 13) (by kernel_rfl) ?_
            refine wpOp_step rfl (fun K5 hK5 => ?_)
            refine step_append_fk rfl (.tmp 44) (.tmp 46) rfl (B + 1) (.slice qy k cy) k gs rfl HT4.out.y (w3.heap.size) 0 1 1 [x] rfl rfl X1.out (by omega) (by omega) HT4.out.l.sz ?_
            intro v5 w5 ho5 hg5
            obtain ⟨hl5, hw5⟩ := sgW_of (fs := fs) HLen.out.2.2 (by rw [HDe.out]; exact HT4.out) HLen.out.1 HLen.out.2.1 HXx.out ho5 hg5
            obtain ⟨q5, c5, rfl⟩ := kown_shape ho5
            have r2 := hl5.s2
            have r3 := hl5.s3
            have y2 := hl5.fz 2
            have y3 := hl5.fz 3
            have HW5 := hideS hw5
            refine hK5 _ _ ⟨fun _ => ⟨hl5.s2, hl5.s3, hl5.b.t2, HKd.out _ hl5.b.bl⟩, ?_⟩
            simp only [Act.put]
            clear ho5 hg5 hl5 hw5
            refine anyL_one (i := 15) (by kernel_rfl) ?_
            refine wpOp_step rfl (fun K6 hK6 => ?_)
            go_simp
            refine hK6 _ _ ⟨fun h => absurd h (by decide), ?_⟩
            refine anyL_one (i := 16) (by kernel_rfl) ?_
            refine wpOp_step rfl (fun K7 hK7 => ?_)
            go_simp
            refine hK7 _ _ ⟨fun h => absurd h (by decide), ?_⟩
            refine anyL_one (i := 17) (by kernel_rfl) ?_
            refine wpOp_step rfl (fun K8 hK8 => ?_)
            go_simp
            refine hK8 _ _ ⟨fun h => absurd h (by decide), ?_⟩
            refine anyL_done (by kernel_rfl) ?_
            go_wp2_with fail
            go_roundw
            case rel => exact ⟨k + 1, _, _, _, by omega, by simp, HW5⟩
            case measure => simp [intOf]; omega
          · refine wpOp_step rfl (fun K2 hK2 => ?_)
            go_simp
            refine hK2 _ _ ⟨fun _ => HLw.out _ (bww (.cells #[.int .i64 D] 3) (.cells #[.float .f64 x] 38)).drew, ?_⟩
            refine anyL_one (i := 8) (by kernel_rfl) ?_
            refine wpOp_step rfl (fun K3 hK3 => ?_)
            refine step_append_ik rfl (.tmp 35) (.tmp 41) rfl (B + 1) (.slice qx k cx) k (ds.take k) rfl Hab.out.2.1 (w1.heap.size) 0 1 1 [D] rfl rfl Cab.out (by omega) (by omega) Hab.out.2.2.2 ?_
            intro v3 w3 ho3 hg3
            have HT3 := hideS (sgT_of Hab.out.1 Hab.out.2.1 Hab.out.2.2.1 ho3 hg3)
            have HG3 := hideS hg3
            obtain ⟨q3, c3, rfl⟩ := kown_shape ho3
            clear ho3 hg3
            have hS3 : w3.cell? ⟨B, 2, none⟩ = some (.slice qx k cx) ∧ w3.cell? ⟨B, 3, none⟩ = some (.slice qy k cy) ∧ w3.cell? ⟨w.heap.size, 2, none⟩ = some (.slice (some ⟨bd, od, none⟩) n cd) ∧ w3.cell? ⟨bd, od + k, none⟩ = some (.int .i64 D) := ⟨HT3.out.l.s2, HT3.out.l.s3, HT3.out.l.b.t2, HKd.out _ HT3.out.l.b.bl⟩
            refine hK3 _ _ ⟨fun _ => hS3, ?_⟩
            simp only [Act.put]
            refine anyL_take 14 (.pointer (some ⟨B, 2, none⟩)) rfl (by kernel_rfl) (by kernel_rfl) (by kernel_rfl) (by kernel_rfl) (by kernel_rfl) (fun _ _ _ h => h) (by rfl) hS3 (fun wx hS => by obtain ⟨x1, x2, x3, x4⟩ := hS; go_simp) ?_
            simp only [Act.put]
            have X2 : Hid (∀ j < 1, w3.cell? ⟨w1.heap.size + 1, 0 + j, none⟩ = some (flV [x] j)) := fun j hj => (grown_cell HG3.out (by simp <;> omega) (fun g hg => by have := HNo.out g hg; omega)).trans (Xab.out j hj)
            refine anyL_one (i := 13) (by kernel_rfl) ?_
            refine wpOp_step rfl (fun K5 hK5 => ?_)
            refine step_append_fk rfl (.tmp 44) (.tmp 46) rfl (B + 1) (.slice qy k cy) k gs rfl HT3.out.y (w1.heap.size + 1) 0 1 1 [x] rfl rfl X2.out (by omega) (by omega) HT3.out.l.sz ?_
            intro v5 w5 ho5 hg5
            obtain ⟨hl5, hw5⟩ := sgW_of (fs := fs) HLen.out.2.2 (by rw [HDe.out]; exact HT3.out) HLen.out.1 HLen.out.2.1 HXx.out ho5 hg5
            obtain ⟨q5, c5, rfl⟩ := kown_shape ho5
            have r2 := hl5.s2
            have r3 := hl5.s3
            have y2 := hl5.fz 2
            have y3 := hl5.fz 3
            have HW5 := hideS hw5
            refine hK5 _ _ ⟨fun _ => ⟨hl5.s2, hl5.s3, hl5.b.t2, HKd.out _ hl5.b.bl⟩, ?_⟩
            simp only [Act.put]
            clear ho5 hg5 hl5 hw5
            refine anyL_one (i := 15) (by kernel_rfl) ?_
            refine wpOp_step rfl (fun K6 hK6 => ?_)
            go_simp
            refine hK6 _ _ ⟨fun h => absurd h (by decide), ?_⟩
            refine anyL_one (i := 16) (by kernel_rfl) ?_
            refine wpOp_step rfl (fun K7 hK7 => ?_)
            go_simp
            refine hK7 _ _ ⟨fun h => absurd h (by decide), ?_⟩
            refine anyL_one (i := 17) (by kernel_rfl) ?_
            refine wpOp_step rfl (fun K8 hK8 => ?_)
            go_simp
            refine hK8 _ _ ⟨fun h => absurd h (by decide), ?_⟩
            refine anyL_done (by kernel_rfl) ?_
            go_wp2_with fail
            go_roundw
            case rel => exact ⟨k + 1, _, _, _, by omega, by simp, HW5⟩
            case measure => simp [intOf]; omega
        · refine wpOp_step rfl (fun K1 hK1 => ?_)
          go_simp
          refine hK1 _ _ ⟨fun _ => HLw.out _ (bw (.cells #[.float .f64 x] 38)).drew, ?_⟩
          refine anyL_one (i := 7) (by kernel_rfl) ?_
          refine wpOp_step rfl (fun K2 hK2 => ?_)
          go_simp
          refine hK2 _ _ ⟨fun _ => HLw.out _ (bww (.cells #[.float .f64 x] 38) (.cells #[.int .i64 D] 3)).drew, ?_⟩
          refine anyL_one (i := 8) (by kernel_rfl) ?_
          refine wpOp_step rfl (fun K3 hK3 => ?_)
          refine step_append_ik rfl (.tmp 35) (.tmp 41) rfl (B + 1) (.slice qx k cx) k (ds.take k) rfl Hba.out.2.1 (w1.heap.size + 1) 0 1 1 [D] rfl rfl Cba.out (by omega) (by omega) Hba.out.2.2.2 ?_
          intro v3 w3 ho3 hg3
          have HT3 := hideS (sgT_of Hba.out.1 Hba.out.2.1 Hba.out.2.2.1 ho3 hg3)
          have HG3 := hideS hg3
          obtain ⟨q3, c3, rfl⟩ := kown_shape ho3
          clear ho3 hg3
          have hS3 : w3.cell? ⟨B, 2, none⟩ = some (.slice qx k cx) ∧ w3.cell? ⟨B, 3, none⟩ = some (.slice qy k cy) ∧ w3.cell? ⟨w.heap.size, 2, none⟩ = some (.slice (some ⟨bd, od, none⟩) n cd) ∧ w3.cell? ⟨bd, od + k, none⟩ = some (.int .i64 D) := ⟨HT3.out.l.s2, HT3.out.l.s3, HT3.out.l.b.t2, HKd.out _ HT3.out.l.b.bl⟩
          refine hK3 _ _ ⟨fun _ => hS3, ?_⟩
          simp only [Act.put]
          refine anyL_take 14 (.pointer (some ⟨B, 2, none⟩)) rfl (by kernel_rfl) (by kernel_rfl) (by kernel_rfl) (by kernel_rfl) (by kernel_rfl) (fun _ _ _ h => h) (by rfl) hS3 (fun wx hS => by obtain ⟨x1, x2, x3, x4⟩ := hS; go_simp) ?_
          simp only [Act.put]
          have X3 : Hid (∀ j < 1, w3.cell? ⟨w1.heap.size, 0 + j, none⟩ = some (flV [x] j)) := fun j hj => (grown_cell HG3.out (by simp <;> omega) (fun g hg => by have := HNo.out g hg; omega)).trans (Xba.out j hj)
          refine anyL_one (i := 13) (by kernel_rfl) ?_
          refine wpOp_step rfl (fun K5 hK5 => ?_)
          refine step_append_fk rfl (.tmp 44) (.tmp 46) rfl (B + 1) (.slice qy k cy) k gs rfl HT3.out.y (w1.heap.size) 0 1 1 [x] rfl rfl X3.out (by omega) (by omega) HT3.out.l.sz ?_
          intro v5 w5 ho5 hg5
          obtain ⟨hl5, hw5⟩ := sgW_of (fs := fs) HLen.out.2.2 (by rw [HDe.out]; exact HT3.out) HLen.out.1 HLen.out.2.1 HXx.out ho5 hg5
          obtain ⟨q5, c5, rfl⟩ := kown_shape ho5
          have r2 := hl5.s2
          have r3 := hl5.s3
          have y2 := hl5.fz 2
          have y3 := hl5.fz 3
          have HW5 := hideS hw5
          refine hK5 _ _ ⟨fun _ => ⟨hl5.s2, hl5.s3, hl5.b.t2, HKd.out _ hl5.b.bl⟩, ?_⟩
          simp only [Act.put]
          clear ho5 hg5 hl5 hw5
          refine anyL_one (i := 15) (by kernel_rfl) ?_
          refine wpOp_step rfl (fun K6 hK6 => ?_)
          go_simp
          refine hK6 _ _ ⟨fun h => absurd h (by decide), ?_⟩
          refine anyL_one (i := 16) (by kernel_rfl) ?_
          refine wpOp_step rfl (fun K7 hK7 => ?_)
          go_simp
          refine hK7 _ _ ⟨fun h => absurd h (by decide), ?_⟩
          refine anyL_one (i := 17) (by kernel_rfl) ?_
          refine wpOp_step rfl (fun K8 hK8 => ?_)
          go_simp
          refine hK8 _ _ ⟨fun h => absurd h (by decide), ?_⟩
          refine anyL_done (by kernel_rfl) ?_
          go_wp2_with fail
          go_roundw
          case rel => exact ⟨k + 1, _, _, _, by omega, by simp, HW5⟩
          case measure => simp [intOf]; omega
    · obtain rfl : k = n := by omega
      obtain ⟨gx, c1, rfl, _, _, _, _⟩ := kown_src (xs := ds.take k) HW.out.x (by rw [List.length_take, HLn.out]; omega) (by omega)
      obtain ⟨gy, c2, rfl, _, _, _, _⟩ := kfown_src (xs := gs) HW.out.y HW.out.n (by omega)
      have HE : Hid (ds.take k = ds) := by show _ = _; exact List.take_of_length_le (by rw [HLn.out]; omega)
      have hge : ¬ (k : Int) < (k : Int) := by omega
      have HBx := hideS HW.out.l.b
      have s0 := HW.out.l.s0
      have s1 := HW.out.l.s1
      have s2 := HW.out.l.s2
      have s3 := HW.out.l.s3
      have d0 := HBx.out.d0
      have d1 := HBx.out.d1
      have d2 := HBx.out.d2
      have d3 := HBx.out.d3
      have z0 := HBx.out.fz 0
      have z1 := HBx.out.fz 1
      have z2 := HBx.out.fz 2
      have z3 := HBx.out.fz 3
      have HLo := hideS HW.out.l.lo
      go_wp2_with fail
      have hs : ∀ j, w.heap.size ≤ (⟨w.heap.size + 1, j, none⟩ : Addr).block := fun j => by show w.heap.size ≤ w.heap.size + 1; omega
      have hz : w.heap.size + 1 < B + 1 := by have := HLo.out; omega
      refine bodyPost_ret (v := .tuple #[.agg #[.int .i64 base, .int .i64 kind, .slice (some ⟨gx, 0, none⟩) k c1, .slice (some ⟨gy, 0, none⟩) k c2], .int .i64 0]) (by simp [results, Tryz.results19, go_sem, d0, d1, d2, d3]) rfl ?_
      have hx := HW.out.x
      rw [HE.out] at hx
      refine ⟨Or.inr ⟨gx, c1, gy, c2, gs, HW.out.n, HW.out.g, rfl, ?_, ?_⟩, (((HBx.out.bl.setCell (hs 0) _).setCell (hs 1) _).setCell (hs 2) _).setCell (hs 3) _⟩
      · exact kown_mono (kown_put (kown_put (kown_put (kown_put hx hz _) hz _) hz _) hz _) (by have := HLo.out; omega)
      · exact kown_mono (kown_put (kown_put (kown_put (kown_put HW.out.y hz _) hz _) hz _) hz _) (by have := HLo.out; omega)
end Go.Proofs.YtcmbfflemoccmaaGreat
namespace Go.Proofs.YtcmbfflemoccmaaGreat
open Go.RowKit

theorem pos_lt {a b : Nat} (ha : a < 9218868437227405312) (hb : b < 9218868437227405312) : ltB (a : Nat) (b : Nat) = decide (a < b) := by
  have na : nanB (a : Nat) = false := by unfold nanB szI; exact decide_eq_false (by omega)
  have nb : nanB (b : Nat) = false := by unfold nanB szI; exact decide_eq_false (by omega)
  have e : ∀ {x : Nat}, x < 9218868437227405312 → nanB (x : Nat) = false → rankI (x : Nat) = (x : Int) := fun {x} hx hn => by
    unfold rankI
    rw [hn, if_neg (by decide)]
    unfold sgB szI
    rw [decide_eq_false (by omega)]
    simp; omega
  rw [ltB_iff na nb, e ha na, e hb nb]
  exact decide_eq_decide.2 (by omega)
theorem sgR_fin {f g : Nat} (h : SgR f g) : 0 < g ∧ g < 9218868437227405312 := by
  obtain ⟨b, h0, h1, e, _⟩ := h
  rw [e]; exact dblS_fin h0 h1
theorem sgR_sgl {f g : Nat} (h : SgR f g) : 0 < sgl g ∧ sgl g < 2139095040 ∧ g = dblS (sgl g) := by
  obtain ⟨b, h0, h1, e, _⟩ := h
  have e2 : sgl g = b := by rw [e]; exact sgl_dbl h0 h1
  rw [e2]
  exact ⟨h0, h1, e⟩
theorem sgR_again {f g g' : Nat} (h : SgR f g) (h' : SgR g g') : g' = g := by
  obtain ⟨_, s1, s2⟩ := sgR_sgl h
  obtain ⟨b, _, _, e, hb⟩ := h'
  rw [e, hb s1]; exact s2.symm
theorem half_ok {base kind : Int} {ds : List Int} {fs gs : List Nat} (h : OkV base kind ds fs) (hn : gs.length = ds.length) (hg : ∀ j < ds.length, SgR (fs.getD j 0) (gs.getD j 0)) : OkV base kind ds gs := by
  refine ⟨h.b0, h.b1, h.k1, h.k4, h.lo, h.hi, hn, fun i hi => ?_⟩
  have hi' := h.node i hi
  obtain ⟨p0, p1⟩ := sgR_fin (hg i hi)
  have hf := facB_of p0 p1
  unfold facB at hf
  rw [Bool.and_eq_true] at hf
  unfold nodC at hi' ⊢
  rw [hf.1, hf.2]
  simp only [Bool.or_eq_false_iff] at hi'
  rw [hi'.1.1.1, hi'.1.1.2]; rfl
theorem fall_all {gs : List Nat} (h : ∀ i < gs.length, ltB (prvF gs i : Nat) (gs.getD i 0 : Nat) = false) : fallB gs = true := by
  unfold fallB
  rw [List.all_eq_true]
  intro i hi
  rw [h i (List.mem_range.1 hi)]; rfl
theorem half_fall {n : Nat} {fs gs : List Nat} (hn : fs.length = n) (hn2 : gs.length = n) (hp : ∀ i < n, 0 < fs.getD i 0 ∧ fs.getD i 0 < 9218868437227405312) (hg : ∀ j < n, SgR (fs.getD j 0) (gs.getD j 0)) (hF : fallB fs = true) : fallB gs = true := by
  have hf : ∀ i < n, ltB (prvF fs i : Nat) (fs.getD i 0 : Nat) = false := by
    have := fallR_of fs
    rw [hF] at this
    cases this with
    | yes h => rw [hn] at h; exact h
  have prev : ∀ i ≤ n, 0 < prvF fs i ∧ prvF fs i < 9218868437227405312
    | 0, _ => by show 0 < 4607182418800017408 ∧ 4607182418800017408 < 9218868437227405312; omega
    | i + 1, hi => hp i (by omega)
  have step : ∀ i < n, fs.getD i 0 ≤ prvF fs i := fun i hi => by
    have := hf i hi
    rw [pos_lt (prev i (by omega)).2 (hp i hi).2, decide_eq_false_iff_not] at this
    omega
  have one : ∀ i < n, fs.getD i 0 ≤ 4607182418800017408 := by
    intro i
    induction i with
    | zero => intro hi; exact step 0 hi
    | succ i ih =>
      intro hi
      have h1 := step (i + 1) hi
      have h2 := ih (by omega)
      have h3 : prvF fs (i + 1) = fs.getD i 0 := rfl
      omega
  have sg : ∀ i < n, gs.getD i 0 = dblS (sgl (fs.getD i 0)) := fun i hi => by
    obtain ⟨b, _, _, e, hb⟩ := hg i hi
    have h1 := sgl_mono (one i hi)
    rw [sgl_one] at h1
    rw [e, hb (by omega)]
  refine fall_all (fun i hi => ?_)
  rw [hn2] at hi
  have pg : prvF gs i < 9218868437227405312 ∧ gs.getD i 0 ≤ prvF gs i := by
    cases i with
    | zero =>
      refine ⟨by show 4607182418800017408 < 9218868437227405312; omega, ?_⟩
      show gs.getD 0 0 ≤ 4607182418800017408
      have h1 := dblS_mono (sgl_mono (one 0 hi))
      rw [sgl_one, dblS_one] at h1
      rw [sg 0 hi]; exact h1
    | succ i =>
      refine ⟨(sgR_fin (hg i (by omega))).2, ?_⟩
      show gs.getD (i + 1) 0 ≤ gs.getD i 0
      rw [sg (i + 1) hi, sg i (by omega)]
      exact dblS_mono (sgl_mono (step (i + 1) hi))
  rw [pos_lt pg.1 (sgR_fin (hg i hi)).2]
  exact decide_eq_false (by omega)
end Go.Proofs.YtcmbfflemoccmaaGreat
namespace Go.Proofs.YtcmbfflemoccmaaGreat
open Go.RowKit

set_option maxRecDepth 20000 in
set_option maxHeartbeats 800000 in
theorem curLast_bad (base kind E : Int) (vd vf : Value) (w : World) (hE : E ≠ 0) (HC : Hid (∀ wx, Below w.heap.size w wx → Calls Tryz.prog 10 #[.agg #[.int .i64 base, .int .i64 kind, vd, vf]] wx fun e w' => e = .returned (.int .i64 E) ∧ Below wx.heap.size wx w')) :
    Calls Tryz.prog 13 #[.agg #[.int .i64 base, .int .i64 kind, vd, vf]] w fun e w' => e = .returned (.tuple #[.int .i64 0, .int .i64 E]) ∧ Below w.heap.size w w' := by
  have HB := hideS (vboxA_at w base kind vd vf)
  have d1 : (E != 0) = true := bne_iff_ne.2 hE
  clear hE
  go_enter Tryz.func13, Tryz.ntmps13
  go_wp2_with (go_at_call 10; refine (HC.out _ HB.out.bl).mono ?_; rintro e w2 ⟨rfl, hb2⟩; have HB2 := hideS (HB.out.step hb2); clear hb2)
  go_ret2
  exact ⟨rfl, HB2.out.bl⟩
set_option maxRecDepth 20000 in
set_option maxHeartbeats 800000 in
theorem curLast_ok (base kind : Int) (pd : Option Addr) (bd od cd n : Nat) (ds : List Int) (vf : Value) (w : World) (hX : VSrc w pd bd od n (xV ds)) (hn : 1 ≤ n) (hn' : n ≤ 255) (HC : Hid (∀ wx, Below w.heap.size w wx → Calls Tryz.prog 10 #[.agg #[.int .i64 base, .int .i64 kind, .slice pd n cd, vf]] wx fun e w' => e = .returned (.int .i64 0) ∧ Below wx.heap.size wx w')) :
    Calls Tryz.prog 13 #[.agg #[.int .i64 base, .int .i64 kind, .slice pd n cd, vf]] w fun e w' => e = .returned (.tuple #[.int .i64 (ds.getD (n - 1) 0), .int .i64 0]) ∧ Below w.heap.size w w' := by
  have HB := hideS (vboxA_at w base kind (.slice pd n cd) vf)
  have HX := hideS hX
  obtain rfl := hX.at_ (by omega)
  obtain ⟨j, rfl⟩ : ∃ j, n = j + 1 := ⟨n - 1, by omega⟩
  rw [Nat.add_sub_cancel]
  have hj1 : ((j + 1 : Nat) : Int) - 1 = (j : Int) := by omega
  have hj2 : j < j + 1 := by omega
  clear hX
  go_enter Tryz.func13, Tryz.ntmps13
  go_wp2_with (go_at_call 10; refine (HC.out _ HB.out.bl).mono ?_; rintro e w2 ⟨rfl, hb2⟩; have HB2 := hideS (HB.out.step hb2); have q2 := HB2.out.t2; have hc : w2.cell? ⟨bd, od + j, none⟩ = some (.int .i64 (ds.getD j 0)) := (HX.out.below HB2.out.bl).cell j (by omega); clear hb2)
  go_ret2
  exact ⟨rfl, HB2.out.bl⟩
theorem curLast_any (base kind : Int) (pd pf : Option Addr) (bd od cd b2 o2 cf : Nat) (ds : List Int) (fs : List Nat) (w : World) (hS : TFl w pd pf bd od b2 o2 ds fs) {E : Int} (hE : CurR base kind ds fs E) :
    Calls Tryz.prog 13 #[.agg #[.int .i64 base, .int .i64 kind, .slice pd ds.length cd, .slice pf fs.length cf]] w fun e w' => e = .returned (.tuple #[.int .i64 (lastC ds E), .int .i64 E]) ∧ Below w.heap.size w w' := by
  have HC : Hid (∀ wx, Below w.heap.size w wx → Calls Tryz.prog 10 #[.agg #[.int .i64 base, .int .i64 kind, .slice pd ds.length cd, .slice pf fs.length cf]] wx fun e w' => e = .returned (.int .i64 E) ∧ Below wx.heap.size wx w') := fun wx hb => curCheck_any base kind pd pf bd od cd b2 o2 cf ds fs wx (hS.below hb) hE
  unfold lastC
  by_cases h : E = 0
  · subst h
    have hk := curR_ok hE
    rw [if_pos rfl]
    exact curLast_ok base kind pd bd od cd ds.length ds _ w hS.x hk.lo hk.hi HC
  · rw [if_neg h]
    exact curLast_bad base kind E _ _ w h HC
set_option maxRecDepth 20000 in
set_option maxHeartbeats 800000 in
theorem curFalls_bad (base kind E : Int) (vd vf : Value) (w : World) (hE : E ≠ 0) (HC : Hid (∀ wx, Below w.heap.size w wx → Calls Tryz.prog 10 #[.agg #[.int .i64 base, .int .i64 kind, vd, vf]] wx fun e w' => e = .returned (.int .i64 E) ∧ Below wx.heap.size wx w')) :
    Calls Tryz.prog 18 #[.agg #[.int .i64 base, .int .i64 kind, vd, vf]] w fun e w' => e = .returned (.tuple #[.bool false, .int .i64 E]) ∧ Below w.heap.size w w' := by
  have HB := hideS (vboxA_at w base kind vd vf)
  have d1 : (E != 0) = true := bne_iff_ne.2 hE
  clear hE
  go_enter Tryz.func18, Tryz.ntmps18
  go_wp2_with (go_at_call 10; refine (HC.out _ HB.out.bl).mono ?_; rintro e w2 ⟨rfl, hb2⟩; have HB2 := hideS (HB.out.step hb2); clear hb2)
  go_ret2
  exact ⟨rfl, HB2.out.bl⟩
set_option maxRecDepth 20000 in
set_option maxHeartbeats 1600000 in
theorem curFalls_ok (base kind : Int) (vd : Value) (pf : Option Addr) (b2 o2 cf n : Nat) (fs : List Nat) (B : Bool) (w : World) (hY : VSrc w pf b2 o2 n (flV fs)) (hf : ∀ i < n, fs.getD i 0 < 18446744073709551616) (hl : fs.length = n) (hn : 1 ≤ n) (hn' : n ≤ 255) (hB : FallR fs B) (HC : Hid (∀ wx, Below w.heap.size w wx → Calls Tryz.prog 10 #[.agg #[.int .i64 base, .int .i64 kind, vd, .slice pf n cf]] wx fun e w' => e = .returned (.int .i64 0) ∧ Below wx.heap.size wx w')) :
    Calls Tryz.prog 18 #[.agg #[.int .i64 base, .int .i64 kind, vd, .slice pf n cf]] w fun e w' => e = .returned (.tuple #[.bool B, .int .i64 0]) ∧ Below w.heap.size w w' := by
  have HB := hideS (vboxA_at w base kind vd (.slice pf n cf))
  have HY := hideS hY
  have HF := hideS hf
  have HP : Hid (∀ i ≤ n, prvF fs i < 18446744073709551616) := fun i hi => by
    cases i with
    | zero => exact (by decide : (4607182418800017408 : Nat) < 18446744073709551616)
    | succ i => exact hf i (by omega)
  obtain ⟨K, hK, HA, HD⟩ : ∃ K, K ≤ n ∧ Hid (∀ i < K, ltB (prvF fs i : Nat) (fs.getD i 0 : Nat) = false) ∧ Hid ((K = n ∧ B = true) ∨ (K < n ∧ B = false ∧ ltB (prvF fs K : Nat) (fs.getD K 0 : Nat) = true)) := by
    cases hB with
    | yes h => exact ⟨n, Nat.le_refl _, fun i hi => h i (by omega), .inl ⟨rfl, rfl⟩⟩
    | no K hK bad fine => exact ⟨K, by omega, fine, .inr ⟨by omega, rfl, bad⟩⟩
  obtain rfl := hY.at_ (by omega)
  clear hY hf hB hl
  go_enter Tryz.func18, Tryz.ntmps18
  go_wp2_with (go_at_call 10; refine (HC.out _ HB.out.bl).mono ?_; rintro e w2 ⟨rfl, hb2⟩; have HB2 := hideS (HB.out.step hb2); have q3 := HB2.out.t3; clear hb2)
  clear HB HC
  go_loop [5, 7, 16] (fun l _ i => ∃ k : Nat, k ≤ K ∧ l = .float .f64 (prvF fs k) ∧ i = .int .i64 k) (fun _ _ i => n - (intOf i).toNat)
  case atStart => exact ⟨0, Nat.zero_le _, rfl, rfl⟩
  case round =>
    obtain ⟨k, hk, rfl, rfl⟩ := hrel
    by_cases hlt : k < n
    · have hcy : w2.cell? ⟨b2, o2 + k, none⟩ = some (.float .f64 (fs.getD k 0)) := (HY.out.below HB2.out.bl).cell k hlt
      have hg := ogt (HF.out k hlt) (HP.out k (by omega))
      have HN : Hid (prvF fs (k + 1) = fs.getD k 0) := rfl
      by_cases hkK : k < K
      · rw [HA.out k hkK] at hg
        generalize prvF fs k = q at *
        generalize fs.getD k 0 = y at *
        go_wp2_with fail
        go_round
        case rel => exact ⟨k + 1, by omega, by rw [HN.out], by simp⟩
        case measure => simp [intOf]; omega
      · obtain rfl : k = K := by omega
        obtain ⟨c, _⟩ | ⟨_, rfl, hb⟩ := HD.out
        · omega
        rw [hb] at hg
        clear hb HD
        generalize prvF fs k = q at *
        generalize fs.getD k 0 = y at *
        go_wp2_with fail
        go_ret2
        exact ⟨rfl, HB2.out.bl⟩
    · obtain rfl : k = K := by omega
      obtain ⟨_, rfl⟩ | ⟨c, _, _⟩ := HD.out
      · have hge : ¬ (k : Int) < n := by omega
        go_wp2_with fail
        go_ret2
        exact ⟨rfl, HB2.out.bl⟩
      · omega
theorem curFalls_any (base kind : Int) (pd pf : Option Addr) (bd od cd b2 o2 cf : Nat) (ds : List Int) (fs : List Nat) (w : World) (hS : TFl w pd pf bd od b2 o2 ds fs) {E : Int} (hE : CurR base kind ds fs E) :
    Calls Tryz.prog 18 #[.agg #[.int .i64 base, .int .i64 kind, .slice pd ds.length cd, .slice pf fs.length cf]] w fun e w' => e = .returned (.tuple #[.bool (decide (E = 0) && fallB fs), .int .i64 E]) ∧ Below w.heap.size w w' := by
  have HC : Hid (∀ wx, Below w.heap.size w wx → Calls Tryz.prog 10 #[.agg #[.int .i64 base, .int .i64 kind, .slice pd ds.length cd, .slice pf fs.length cf]] wx fun e w' => e = .returned (.int .i64 E) ∧ Below wx.heap.size wx w') := fun wx hb => curCheck_any base kind pd pf bd od cd b2 o2 cf ds fs wx (hS.below hb) hE
  by_cases h : E = 0
  · subst h
    have hk := curR_ok hE
    rw [decide_eq_true rfl, Bool.true_and]
    exact curFalls_ok base kind _ pf b2 o2 cf fs.length fs _ w hS.y hS.f rfl (by rw [hk.len]; exact hk.lo) (by rw [hk.len]; exact hk.hi) (fallR_of fs) HC
  · rw [decide_eq_false h, Bool.false_and]
    exact curFalls_bad base kind E _ _ w h HC
end Go.Proofs.YtcmbfflemoccmaaGreat
namespace Go.Proofs.YtcmbfflemoccmaaGreat
open Go.RowKit

theorem mem_take_at {xs : List Int} {m : Nat} {y : Int} (h : y ∈ xs.take m) : ∃ j, j < m ∧ j < xs.length ∧ xs.getD j 0 = y := by
  obtain ⟨j, hj, e⟩ := List.mem_iff_getElem.1 h
  have hj' : j < m ∧ j < xs.length := by rw [List.length_take] at hj; omega
  refine ⟨j, hj'.1, hj'.2, ?_⟩
  rw [← e, List.getElem_take]; simp [List.getD, hj'.2]
theorem mem_drop_at {xs : List Int} {m : Nat} {y : Int} (h : y ∈ xs.drop m) : ∃ j, m ≤ j ∧ j < xs.length ∧ xs.getD j 0 = y := by
  obtain ⟨j, hj, e⟩ := List.mem_iff_getElem.1 h
  have hj' : m + j < xs.length := by rw [List.length_drop] at hj; omega
  refine ⟨m + j, by omega, hj', ?_⟩
  rw [← e, List.getElem_drop]; simp [List.getD, hj']
theorem count_at {xs : List Int} {x : Int} {m : Nat} (hm : m ≤ xs.length) (lo : ∀ j, j < m → xs.getD j 0 < x) (hi : ∀ j, m ≤ j → j < xs.length → ¬ xs.getD j 0 < x) : xs.countP (fun y => decide (y < x)) = m := by
  have e : xs.countP (fun y => decide (y < x)) = (xs.take m).countP (fun y => decide (y < x)) + (xs.drop m).countP (fun y => decide (y < x)) := by
    rw [← List.countP_append, List.take_append_drop]
  rw [e, List.countP_eq_length.2 (fun y hy => ?_), List.countP_eq_zero.2 (fun y hy => ?_), List.length_take]
  · omega
  · obtain ⟨j, h1, h2, rfl⟩ := mem_drop_at hy
    simpa using hi j h1 h2
  · obtain ⟨j, h1, h2, rfl⟩ := mem_take_at hy
    simpa using lo j h1
theorem ok_sorted {kind : Int} {xs : List Int} {ys : List Nat} (h : OkT kind xs ys) : xs.Pairwise (· ≤ ·) := by
  rw [List.pairwise_iff_getElem]
  intro i j hi hj hij
  have := h.rise hij hj
  simp [List.getD, hi, hj] at this
  omega
theorem search_at {kind x : Int} {xs : List Int} {ys : List Nat} {k : Nat} (h : OkT kind xs ys) (hk : FindR xs x k) : (xs.contains x = true ∧ xs.countP (fun y => decide (y < x)) = k) ∨ (xs.contains x = false ∧ xs.countP (fun y => decide (y < x)) = k + 1) := by
  have lt := hk.lt
  have lo : ∀ j, j < k → xs.getD j 0 < x := fun j hj => Int.lt_of_lt_of_le (h.rise hj lt) hk.le
  have hi : ∀ j, k + 1 ≤ j → j < xs.length → x < xs.getD j 0 := fun j h1 h2 => by
    have g := hk.gt (by omega)
    by_cases e : j = k + 1
    · rw [e]; exact g
    · exact Int.lt_trans g (h.rise (by omega) h2)
  by_cases e : xs.getD k 0 = x
  · refine .inl ⟨?_, count_at (by omega) lo (fun j h1 h2 => ?_)⟩
    · rw [List.contains_iff_mem]
      have : xs.getD k 0 = xs[k] := by simp [List.getD, lt]
      rw [← e, this]; exact List.getElem_mem lt
    · by_cases ej : j = k
      · rw [ej]; omega
      · have := hi j (by omega) h2; omega
  · refine .inr ⟨?_, count_at (by omega) (fun j hj => ?_) (fun j h1 h2 => ?_)⟩
    · rw [Bool.eq_false_iff]
      intro c
      rw [List.contains_iff_mem] at c
      obtain ⟨j, hj, ej⟩ := List.mem_iff_getElem.1 c
      have ej' : xs.getD j 0 = x := by rw [← ej]; simp [List.getD, hj]
      by_cases h1 : j < k
      · have := lo j h1; omega
      · by_cases h2 : j = k
        · rw [h2] at ej'; exact e ej'
        · have := hi j (by omega) hj; omega
    · by_cases h1 : j < k
      · exact lo j h1
      · have : j = k := by omega
        rw [this]; have := hk.le; omega
    · have := hi j h1 h2; omega
theorem search_any (kind x : Int) (bx ox cx : Nat) (xs : List Int) (ys : List Nat) (w : World) (h : OkT kind xs ys) (hX : VSrc w (some ⟨bx, ox, none⟩) bx ox xs.length (xV xs)) :
    Calls Tryz.prog 86 #[.slice (some ⟨bx, ox, none⟩) xs.length cx, .int .i64 x] w fun e w' => e = .returned (.tuple #[.int .i64 ((xs.countP fun y => decide (y < x) : Nat) : Int), .bool (xs.contains x)]) ∧ ∃ q, w' = w.drewN q := by
  have hl := h.hi
  have hs : (xs.take xs.length).Pairwise (· ≤ ·) := by rw [List.take_length]; exact ok_sorted h
  have := Any.slices_BinarySearch_int Tryz.bsL bx ox xs.length cx xs x w (Nat.le_refl _) (by omega) (fun j hj => hX.cell j hj) hs
  rw [List.take_length] at this
  exact this

set_option maxHeartbeats 1600000 in
theorem intNode_out (x : Int) (px : Option Addr) (bx ox cx n : Nat) (xs : List Int) (w : World) (hX : VSrc w px bx ox n (xV xs)) (hn : 1 ≤ n) (hn' : n ≤ 256) (hx : x < xs.getD 0 0 ∨ xs.getD (n - 1) 0 < x) :
    Calls Tryz.prog 51 #[.slice px n cx, .int .i64 x] w fun e w' => e = .returned (.tuple #[.int .i64 0, .int .i64 51]) ∧ w' = w := by
  obtain rfl := hX.at_ (by omega)
  obtain ⟨m, hm⟩ : ∃ m, n = m + 1 := ⟨n - 1, by omega⟩
  have hm1 : n - 1 = m := by omega
  rw [hm1] at hx
  have hnm : (n : Int) - 1 = (m : Int) := by omega
  have hmn : m < n := by omega
  have h0n : 0 < n := by omega
  have e0 : w.cell? ⟨bx, ox, none⟩ = some (.int .i64 (xs.getD 0 0)) := hX.cell 0 (by omega)
  have e1 : w.cell? ⟨bx, ox + m, none⟩ = some (.int .i64 (xs.getD m 0)) := hX.cell m hmn
  clear hX hm hm1 hn
  generalize xs.getD 0 0 = a at *
  generalize xs.getD m 0 = b at *
  rcases (show x < a ∨ (a ≤ x ∧ b < x) by omega) with h | ⟨h, h'⟩
  · have d1 : decide (x < a) = true := decide_eq_true h
    clear hx
    go_enter Tryz.func51, Tryz.ntmps51
    go_wp2_with fail
    go_ret2
    exact ⟨rfl, rfl⟩
  · have d1 : decide (x < a) = false := decide_eq_false (by omega)
    have d2 : decide (b < x) = true := decide_eq_true h'
    clear hx
    go_enter Tryz.func51, Tryz.ntmps51
    go_wp2_with fail
    go_ret2
    exact ⟨rfl, rfl⟩

set_option maxHeartbeats 1600000 in
theorem intNode_at (kind x : Int) (px : Option Addr) (bx ox cx n k : Nat) (xs : List Int) (ys : List Nat) (w : World) (h : OkT kind xs ys) (hl : xs.length = n) (hX : VSrc w px bx ox n (xV xs)) (h0 : xs.getD 0 0 ≤ x) (h9 : x ≤ xs.getD (n - 1) 0) (hk : FindR xs x k) :
    Calls Tryz.prog 51 #[.slice px n cx, .int .i64 x] w fun e w' => e = .returned (.tuple #[.int .i64 (k : Int), .int .i64 0]) ∧ Below w.heap.size w w' := by
  have hn := h.lo
  have hn' := h.hi
  rw [hl] at hn hn'
  obtain rfl := hX.at_ (by omega)
  have HS : Hid (∀ wx, wx = w → Calls Tryz.prog 86 #[.slice (some ⟨bx, ox, none⟩) n cx, .int .i64 x] wx fun e w' => e = .returned (.tuple #[.int .i64 ((xs.countP fun y => decide (y < x) : Nat) : Int), .bool (xs.contains x)]) ∧ ∃ q, w' = wx.drewN q) := fun wx hw => by
    subst hw
    rw [← hl] at hX ⊢
    exact search_any kind x bx ox cx xs ys _ h hX
  have HT := hideS (search_at h hk)
  have hkl := hk.lt
  obtain ⟨m, hm⟩ : ∃ m, n = m + 1 := ⟨n - 1, by omega⟩
  have hm1 : n - 1 = m := by omega
  rw [hm1] at h9
  have hnm : (n : Int) - 1 = (m : Int) := by omega
  have hmn : m < n := by omega
  have h0n : 0 < n := by omega
  have e0 : w.cell? ⟨bx, ox, none⟩ = some (.int .i64 (xs.getD 0 0)) := hX.cell 0 (by omega)
  have e1 : w.cell? ⟨bx, ox + m, none⟩ = some (.int .i64 (xs.getD m 0)) := hX.cell m hmn
  have d1 : decide (x < xs.getD 0 0) = false := decide_eq_false (by omega)
  have d2 : decide (xs.getD m 0 < x) = false := decide_eq_false (by omega)
  rw [hl] at hkl
  clear hX hm hm1 hn h0 h9 h hk hl
  generalize xs.getD 0 0 = a at *
  generalize xs.getD m 0 = b at *
  generalize (xs.countP fun y => decide (y < x)) = cnt at *
  generalize xs.contains x = fnd at *
  rcases HT.out with ⟨rfl, rfl⟩ | ⟨rfl, rfl⟩
  · go_enter Tryz.func51, Tryz.ntmps51
    go_wp2_with fail
    refine (HS.out _ rfl).mono ?_
    rintro e w1 ⟨rfl, q, rfl⟩
    go_wp2_with fail
    go_ret2
    exact ⟨rfl, ⟨rfl, rfl, rfl, Nat.le_refl _, fun _ _ => rfl⟩⟩
  · have f1 : ((k + 1 : Nat) : Int) - 1 = (k : Int) := by omega
    generalize ((k + 1 : Nat) : Int) = k1 at *
    go_enter Tryz.func51, Tryz.ntmps51
    go_wp2_with fail
    refine (HS.out _ rfl).mono ?_
    rintro e w1 ⟨rfl, q, rfl⟩
    go_wp2_with fail
    go_ret2
    exact ⟨rfl, ⟨rfl, rfl, rfl, Nat.le_refl _, fun _ _ => rfl⟩⟩

theorem intNode_any (kind x k E : Int) (px py : Option Addr) (bx ox cx b2 oy : Nat) (xs : List Int) (ys : List Nat) (w : World) (ok : OkT kind xs ys) (h : FindO kind xs ys x k E) (hs : TFl w px py bx ox b2 oy xs ys) :
    Calls Tryz.prog 51 #[.slice px xs.length cx, .int .i64 x] w fun e w' => e = .returned (.tuple #[.int .i64 k, .int .i64 E]) ∧ Below w.heap.size w w' := by
  cases h with
  | bad E h hE =>
    exfalso
    cases h with
    | ok h => exact hE rfl
    | kind h => have := ok.k1; have := ok.k4; omega
    | len h1 h4 h => have := ok.lo; have := ok.hi; have := ok.len; omega
    | node h1 h4 lo hi len K hK bad fine => rw [ok.node K hK] at bad; cases bad
  | out h hx => exact (intNode_out x px bx ox cx _ xs w hs.x h.lo h.hi hx).mono fun e w' ⟨a, b⟩ => ⟨a, b ▸ Below.refl _ _⟩
  | at_ h hlo hhi k hk hj => exact intNode_at kind x px bx ox cx _ k xs ys w h rfl hs.x hlo hhi hk
end Go.Proofs.YtcmbfflemoccmaaGreat
