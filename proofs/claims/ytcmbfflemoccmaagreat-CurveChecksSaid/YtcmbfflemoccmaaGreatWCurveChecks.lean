/- The walk of CurveChecks. -/
import Derived.Test.YtcmbfflemoccmaaGreatKSb
import Derived.Test.YtcmbfflemoccmaaGreatHau
namespace Go.Proofs.YtcmbfflemoccmaaGreat
open Go.RowKit

set_option maxRecDepth 20000 in
set_option maxHeartbeats 6400000 in
theorem curveChecks_many (base ck x : Int) (px py : Option Addr) (lx cx ly cy : Nat) (w : World) (h : 300 < lx ∨ 300 < ly) (HW : Hid (∀ wx, Calls Tryz.prog 9 #[] wx fun e w' => e = .returned (.bool true) ∧ Below wx.heap.size wx w')) :
    Calls Tryz.prog 3 #[.agg #[.int .i64 base, .int .i64 ck, .slice px lx cx, .slice py ly cy], .int .i64 x] w fun e w' => e = .returned (.bool true) ∧ Below w.heap.size w w' := by
  have HB0 := hideS (vboxA_at w base ck (.slice px lx cx) (.slice py ly cy))
  rcases (show 300 < lx ∨ (lx ≤ 300 ∧ 300 < ly) by omega) with h1 | ⟨h1, h2⟩
  · have d1 : decide ((300 : Int) < lx) = true := decide_eq_true (by omega)
    clear h h1
    go_enter Tryz.func3, Tryz.ntmps3
    go_wp2_with (go_at_call 9; refine (HW.out _).mono ?_; rintro e w9 ⟨rfl, hb9⟩)
    go_ret
    exact ⟨rfl, (HB0.out.step hb9).bl⟩
  · have d1 : decide ((300 : Int) < lx) = false := decide_eq_false (by omega)
    have d2 : decide ((300 : Int) < ly) = true := decide_eq_true (by omega)
    clear h h1 h2
    go_enter Tryz.func3, Tryz.ntmps3
    go_wp2_with (go_at_call 9; refine (HW.out _).mono ?_; rintro e w9 ⟨rfl, hb9⟩)
    go_ret
    exact ⟨rfl, (HB0.out.step hb9).bl⟩
set_option maxRecDepth 20000 in
set_option maxHeartbeats 6400000 in
theorem curveChecks_go (base ck x E L : Int) (px py : Option Addr) (lx cx ly cy : Nat) (w : World) (h1 : lx ≤ 300) (h2 : ly ≤ 300)
    (HC : Hid (∀ wx, Below w.heap.size w wx → Calls Tryz.prog 10 #[.agg #[.int .i64 base, .int .i64 ck, .slice px lx cx, .slice py ly cy]] wx fun e w' => e = .returned (.int .i64 E) ∧ Below wx.heap.size wx w'))
    (HD : Hid (∀ wx, Below w.heap.size w wx → Calls Tryz.prog 12 #[.agg #[.int .i64 base, .int .i64 ck, .slice px lx cx, .slice py ly cy]] wx fun e w' => ∃ p c, e = .returned (.agg #[.int .i64 base, .int .i64 ck, .slice px lx cx, .slice p ly c]) ∧ Below wx.heap.size wx w' ∧
      Hid (∀ wy, Below w'.heap.size w' wy → (Calls Tryz.prog 11 #[.agg #[.int .i64 base, .int .i64 ck, .slice px lx cx, .slice p ly c]] wy fun e w'' => e = .returned (.int .i64 E) ∧ Below wy.heap.size wy w'') ∧ (Calls Tryz.prog 14 #[.agg #[.int .i64 base, .int .i64 ck, .slice px lx cx, .slice p ly c]] wy fun e w'' => e = .returned (.tuple #[.int .i64 L, .int .i64 E]) ∧ Below wy.heap.size wy w''))))
    (HL : Hid (∀ wx, Below w.heap.size w wx → Calls Tryz.prog 13 #[.agg #[.int .i64 base, .int .i64 ck, .slice px lx cx, .slice py ly cy]] wx fun e w' => e = .returned (.tuple #[.int .i64 L, .int .i64 E]) ∧ Below wx.heap.size wx w'))
    (HFa : Hid (E ≠ 0 → ∀ wx, Below w.heap.size w wx → Calls Tryz.prog 15 #[.agg #[.int .i64 base, .int .i64 ck, .slice px lx cx, .slice py ly cy], .int .i64 x] wx fun e w' => e = .returned (.tuple #[.float .f64 0, .int .i64 E]) ∧ Below wx.heap.size wx w'))
    (HFo : Hid (E ≠ 0 → ∀ wx, Below w.heap.size w wx → Calls Tryz.prog 16 #[.agg #[.int .i64 base, .int .i64 ck, .slice px lx cx, .slice py ly cy], .int .i64 1, .agg #[.int .i64 0, .slice none 0 0], .int .i64 x, .int .i64 x] wx fun e w' => e = .returned (.tuple #[.float .f64 0, .int .i64 E]) ∧ Below wx.heap.size wx w'))
    (HZe : Hid (E ≠ 0 → ∀ wx, Below w.heap.size w wx → Calls Tryz.prog 17 #[.agg #[.int .i64 base, .int .i64 ck, .slice px lx cx, .slice py ly cy], .int .i64 1, .int .i64 1, .agg #[.int .i64 0, .slice none 0 0], .int .i64 x] wx fun e w' => e = .returned (.tuple #[.float .f64 0, .int .i64 E]) ∧ Below wx.heap.size wx w'))
    (HFl : Hid (E ≠ 0 → ∀ wx, Below w.heap.size w wx → Calls Tryz.prog 18 #[.agg #[.int .i64 base, .int .i64 ck, .slice px lx cx, .slice py ly cy]] wx fun e w' => e = .returned (.tuple #[.bool false, .int .i64 E]) ∧ Below wx.heap.size wx w'))
    (HSi : Hid (E ≠ 0 → ∀ wx, Below w.heap.size w wx → Calls Tryz.prog 19 #[.agg #[.int .i64 base, .int .i64 ck, .slice px lx cx, .slice py ly cy]] wx fun e w' => e = .returned (.tuple #[.agg #[.int .i64 0, .int .i64 0, .slice none 0 0, .slice none 0 0], .int .i64 E]) ∧ Below wx.heap.size wx w'))
    (HI : Hid (∀ wx, Calls Tryz.prog 20 #[.float .f64 0, .int .u64 0] wx fun e w' => e = .returned (.bool true) ∧ w' = wx))
    (HSm : Hid (∀ wx, Calls Tryz.prog 21 #[.agg #[.int .i64 0, .int .i64 0, .slice none 0 0, .slice none 0 0], .agg #[.int .i64 0, .int .i64 0, .slice none 0 0, .slice none 0 0]] wx fun e w' => e = .returned (.bool true) ∧ Below wx.heap.size wx w'))
    (HW : Hid (∀ wx, Calls Tryz.prog 9 #[] wx fun e w' => e = .returned (.bool true) ∧ Below wx.heap.size wx w')) :
    Calls Tryz.prog 3 #[.agg #[.int .i64 base, .int .i64 ck, .slice px lx cx, .slice py ly cy], .int .i64 x] w fun e w' => e = .returned (.bool true) ∧ Below w.heap.size w w' := by
  have HB0 := hideS (vboxA_at w base ck (.slice px lx cx) (.slice py ly cy))
  have d1 : decide ((300 : Int) < lx) = false := decide_eq_false (by omega)
  have d2 : decide ((300 : Int) < ly) = false := decide_eq_false (by omega)
  have d3 : (E != E) = false := by simp
  have d4 : (L != L) = false := by simp
  clear h1 h2
  go_enter Tryz.func3, Tryz.ntmps3
  go_wp2_with fail
  refine (HC.out _ HB0.out.bl).mono ?_
  rintro e w1 ⟨rfl, hb1⟩
  have HB1 := hideS (HB0.out.step hb1)
  clear hb1
  have t0 := HB1.out.t0
  have t1 := HB1.out.t1
  have t2 := HB1.out.t2
  have t3 := HB1.out.t3
  go_wp2_with fail
  refine (HD.out _ HB1.out.bl).mono ?_
  rintro e w2 ⟨p2, c2, rfl, hb2, HQ2⟩
  have HB2 := hideS (HB1.out.step hb2)
  clear hb2 t0 t1 t2 t3
  go_wp2_with fail
  refine (HQ2.out _ (Below.refl _ _)).1.mono ?_
  rintro e w3 ⟨rfl, hb3⟩
  have HB3 := hideS (HB2.out.step hb3)
  clear hb3 HQ2
  have t0 := HB3.out.t0
  have t1 := HB3.out.t1
  have t2 := HB3.out.t2
  have t3 := HB3.out.t3
  go_wp2_with fail
  refine (HL.out _ HB3.out.bl).mono ?_
  rintro e w4 ⟨rfl, hb4⟩
  have HB4 := hideS (HB3.out.step hb4)
  clear hb4 t0 t1 t2 t3
  have t0 := HB4.out.t0
  have t1 := HB4.out.t1
  have t2 := HB4.out.t2
  have t3 := HB4.out.t3
  go_wp2_with fail
  refine (HD.out _ HB4.out.bl).mono ?_
  rintro e w5 ⟨p5, c5, rfl, hb5, HQ5⟩
  have HB5 := hideS (HB4.out.step hb5)
  clear hb5 t0 t1 t2 t3
  go_wp2_with fail
  refine (HQ5.out _ (Below.refl _ _)).2.mono ?_
  rintro e w6 ⟨rfl, hb6⟩
  have HB6 := hideS (HB5.out.step hb6)
  clear hb6 HQ5
  have t0 := HB6.out.t0
  have t1 := HB6.out.t1
  have t2 := HB6.out.t2
  have t3 := HB6.out.t3
  by_cases hE : E = 0
  · have d5 : (E == 0) = true := beq_iff_eq.2 hE
    clear hE HFa HFo HZe HFl HSi
    go_wp2_with fail
    refine (HW.out _).mono ?_
    rintro e w99 ⟨rfl, hb99⟩
    go_wp2_with fail
    go_ret
    exact ⟨rfl, (HB6.out.step hb99).bl⟩
  · have d5 : (E == 0) = false := beq_eq_false_iff_ne.2 hE
    have d6 : (E == E) = true := by simp
    have HFa' := hideS (HFa.out hE)
    have HFo' := hideS (HFo.out hE)
    have HZe' := hideS (HZe.out hE)
    have HFl' := hideS (HFl.out hE)
    have HSi' := hideS (HSi.out hE)
    clear hE HFa HFo HZe HFl HSi
    go_wp2_with fail
    refine (HFa'.out _ HB6.out.bl).mono ?_
    rintro e w7 ⟨rfl, hb7⟩
    have HB7 := hideS (HB6.out.step hb7)
    clear hb7 t0 t1 t2 t3
    have t0 := HB7.out.t0
    have t1 := HB7.out.t1
    have t2 := HB7.out.t2
    have t3 := HB7.out.t3
    go_wp2_with fail
    refine (HFo'.out _ HB7.out.bl).mono ?_
    rintro e w8 ⟨rfl, hb8⟩
    have HB8 := hideS (HB7.out.step hb8)
    clear hb8 t0 t1 t2 t3
    have t0 := HB8.out.t0
    have t1 := HB8.out.t1
    have t2 := HB8.out.t2
    have t3 := HB8.out.t3
    go_wp2_with fail
    refine (HZe'.out _ HB8.out.bl).mono ?_
    rintro e w9 ⟨rfl, hb9⟩
    have HB9 := hideS (HB8.out.step hb9)
    clear hb9 t0 t1 t2 t3
    have t0 := HB9.out.t0
    have t1 := HB9.out.t1
    have t2 := HB9.out.t2
    have t3 := HB9.out.t3
    go_wp2_with fail
    refine (HFl'.out _ HB9.out.bl).mono ?_
    rintro e w10 ⟨rfl, hb10⟩
    have HB10 := hideS (HB9.out.step hb10)
    clear hb10 t0 t1 t2 t3
    have t0 := HB10.out.t0
    have t1 := HB10.out.t1
    have t2 := HB10.out.t2
    have t3 := HB10.out.t3
    go_wp2_with fail
    refine (HSi'.out _ HB10.out.bl).mono ?_
    rintro e w11 ⟨rfl, hb11⟩
    have HB11 := hideS (HB10.out.step hb11)
    have HV12 := hideS (vboxA_at w11 0 0 (.slice none 0 0) (.slice none 0 0))
    have HB12 := hideS (HB11.out.step HV12.out.bl)
    clear hb11 t0 t1 t2 t3
    have r0 := HV12.out.t0
    have r1 := HV12.out.t1
    have r2 := HV12.out.t2
    have r3 := HV12.out.t3
    go_wp2_with fail
    refine (HI.out _).mono ?_
    rintro e w' ⟨rfl, rfl⟩
    go_wp2_with fail
    refine (HI.out _).mono ?_
    rintro e w' ⟨rfl, rfl⟩
    go_wp2_with fail
    refine (HI.out _).mono ?_
    rintro e w' ⟨rfl, rfl⟩
    go_wp2_with fail
    refine (HSm.out _).mono ?_
    rintro e w13 ⟨rfl, hb13⟩
    have HB13 := hideS (HB12.out.step hb13)
    clear hb13 r0 r1 r2 r3
    go_wp2_with fail
    refine (HW.out _).mono ?_
    rintro e w99 ⟨rfl, hb99⟩
    go_wp2_with fail
    go_ret
    exact ⟨rfl, (HB13.out.step hb99).bl⟩
theorem curveChecks_walk (base kind x : Int) (px py : Option Addr) (bx ox cx b2 oy cy : Nat) (xs : List Int) (ys : List Nat) (w : World) (hs : TFl w px py bx ox b2 oy xs ys) (_hxI : ∀ i < xs.length, TI64 (xs.getD i 0)) (hx : xs.length ≤ 17592186043904) (hy : ys.length ≤ 17592186043904) (_hlx : xs.length ≤ cx) (_hly : ys.length ≤ cy) (_hxx : TI64 x) :
    Calls Tryz.prog 3 #[.agg #[.int .i64 base, .int .i64 kind, .slice px xs.length cx, .slice py ys.length cy], .int .i64 x] w fun e w' => e = .returned (.bool true) ∧ Below w.heap.size w w' := by
  by_cases h : 300 < xs.length ∨ 300 < ys.length
  · exact curveChecks_many base kind x px py _ cx _ cy w h (fun wx => awake11 wx)
  · obtain ⟨E, hE⟩ := curR_ex base kind xs ys
    have hC : ∀ wx, Below w.heap.size w wx → Calls Tryz.prog 10 #[.agg #[.int .i64 base, .int .i64 kind, .slice px xs.length cx, .slice py ys.length cy]] wx fun e w' => e = .returned (.int .i64 E) ∧ Below wx.heap.size wx w' := fun wx hb => curCheck_any base kind px py bx ox cx b2 oy cy xs ys wx (hs.below hb) hE
    have hF : E ≠ 0 → ∀ wx, Below w.heap.size w wx → Calls Tryz.prog 15 #[.agg #[.int .i64 base, .int .i64 kind, .slice px xs.length cx, .slice py ys.length cy], .int .i64 x] wx fun e w' => e = .returned (.tuple #[.float .f64 0, .int .i64 E]) ∧ Below wx.heap.size wx w' := fun h0 wx hb => curFactor_any base kind x E 0 px py bx ox cx b2 oy cy xs ys wx (hs.below hb) (.bad E hE h0)
    refine curveChecks_go base kind x E (lastC xs E) px py _ cx _ cy w (by omega) (by omega) hC (fun wx hb => ?_) (fun wx hb => curLast_any base kind px py bx ox cx b2 oy cy xs ys wx (hs.below hb) hE) hF
      (fun h0 wx hb => curForward_1 base kind 1 0 x x _ _ _ E 0 wx h0 (fun wy hy => hF h0 wy (hb.trans (hy.mono hb.size))))
      (fun h0 wx hb => curZero_1 base kind 1 1 0 x _ _ _ E 0 wx h0 (fun wy hy => hF h0 wy (hb.trans (hy.mono hb.size))))
      (fun h0 wx hb => by
        have := curFalls_any base kind px py bx ox cx b2 oy cy xs ys wx (hs.below hb) hE
        rw [decide_eq_false h0, Bool.false_and] at this
        exact this)
      (fun h0 wx hb => curSingle_bad base kind E _ _ wx h0 (fun wy hy => hC wy (hb.trans (hy.mono hb.size))))
      (fun wx => isS 0 0 wx rfl (u64N (by decide))) (fun wx => ref11Same_nil wx) (fun wx => awake11 wx)
    refine (docOfC base kind px py bx ox cx b2 oy cy xs ys wx (hs.below hb) hy).mono fun e w' ⟨p, g, c, he, hc, hbl⟩ => ?_
    exact ⟨p, c, he, hbl, fun wy hwy => ⟨ref11Check_any base kind px p bx ox cx g 0 c xs ys wy (hc.below hwy) hE, ref11Last_any base kind px p bx ox cx g 0 c xs ys wy (hc.below hwy) hE⟩⟩
end Go.Proofs.YtcmbfflemoccmaaGreat
