/- The walk of CurveFactors. -/
import Derived.Test.YtcmbfflemoccmaaGreatHbt
import Derived.Test.YtcmbfflemoccmaaGreatHau
namespace Go.Proofs.YtcmbfflemoccmaaGreat
open Go.RowKit

set_option maxRecDepth 20000 in
set_option maxHeartbeats 1600000 in
theorem curveFactors_many (base kind x : Int) (vd vf : Value) (w : World)
    (HF : Hid (∀ wx, Calls Tryz.prog 22 #[.agg #[.int .i64 base, .int .i64 kind, vd, vf]] wx fun e w' => e = .returned (.bool false) ∧ Below wx.heap.size wx w'))
    (HW : Hid (∀ wx, Calls Tryz.prog 9 #[] wx fun e w' => e = .returned (.bool true) ∧ Below wx.heap.size wx w')) :
    Calls Tryz.prog 4 #[.agg #[.int .i64 base, .int .i64 kind, vd, vf], .int .i64 x] w fun e w' => e = .returned (.bool true) ∧ Below w.heap.size w w' := by
  have HB := hideS (vboxA_at w base kind vd vf)
  go_enter Tryz.func4, Tryz.ntmps4
  go_wp2_with fail
  refine (HF.out _).mono ?_
  rintro e w1 ⟨rfl, hb1⟩
  have HB1 := hideS (HB.out.step hb1)
  clear hb1 HB
  go_wp2_with (go_at_call 9; refine (HW.out _).mono ?_; rintro e w9 ⟨rfl, hb9⟩)
  go_ret
  exact ⟨rfl, (HB1.out.step hb9).bl⟩
set_option maxRecDepth 20000 in
set_option maxHeartbeats 1600000 in
theorem curveFactors_few (base kind x E U : Int) (Y : Nat) (px py : Option Addr) (lx cx ly cy : Nat) (w : World)
    (HF : Hid (∀ wx, Calls Tryz.prog 22 #[.agg #[.int .i64 base, .int .i64 kind, .slice px lx cx, .slice py ly cy]] wx fun e w' => e = .returned (.bool true) ∧ Below wx.heap.size wx w'))
    (HA : Hid (∀ wx, Below w.heap.size w wx → Calls Tryz.prog 15 #[.agg #[.int .i64 base, .int .i64 kind, .slice px lx cx, .slice py ly cy], .int .i64 x] wx fun e w' => e = .returned (.tuple #[.float .f64 Y, .int .i64 E]) ∧ Below wx.heap.size wx w'))
    (HD : Hid (∀ wx, Below w.heap.size w wx → Calls Tryz.prog 12 #[.agg #[.int .i64 base, .int .i64 kind, .slice px lx cx, .slice py ly cy]] wx fun e w' => ∃ p c, e = .returned (.agg #[.int .i64 base, .int .i64 kind, .slice px lx cx, .slice p ly c]) ∧ Below wx.heap.size wx w' ∧
      Hid (∀ wy, Below w'.heap.size w' wy → Calls Tryz.prog 23 #[.agg #[.int .i64 base, .int .i64 kind, .slice px lx cx, .slice p ly c], .int .i64 x] wy fun e w'' => e = .returned (.tuple #[.int .u64 U, .int .i64 E]) ∧ Below wy.heap.size wy w'')))
    (HI : Hid (∀ wx, Calls Tryz.prog 20 #[.float .f64 Y, .int .u64 U] wx fun e w' => e = .returned (.bool true) ∧ w' = wx))
    (HW : Hid (∀ wx, Calls Tryz.prog 9 #[] wx fun e w' => e = .returned (.bool true) ∧ Below wx.heap.size wx w')) :
    Calls Tryz.prog 4 #[.agg #[.int .i64 base, .int .i64 kind, .slice px lx cx, .slice py ly cy], .int .i64 x] w fun e w' => e = .returned (.bool true) ∧ Below w.heap.size w w' := by
  have HB := hideS (vboxA_at w base kind (.slice px lx cx) (.slice py ly cy))
  go_enter Tryz.func4, Tryz.ntmps4
  go_wp2_with fail
  refine (HF.out _).mono ?_
  rintro e w1 ⟨rfl, hb1⟩
  have HB1 := hideS (HB.out.step hb1)
  clear hb1 HB
  have t0 := HB1.out.t0
  have t1 := HB1.out.t1
  have t2 := HB1.out.t2
  have t3 := HB1.out.t3
  go_wp2_with fail
  refine (HA.out _ HB1.out.bl).mono ?_
  rintro e w2 ⟨rfl, hb2⟩
  have HB2 := hideS (HB1.out.step hb2)
  clear hb2 HB1 t0 t1 t2 t3
  have t0 := HB2.out.t0
  have t1 := HB2.out.t1
  have t2 := HB2.out.t2
  have t3 := HB2.out.t3
  go_wp2_with fail
  refine (HD.out _ HB2.out.bl).mono ?_
  rintro e w3 ⟨p, c, rfl, hb3, HR⟩
  have HB3 := hideS (HB2.out.step hb3)
  clear hb3 HB2 t0 t1 t2 t3
  go_wp2_with fail
  refine (HR.out _ (Below.refl _ _)).mono ?_
  rintro e w4 ⟨rfl, hb4⟩
  have HB4 := hideS (HB3.out.step hb4)
  clear hb4 HB3 HR
  go_wp2_with fail
  refine (HI.out _).mono ?_
  rintro e w' ⟨rfl, rfl⟩
  go_wp2_with (go_at_call 9; refine (HW.out _).mono ?_; rintro e w9 ⟨rfl, hb9⟩)
  go_ret
  exact ⟨rfl, (HB4.out.step hb9).bl⟩
theorem curveFactors_walk (base kind x : Int) (px py : Option Addr) (bx ox cx b2 oy cy : Nat) (xs : List Int) (ys : List Nat) (w : World) (hs : TFl w px py bx ox b2 oy xs ys) (_hxI : ∀ i < xs.length, TI64 (xs.getD i 0)) (hx : xs.length ≤ 17592186043904) (hy : ys.length ≤ 17592186043904) (_hlx : xs.length ≤ cx) (_hly : ys.length ≤ cy) (_hxx : TI64 x) :
    Calls Tryz.prog 4 #[.agg #[.int .i64 base, .int .i64 kind, .slice px xs.length cx, .slice py ys.length cy], .int .i64 x] w fun e w' => e = .returned (.bool true) ∧ Below w.heap.size w w' := by
  have hF := fun wx => few11_any base kind px py xs.length cx ys.length cy wx hx hy
  cases hq : (decide (xs.length ≤ 30) && decide (ys.length ≤ 30)) with
  | false =>
    rw [hq] at hF
    exact curveFactors_many base kind x _ _ w hF (fun wx => awake11 wx)
  | true =>
    rw [hq] at hF
    obtain ⟨V, E, hA⟩ := facO_ex base kind xs ys x
    have hV := facO_lt hA hs.f
    refine curveFactors_few base kind x E (V : Int) V px py _ cx _ cy w hF (fun wx hb => curFactor_any base kind x E V px py bx ox cx b2 oy cy xs ys wx (hs.below hb) hA) (fun wx hb => ?_) (fun wx => isS V V wx rfl (u64N hV)) (fun wx => awake11 wx)
    refine (docOfC base kind px py bx ox cx b2 oy cy xs ys wx (hs.below hb) hy).mono fun e w' ⟨p, g, c, he, hc, hbl⟩ => ?_
    exact ⟨p, c, he, hbl, fun wy hwy => ref11Factor_any base kind x E V px p bx ox cx g 0 c xs ys wy (hc.below hwy) hA⟩
end Go.Proofs.YtcmbfflemoccmaaGreat
