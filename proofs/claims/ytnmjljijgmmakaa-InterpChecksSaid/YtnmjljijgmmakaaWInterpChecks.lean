/- The walk of InterpChecks. -/
import Derived.Test.YtnmjljijgmmakaaWInterpAt
import Derived.Test.YtnmjljijgmmakaaHbb
namespace Go.Proofs.Ytnmjljijgmmakaa
open Go.RowKit

set_option maxRecDepth 20000 in
set_option maxHeartbeats 1600000 in
theorem interpChecks_many (kind x : Int) (px py : Option Addr) (lx cx ly cy : Nat) (w : World) (hl : 300 < lx ∨ 300 < ly) (hmx : lx ≤ 9223372036854775807) (hmy : ly ≤ 9223372036854775807)
    (HW : Hid (∀ wx, Calls Try.prog 7 #[] wx fun e w' => e = .returned (.bool true) ∧ Below wx.heap.size wx w')) :
    Calls Try.prog 3 #[.agg #[.int .i64 kind, .slice px lx cx, .slice py ly cy], .int .i64 x] w fun e w' => e = .returned (.bool true) ∧ Below w.heap.size w w' := by
  have HB0 := hideS (abox_at w kind (.slice px lx cx) (.slice py ly cy))
  by_cases h1 : 300 < lx
  · have d1 : decide ((300 : Int) < (lx : Int)) = true := decide_eq_true (by omega)
    clear hl h1
    go_enter Try.func3, Try.ntmps3
    go_wp2_with (go_at_call 7; refine (HW.out _).mono ?_; rintro e w9 ⟨rfl, hb9⟩)
    go_ret
    exact ⟨rfl, (HB0.out.step hb9).bl⟩
  · have d1 : decide ((300 : Int) < (lx : Int)) = false := decide_eq_false (by omega)
    have d2 : decide ((300 : Int) < (ly : Int)) = true := decide_eq_true (by omega)
    clear hl h1
    go_enter Try.func3, Try.ntmps3
    go_wp2_with (go_at_call 7; refine (HW.out _).mono ?_; rintro e w9 ⟨rfl, hb9⟩)
    go_ret
    exact ⟨rfl, (HB0.out.step hb9).bl⟩

set_option maxRecDepth 40000 in
set_option maxHeartbeats 6400000 in
theorem interpChecks_few (kind x k E G : Int) (px py : Option Addr) (lx cx ly cy : Nat) (w : World) (hlx : lx ≤ 300) (hly : ly ≤ 300)
    (HC : Hid (∀ wx, Below w.heap.size w wx → Calls Try.prog 8 #[.agg #[.int .i64 kind, .slice px lx cx, .slice py ly cy]] wx fun e w' => e = .returned (.int .i64 E) ∧ Below wx.heap.size wx w'))
    (HO : Hid (∀ wx, Below w.heap.size w wx → Calls Try.prog 10 #[.agg #[.int .i64 kind, .slice px lx cx, .slice py ly cy]] wx fun e w' => ∃ v, e = .returned v ∧ Below wx.heap.size wx w' ∧
      Hid ((∀ wy, Below w'.heap.size w' wy → Calls Try.prog 9 #[v] wy fun e w'' => e = .returned (.int .i64 E) ∧ Below wy.heap.size wy w'') ∧ (∀ wy, Below w'.heap.size w' wy → Calls Try.prog 12 #[v, .int .i64 x] wy fun e w'' => e = .returned (.tuple #[.int .i64 k, .int .i64 G]) ∧ Below wy.heap.size wy w''))))
    (HF : Hid (∀ wx, Below w.heap.size w wx → Calls Try.prog 11 #[.agg #[.int .i64 kind, .slice px lx cx, .slice py ly cy], .int .i64 x] wx fun e w' => e = .returned (.tuple #[.int .i64 k, .int .i64 G]) ∧ Below wx.heap.size wx w'))
    (HA : Hid (E ≠ 0 → ∀ wx, Below w.heap.size w wx → Calls Try.prog 13 #[.agg #[.int .i64 kind, .slice px lx cx, .slice py ly cy], .int .i64 x] wx fun e w' => e = .returned (.tuple #[.float .f64 0, .int .i64 E]) ∧ Below wx.heap.size wx w'))
    (HS : Hid (E ≠ 0 → ∀ wx, Below w.heap.size w wx → Calls Try.prog 14 #[.agg #[.int .i64 kind, .slice px lx cx, .slice py ly cy]] wx fun e w' => e = .returned (.tuple #[.slice none 0 0, .int .i64 E]) ∧ Below wx.heap.size wx w'))
    (HP : Hid (E ≠ 0 → ∀ wx, Below w.heap.size w wx → Calls Try.prog 15 #[.agg #[.int .i64 kind, .slice px lx cx, .slice py ly cy], .int .i64 0] wx fun e w' => e = .returned (.tuple #[.slice none 0 0, .int .i64 E]) ∧ Below wx.heap.size wx w'))
    (HI : Hid (∀ wx, Calls Try.prog 16 #[.float .f64 0, .int .u64 0] wx fun e w' => e = .returned (.bool true) ∧ w' = wx))
    (HW : Hid (∀ wx, Calls Try.prog 7 #[] wx fun e w' => e = .returned (.bool true) ∧ Below wx.heap.size wx w')) :
    Calls Try.prog 3 #[.agg #[.int .i64 kind, .slice px lx cx, .slice py ly cy], .int .i64 x] w fun e w' => e = .returned (.bool true) ∧ Below w.heap.size w w' := by
  have HB0 := hideS (abox_at w kind (.slice px lx cx) (.slice py ly cy))
  have d1 : decide ((300 : Int) < (lx : Int)) = false := decide_eq_false (by omega)
  have d2 : decide ((300 : Int) < (ly : Int)) = false := decide_eq_false (by omega)
  have z1 : (E != E) = false := by simp
  have z2 : (k != k) = false := by simp
  have z3 : (G != G) = false := by simp
  have z4 : (E == E) = true := by simp
  go_enter Try.func3, Try.ntmps3
  go_wp2_with fail
  refine (HC.out _ HB0.out.bl).mono ?_
  rintro e w1 ⟨rfl, hb1⟩
  have HB1 := hideS (HB0.out.step hb1)
  clear hb1 HB0 HC d1 d2
  have t0 := HB1.out.t0
  have t1 := HB1.out.t1
  have t2 := HB1.out.t2
  go_wp2_with fail
  clear t0 t1 t2
  refine (HO.out _ HB1.out.bl).mono ?_
  rintro e w2 ⟨v, rfl, hb2, HR⟩
  have HB2 := hideS (HB1.out.step hb2)
  clear hb2 HB1
  go_wp2_with fail
  refine (HR.out.1 _ (Below.refl _ _)).mono ?_
  rintro e w3 ⟨rfl, hb3⟩
  have HB3 := hideS (HB2.out.step hb3)
  clear hb3 HB2 HR
  have t0 := HB3.out.t0
  have t1 := HB3.out.t1
  have t2 := HB3.out.t2
  go_wp2_with fail
  clear t0 t1 t2
  refine (HF.out _ HB3.out.bl).mono ?_
  rintro e w4 ⟨rfl, hb4⟩
  have HB4 := hideS (HB3.out.step hb4)
  clear hb4 HB3 HF
  have t0 := HB4.out.t0
  have t1 := HB4.out.t1
  have t2 := HB4.out.t2
  go_wp2_with fail
  clear t0 t1 t2
  refine (HO.out _ HB4.out.bl).mono ?_
  rintro e w5 ⟨v', rfl, hb5, HR⟩
  have HB5 := hideS (HB4.out.step hb5)
  clear hb5 HB4
  go_wp2_with fail
  refine (HR.out.2 _ (Below.refl _ _)).mono ?_
  rintro e w6 ⟨rfl, hb6⟩
  have HB6 := hideS (HB5.out.step hb6)
  clear hb6 HB5 HR HO
  by_cases hE : E = 0
  · subst hE
    clear HA HS HP z1 z4
    go_wp2_with fail
    refine (HW.out _).mono ?_
    rintro e w7 ⟨rfl, hb7⟩
    have HL := hideS (HB6.out.step hb7).bl
    clear hb7
    go_wp2_with fail
    go_ret
    exact ⟨rfl, HL.out⟩
  · have hE' : (E == 0) = false := beq_eq_false_iff_ne.2 hE
    have HA' := hideS (HA.out hE)
    have HS' := hideS (HS.out hE)
    have HP' := hideS (HP.out hE)
    clear HA HS HP hE
    have t0 := HB6.out.t0
    have t1 := HB6.out.t1
    have t2 := HB6.out.t2
    go_wp2_with fail
    clear t0 t1 t2
    refine (HA'.out _ HB6.out.bl).mono ?_
    rintro e w7 ⟨rfl, hb7⟩
    have HB7 := hideS (HB6.out.step hb7)
    clear hb7 HB6 HA'
    have t0 := HB7.out.t0
    have t1 := HB7.out.t1
    have t2 := HB7.out.t2
    go_wp2_with fail
    clear t0 t1 t2
    refine (HS'.out _ HB7.out.bl).mono ?_
    rintro e w8 ⟨rfl, hb8⟩
    have HB8 := hideS (HB7.out.step hb8)
    clear hb8 HB7 HS'
    have t0 := HB8.out.t0
    have t1 := HB8.out.t1
    have t2 := HB8.out.t2
    go_wp2_with fail
    clear t0 t1 t2
    refine (HP'.out _ HB8.out.bl).mono ?_
    rintro e w9 ⟨rfl, hb9⟩
    have HB9 := hideS (HB8.out.step hb9)
    clear hb9 HB8 HP'
    go_wp2_with fail
    refine (HI.out _).mono ?_
    rintro e w' ⟨rfl, rfl⟩
    go_wp2_with fail
    refine (HW.out _).mono ?_
    rintro e w10 ⟨rfl, hb10⟩
    have HL := hideS (HB9.out.step hb10).bl
    clear hb10
    go_wp2_with fail
    go_ret
    exact ⟨rfl, HL.out⟩

theorem interpChecks_walk (kind x : Int) (px py : Option Addr) (bx ox cx b2 oy cy : Nat) (xs : List Int) (ys : List Nat) (w : World) (hs : TFl w px py bx ox b2 oy xs ys) (_hxI : ∀ i < xs.length, TI64 (xs.getD i 0)) (hx : xs.length ≤ 17592186043904) (hy : ys.length ≤ 17592186043904) (_hlx : xs.length ≤ cx) (_hly : ys.length ≤ cy) (_hxx : TI64 x) :
    Calls Try.prog 3 #[.agg #[.int .i64 kind, .slice px xs.length cx, .slice py ys.length cy], .int .i64 x] w fun e w' => e = .returned (.bool true) ∧ Below w.heap.size w w' := by
  by_cases hl : 300 < xs.length ∨ 300 < ys.length
  · exact interpChecks_many kind x px py _ cx _ cy w hl (by omega) (by omega) (fun wx => awake10 wx)
  · obtain ⟨E, hT⟩ := tabR_ex kind xs ys
    obtain ⟨k, G, hF⟩ := findO_ex kind xs ys x
    have hC : ∀ wx, Below w.heap.size w wx → Calls Try.prog 8 #[.agg #[.int .i64 kind, .slice px xs.length cx, .slice py ys.length cy]] wx fun e w' => e = .returned (.int .i64 E) ∧ Below wx.heap.size wx w' := fun wx hb => intCheck_any kind E px py bx ox cx b2 oy cy xs ys wx hT (hs.below hb)
    refine interpChecks_few kind x k E G px py _ cx _ cy w (by omega) (by omega) hC (fun wx hb => ?_) (fun wx hb => intFind_any kind x k G px py bx ox cx b2 oy cy xs ys wx hF (hs.below hb))
      (fun hE wx hb => intAt_any kind x E 0 px py bx ox cx b2 oy cy xs ys wx (.err 0 E (.bad E hT hE) hE) (hs.below hb)) (fun hE wx hb => intSlopes_bad kind E _ _ wx hE (fun wy hby => hC wy (hb.trans (hby.mono hb.size)))) (fun hE wx hb => intPoints_bad kind E 0 _ _ wx hE (fun wy hby => hC wy (hb.trans (hby.mono hb.size))))
      (fun wx => isS 0 0 wx rfl (u64N (by decide))) (fun wx => awake10 wx)
    refine (docOf kind px py bx ox cx b2 oy cy xs ys wx (hs.below hb) hy).mono fun e w' ⟨p, g, c, he, ⟨ht, h1, h2, _⟩, hbl⟩ => ?_
    exact ⟨_, he, hbl, fun wy hwy => ref10Check_any kind E px p bx ox cx g 0 c xs ys wy hT (ht.below hwy), fun wy hwy => ref10Find_any kind x k G px p bx ox cx g 0 c xs ys wy hF (ht.below hwy)⟩
end Go.Proofs.Ytnmjljijgmmakaa
