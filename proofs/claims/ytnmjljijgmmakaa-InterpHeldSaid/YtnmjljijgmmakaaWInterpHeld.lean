/- The walk of InterpHeld. -/
import Derived.Test.YtnmjljijgmmakaaHbb
import Derived.Test.YtnmjljijgmmakaaFTab
namespace Go.Proofs.Ytnmjljijgmmakaa
open Go.RowKit

set_option maxRecDepth 20000 in
set_option maxHeartbeats 1600000 in
theorem interpHeld_err (kind x k E : Int) (V : Nat) (v1 v2 : Value) (w : World) (hE : E ≠ 0)
    (HA : Hid (∀ wx, Below w.heap.size w wx → Calls Try.prog 13 #[.agg #[.int .i64 kind, v1, v2], .int .i64 x] wx fun e w' => e = .returned (.tuple #[.float .f64 V, .int .i64 E]) ∧ Below wx.heap.size wx w'))
    (HF : Hid (∀ wx, Below w.heap.size w wx → Calls Try.prog 11 #[.agg #[.int .i64 kind, v1, v2], .int .i64 x] wx fun e w' => e = .returned (.tuple #[.int .i64 k, .int .i64 E]) ∧ Below wx.heap.size wx w'))
    (HW : Hid (∀ wx, Calls Try.prog 7 #[] wx fun e w' => e = .returned (.bool true) ∧ Below wx.heap.size wx w')) :
    Calls Try.prog 5 #[.agg #[.int .i64 kind, v1, v2], .int .i64 x] w fun e w' => e = .returned (.bool true) ∧ Below w.heap.size w w' := by
  have HB0 := hideS (abox_at w kind v1 v2)
  have hE' : (E != 0) = true := bne_iff_ne.2 hE
  have hEE : (E != E) = false := by simp
  clear hE
  go_enter Try.func5, Try.ntmps5
  go_wp2_with fail
  refine (HA.out _ HB0.out.bl).mono ?_
  rintro e w1 ⟨rfl, hb1⟩
  have HB1 := hideS (HB0.out.step hb1)
  clear hb1 HB0 HA
  have t0 := HB1.out.t0
  have t1 := HB1.out.t1
  have t2 := HB1.out.t2
  go_wp2_with fail
  clear t0 t1 t2
  refine (HF.out _ HB1.out.bl).mono ?_
  rintro e w2 ⟨rfl, hb2⟩
  have HB2 := hideS (HB1.out.step hb2)
  clear hb2 HB1 HF
  go_wp2_with fail
  refine (HW.out _).mono ?_
  rintro e w3 ⟨rfl, hb3⟩
  have HL := hideS (HB2.out.step hb3).bl
  clear hb3 HB2
  go_wp2_with fail
  go_ret
  exact ⟨rfl, HL.out⟩

set_option maxRecDepth 20000 in
set_option maxHeartbeats 3200000 in
theorem interpHeld_in (kind x : Int) (V k n y0 y1 l h : Nat) (b2 oy cy : Nat) (v1 : Value) (w : World) (hk : k < n) (hn : n ≤ 256)
    (HA : Hid (∀ wx, Below w.heap.size w wx → Calls Try.prog 13 #[.agg #[.int .i64 kind, v1, .slice (some ⟨b2, oy, none⟩) n cy], .int .i64 x] wx fun e w' => e = .returned (.tuple #[.float .f64 V, .int .i64 0]) ∧ Below wx.heap.size wx w'))
    (HF : Hid (∀ wx, Below w.heap.size w wx → Calls Try.prog 11 #[.agg #[.int .i64 kind, v1, .slice (some ⟨b2, oy, none⟩) n cy], .int .i64 x] wx fun e w' => e = .returned (.tuple #[.int .i64 (k : Int), .int .i64 0]) ∧ Below wx.heap.size wx w'))
    (HC : Hid (∀ wx, Below w.heap.size w wx → wx.cell? ⟨b2, oy + k, none⟩ = some (.float .f64 y0) ∧ (k + 1 < n → wx.cell? ⟨b2, oy + (k + 1), none⟩ = some (.float .f64 y1))))
    (h1 : k + 1 < n → (∀ (w : World) (ts : Array TypeId) (t : TypeId), (Builtin.min_ ts t #[.float .f64 y0, .float .f64 y1]).run Try.prog w = .ok (.float .f64 l) w) ∧ (∀ (w : World) (ts : Array TypeId) (t : TypeId), (Builtin.max_ ts t #[.float .f64 y0, .float .f64 y1]).run Try.prog w = .ok (.float .f64 h) w)) (h2 : ¬ k + 1 < n → l = y0 ∧ h = y0)
    (o1 : ((FloatKind.f64.format.order l V == some .lt) || (FloatKind.f64.format.order l V == some .eq)) = true) (o2 : ((FloatKind.f64.format.order V h == some .lt) || (FloatKind.f64.format.order V h == some .eq)) = true)
    (HW : Hid (∀ wx, Calls Try.prog 7 #[] wx fun e w' => e = .returned (.bool true) ∧ Below wx.heap.size wx w')) :
    Calls Try.prog 5 #[.agg #[.int .i64 kind, v1, .slice (some ⟨b2, oy, none⟩) n cy], .int .i64 x] w fun e w' => e = .returned (.bool true) ∧ Below w.heap.size w w' := by
  have HB0 := hideS (abox_at w kind v1 (.slice (some ⟨b2, oy, none⟩) n cy))
  have d1 : decide ((k : Int) < 0) = false := decide_eq_false (by omega)
  have d2 : decide ((n : Int) ≤ (k : Int)) = false := decide_eq_false (by omega)
  have f1 : IntKind.i64.wrap ((k : Int) + 1) = (k : Int) + 1 := by rw [IntKind.wrap_i64]; omega
  have H12 := hideS (And.intro h1 h2)
  have HO := hideS (And.intro o1 o2)
  clear h1 h2 o1 o2
  go_enter Try.func5, Try.ntmps5
  go_wp2_with fail
  refine (HA.out _ HB0.out.bl).mono ?_
  rintro e w1 ⟨rfl, hb1⟩
  have HB1 := hideS (HB0.out.step hb1)
  clear hb1 HB0 HA
  have t0 := HB1.out.t0
  have t1 := HB1.out.t1
  have t2 := HB1.out.t2
  go_wp2_with fail
  clear t0 t1 t2
  refine (HF.out _ HB1.out.bl).mono ?_
  rintro e w2 ⟨rfl, hb2⟩
  have HB2 := hideS (HB1.out.step hb2)
  clear hb2 HB1 HF
  have t2 := HB2.out.t2
  obtain ⟨c0, c1'⟩ := HC.out _ HB2.out.bl
  obtain ⟨o1, o2⟩ := HO.out
  by_cases hl : k + 1 < n
  · have d3 : decide ((k : Int) + 1 < (n : Int)) = true := decide_eq_true (by omega)
    have c1 := c1' hl
    obtain ⟨m1, m2⟩ := H12.out.1 hl
    have g1 : (0 : Int) ≤ (k : Int) + 1 := by omega
    have g2 : (k : Int) + 1 < (n : Int) := by omega
    clear c1' H12 HO HC
    generalize hp1 : (FloatKind.f64.format.order l V == some .lt) = p1 at *
    generalize hp2 : (FloatKind.f64.format.order l V == some .eq) = p2 at *
    generalize hp3 : (FloatKind.f64.format.order V h == some .lt) = p3 at *
    generalize hp4 : (FloatKind.f64.format.order V h == some .eq) = p4 at *
    cases p1 <;> cases p2 <;> cases p3 <;> cases p4 <;> first | (exact absurd o1 (by decide)) | (exact absurd o2 (by decide)) | skip
    all_goals
      clear o1 o2
      go_wp2_with fail
      refine (HW.out _).mono ?_
      rintro e w3 ⟨rfl, hb3⟩
      have HL := hideS (HB2.out.step hb3).bl
      clear hb3
      go_wp2_with fail
      go_ret
      exact ⟨rfl, HL.out⟩
  · have d3 : decide ((k : Int) + 1 < (n : Int)) = false := decide_eq_false (by omega)
    obtain ⟨e1, e2⟩ := H12.out.2 hl
    rw [e1] at o1
    rw [e2] at o2
    clear c1' H12 HO HC e1 e2
    generalize hp1 : (FloatKind.f64.format.order y0 V == some .lt) = p1 at *
    generalize hp2 : (FloatKind.f64.format.order y0 V == some .eq) = p2 at *
    generalize hp3 : (FloatKind.f64.format.order V y0 == some .lt) = p3 at *
    generalize hp4 : (FloatKind.f64.format.order V y0 == some .eq) = p4 at *
    cases p1 <;> cases p2 <;> cases p3 <;> cases p4 <;> first | (exact absurd o1 (by decide)) | (exact absurd o2 (by decide)) | skip
    all_goals
      clear o1 o2
      go_wp2_with fail
      refine (HW.out _).mono ?_
      rintro e w3 ⟨rfl, hb3⟩
      have HL := hideS (HB2.out.step hb3).bl
      clear hb3
      go_wp2_with fail
      go_ret
      exact ⟨rfl, HL.out⟩
/-- At and Find tell one error. -/
theorem at_find {kind x E : Int} {V : Nat} {xs : List Int} {ys : List Nat} (h : AtO kind xs ys x V E) : ∃ k, FindO kind xs ys x k E := by
  cases h with
  | err k E h hE => exact ⟨k, h⟩
  | node k ok h hk he => exact ⟨_, h⟩
  | piece k D i ok h hk he hI => exact ⟨_, h⟩

theorem interpHeld_walk (kind x : Int) (px py : Option Addr) (bx ox cx b2 oy cy : Nat) (xs : List Int) (ys : List Nat) (w : World) (hs : TFl w px py bx ox b2 oy xs ys) (_hxI : ∀ i < xs.length, TI64 (xs.getD i 0)) (_hx : xs.length ≤ 17592186043904) (_hy : ys.length ≤ 17592186043904) (_hlx : xs.length ≤ cx) (_hly : ys.length ≤ cy) (_hxx : TI64 x) :
    Calls Try.prog 5 #[.agg #[.int .i64 kind, .slice px xs.length cx, .slice py ys.length cy], .int .i64 x] w fun e w' => e = .returned (.bool true) ∧ Below w.heap.size w w' := by
  obtain ⟨V, E, hA⟩ := atO_ex kind xs ys x
  by_cases hE : E = 0
  · subst hE
    obtain ⟨k, ok, hf, hk, hV, hn, hm, hl⟩ := atO_held hA hs.u
    have hyl := ok.len
    have hhi := ok.hi
    have n0 := node_num ok hs.u hk
    have HA : ∀ wx, Below w.heap.size w wx → _ := fun wx hb => intAt_any kind x 0 V px py bx ox cx b2 oy cy xs ys wx hA (hs.below hb)
    have HF : ∀ wx, Below w.heap.size w wx → _ := fun wx hb => intFind_any kind x k 0 px py bx ox cx b2 oy cy xs ys wx hf (hs.below hb)
    have HC : ∀ wx, Below w.heap.size w wx → wx.cell? ⟨b2, oy + k, none⟩ = some (.float .f64 (ys.getD k 0)) ∧ (k + 1 < xs.length → wx.cell? ⟨b2, oy + (k + 1), none⟩ = some (.float .f64 (ys.getD (k + 1) 0))) := fun wx hb => ⟨(hs.below hb).y.cell k (by omega), fun hl => (hs.below hb).y.cell (k + 1) (by omega)⟩
    obtain rfl := hs.y.at_ (by omega)
    rw [hyl] at HA HF ⊢
    by_cases hl' : k + 1 < xs.length
    · have n1 := node_num ok hs.u hl'
      obtain ⟨l, r1, nl, rl⟩ := fmin_any n0 n1
      obtain ⟨h, r2, nh, rh⟩ := fmax_any n0 n1
      have hm' := hm hl'
      refine interpHeld_in kind x V k xs.length _ _ l h b2 oy cy _ w hk hhi HA HF HC (fun _ => ⟨r1, r2⟩) (fun c => absurd hl' c) ?_ ?_ (fun wx => awake10 wx)
      · rw [leq_rank nl.lt hV nl.nn.nan hn, rl]; exact decide_eq_true hm'.1
      · rw [leq_rank hV nh.lt hn nh.nn.nan, rh]; exact decide_eq_true hm'.2
    · have hl2 := hl hl'
      refine interpHeld_in kind x V k xs.length _ (ys.getD (k + 1) 0) _ _ b2 oy cy _ w hk hhi HA HF HC (fun c => absurd c hl') (fun _ => ⟨rfl, rfl⟩) ?_ ?_ (fun wx => awake10 wx)
      · rw [leq_rank n0.lt hV n0.nn.nan hn]; exact decide_eq_true (by omega)
      · rw [leq_rank hV n0.lt hn n0.nn.nan]; exact decide_eq_true (by omega)
  · obtain ⟨k, hf⟩ := at_find hA
    exact interpHeld_err kind x k E V _ _ w hE (fun wx hb => intAt_any kind x E V px py bx ox cx b2 oy cy xs ys wx hA (hs.below hb)) (fun wx hb => intFind_any kind x k E px py bx ox cx b2 oy cy xs ys wx hf (hs.below hb)) (fun wx => awake10 wx)
end Go.Proofs.Ytnmjljijgmmakaa
