/- The contracts of package interp's rise and slope. -/
import Derived.Test.YtcmbfflemoccmaaGreatHbm
import Derived.Test.YtcmbfflemoccmaaGreatHaq
import Derived.Deep.RegionHeld3
import Derived.Laws.FloatArith
namespace Go.Proofs.YtcmbfflemoccmaaGreat
open Go.RowKit

theorem some_nn {o : Option Nat} (h : NN (cn o)) : o = some (cn o) := by
  cases o with
  | none => exfalso; have := h.nan; exact absurd this (by decide)
  | some r => rfl
theorem sub_some {x y : Nat} (h : NN (sSub x y)) : floatBits .sub .f64 x y = some (sSub x y) := some_nn h
theorem div_some {x y : Nat} (h : NN (sDiv x y)) : floatBits .quo .f64 x y = some (sDiv x y) := some_nn h
theorem mul_some {x y : Nat} (h : NN (sMul x y)) : floatBits .mul .f64 x y = some (sMul x y) := some_nn h
theorem add_some {x y : Nat} (h : NN (sAdd x y)) : floatBits .add .f64 x y = some (sAdd x y) := some_nn h
structure SixF (w : World) (B : Nat) (vx vy : Value) (bx ox b2 oy k j : Nat) (x0 x1 : Int) (y0 y1 : Nat) : Prop where
  t1 : w.cell? ⟨B, 1, none⟩ = some vx
  t2 : w.cell? ⟨B, 2, none⟩ = some vy
  a0 : w.cell? ⟨bx, ox + k, none⟩ = some (.int .i64 x0)
  a1 : w.cell? ⟨bx, ox + j, none⟩ = some (.int .i64 x1)
  b0 : w.cell? ⟨b2, oy + k, none⟩ = some (.float .f64 y0)
  b1 : w.cell? ⟨b2, oy + j, none⟩ = some (.float .f64 y1)
theorem six_of {w wr : World} {kind : Int} {px py : Option Addr} {bx ox cx b2 oy cy k : Nat} {xs : List Int} {ys : List Nat} (hs : TFl w px py bx ox b2 oy xs ys) (hl : ys.length = xs.length) (hk : k + 1 < xs.length) (hB : TBox w kind (.slice px xs.length cx) (.slice py ys.length cy) wr) :
    SixF wr w.heap.size (.slice (some ⟨bx, ox, none⟩) xs.length cx) (.slice (some ⟨b2, oy, none⟩) xs.length cy) bx ox b2 oy k (k + 1) (xs.getD k 0) (xs.getD (k + 1) 0) (ys.getD k 0) (ys.getD (k + 1) 0) ∧ px = some ⟨bx, ox, none⟩ ∧ py = some ⟨b2, oy, none⟩ := by
  obtain rfl := hs.x.at_ (by omega)
  obtain rfl := hs.y.at_ (by omega)
  have hs' := hs.below hB.bl
  rw [hl] at hB
  exact ⟨⟨hB.t1, hB.t2, hs'.x.cell k (by omega), hs'.x.cell (k + 1) hk, hs'.y.cell k (by omega), hs'.y.cell (k + 1) (by omega)⟩, rfl, rfl⟩

set_option maxHeartbeats 1600000 in
theorem rise_run (kind : Int) (bx ox cx b2 oy cy n k : Nat) (x0 x1 : Int) (y0 y1 u h r : Nat) (w w1 : World) (hw1 : w.alloc (.cells #[.int .i64 kind, .slice (some ⟨bx, ox, none⟩) n cx, .slice (some ⟨b2, oy, none⟩) n cy] 73) = w1) (hS : SixF w1 w.heap.size (.slice (some ⟨bx, ox, none⟩) n cx) (.slice (some ⟨b2, oy, none⟩) n cy) bx ox b2 oy k (k + 1) x0 x1 y0 y1) (hbl : Below w.heap.size w w1) (hjn : k + 1 < n) (hn : n ≤ 1000) (h0 : 0 ≤ x0) (h1 : x0 ≤ 109572) (h2 : 0 ≤ x1) (h3 : x1 ≤ 109572) (q1 : floatBits .sub .f64 y1 y0 = some u) (qf : floatOfInt .f64 (x1 - x0) = h) (q2 : floatBits .quo .f64 u h = some r) :
    Calls Tryz.prog 201 #[.agg #[.int .i64 kind, .slice (some ⟨bx, ox, none⟩) n cx, .slice (some ⟨b2, oy, none⟩) n cy], .int .i64 (k : Int)] w fun e w' => e = .returned (.float .f64 r) ∧ Below w.heap.size w w' := by
  have f1 : IntKind.i64.wrap ((k : Int) + 1) = (k : Int) + 1 := by rw [IntKind.wrap_i64]; omega
  have f2 : IntKind.i64.wrap (x1 - x0) = x1 - x0 := by rw [IntKind.wrap_i64]; omega
  have g1 : (0 : Int) ≤ (k : Int) + 1 := by omega
  have g2 : (k : Int) + 1 < (n : Int) := by omega
  have g3 : (0 : Int) ≤ (k : Int) := by omega
  have g4 : (k : Int) < (n : Int) := by omega
  have r1 := fun w => run_float_arith (P := Tryz.prog) w .sub 38 .f64 y1 y0 u q1
  have r2 := fun w => run_float_arith (P := Tryz.prog) w .quo 38 .f64 u h r q2
  obtain ⟨t1, t2, a0, a1, b0, b1⟩ := hS
  have HB := hideS hbl
  clear hbl q1 q2
  go_enter Tryz.func201, Tryz.ntmps201
  go_wp2_with fail
  clear hw1
  go_quiet (fail)
  go_wp2_with fail
  go_ret
  exact ⟨rfl, HB.out.os, HB.out.tape, HB.out.output, HB.out.size, HB.out.block⟩
theorem rise_any (kind : Int) (px py : Option Addr) (bx ox cx b2 oy cy k : Nat) (xs : List Int) (ys : List Nat) (w : World) (h : OkT kind xs ys) (hs : TFl w px py bx ox b2 oy xs ys) (hk : k + 1 < xs.length) :
    Calls Tryz.prog 201 #[.agg #[.int .i64 kind, .slice px xs.length cx, .slice py ys.length cy], .int .i64 (k : Int)] w fun e w' => e = .returned (.float .f64 (steepB xs ys k)) ∧ Below w.heap.size w w' := by
  obtain ⟨hS, rfl, rfl⟩ := six_of hs h.len hk (abox_at w kind (.slice px xs.length cx) (.slice py ys.length cy))
  have hl := h.len
  have n0 := node_fine (h.node k (by omega))
  have n1 := node_fine (h.node (k + 1) hk)
  have hst := steep_nn h hs.u hk
  rw [hl] at hS ⊢
  exact rise_run kind bx ox cx b2 oy cy xs.length k _ _ _ _ _ _ _ w _ rfl hS (abox_at w kind _ _).bl hk (by have := h.hi; omega) n0.1 n0.2.1 n1.1 n1.2.1 (sub_some (sSub_nn (node_num h hs.u hk) (node_num h hs.u (by omega)))) (floatOf_fi _) (div_some hst)

theorem slopP_at (xs : List Int) (ys : List Nat) : ∀ m k, k ≤ m → (slopP xs ys m).getD k 0 = if k = 0 then steepB xs ys 0 else slB (steepB xs ys (k - 1)) (steepB xs ys k)
  | 0, k, h => by
    obtain rfl : k = 0 := by omega
    rfl
  | m + 1, k, h => by
    rw [slopP_next]
    by_cases hk : k ≤ m
    · rw [← slopP_at xs ys m k hk]
      have := slopP_len xs ys m
      simp [List.getD, List.getElem?_append_left (show k < (slopP xs ys m).length by omega)]
    · obtain rfl : k = m + 1 := by omega
      rw [if_neg (by omega), Nat.add_sub_cancel]
      have := slopP_len xs ys m
      simp [List.getD, this]
theorem slopL_at {xs : List Int} {ys : List Nat} {n k : Nat} (hk : k < n) : (slopL xs ys n).getD k 0 = if n = 1 then 0 else if k = 0 then steepB xs ys 0 else if k = n - 1 then steepB xs ys (n - 2) else slB (steepB xs ys (k - 1)) (steepB xs ys k) := by
  unfold slopL
  by_cases h1 : n = 1
  · obtain rfl : k = 0 := by omega
    rw [if_pos h1, if_pos h1]; rfl
  · rw [if_neg h1, if_neg h1]
    have hl := slopP_len xs ys (n - 2)
    by_cases he : k = n - 1
    · rw [if_pos he]
      by_cases h0 : k = 0
      · omega
      · rw [if_neg h0]
        simp [List.getD, List.getElem?_append_right (show (slopP xs ys (n - 2)).length ≤ k by omega), show k - (slopP xs ys (n - 2)).length = 0 by omega]
    · rw [if_neg he, ← slopP_at xs ys (n - 2) k (by omega)]
      simp [List.getD, List.getElem?_append_left (show k < (slopP xs ys (n - 2)).length by omega)]

set_option maxRecDepth 20000 in
set_option maxHeartbeats 800000 in
theorem slope_one (kind : Int) (px : Option Addr) (cx : Nat) (v2 : Value) (k : Int) (w : World) :
    Calls Tryz.prog 175 #[.agg #[.int .i64 kind, .slice px 1 cx, v2], .int .i64 k] w fun e w' => e = .returned (.float .f64 0) ∧ Below w.heap.size w w' := by
  have HB := hideS (abox_at w kind (.slice px 1 cx) v2)
  go_enter Tryz.func175, Tryz.ntmps175
  go_wp2_with fail
  go_ret
  exact ⟨rfl, HB.out.bl⟩
def RisH (w : World) (kind : Int) (v1 v2 : Value) (n : Nat) (st : Nat → Nat) : Prop := ∀ wx, Below w.heap.size w wx → ∀ k, k + 1 < n → Calls Tryz.prog 201 #[.agg #[.int .i64 kind, v1, v2], .int .i64 (k : Int)] wx fun e w' => e = .returned (.float .f64 (st k)) ∧ Below wx.heap.size wx w'
set_option maxRecDepth 20000 in
set_option maxHeartbeats 800000 in
theorem slope_first (kind : Int) (px : Option Addr) (cx n : Nat) (v2 : Value) (st : Nat → Nat) (w : World) (H : Hid (RisH w kind (.slice px n cx) v2 n st)) (hn : 2 ≤ n) (hn' : n ≤ 256) :
    Calls Tryz.prog 175 #[.agg #[.int .i64 kind, .slice px n cx, v2], .int .i64 0] w fun e w' => e = .returned (.float .f64 (st 0)) ∧ Below w.heap.size w w' := by
  have HB := hideS (abox_at w kind (.slice px n cx) v2)
  obtain ⟨m, rfl⟩ : ∃ m, n = m + 2 := ⟨n - 2, by omega⟩
  have e1 : ((m + 2 : Nat) : Int) - 1 = (m : Int) + 1 := by omega
  have e2 : ((m : Int) + 1 == 0) = false := beq_eq_false_iff_ne.2 (by omega)
  have HR : Hid (∀ wx, Below w.heap.size w wx → Calls Tryz.prog 201 #[.agg #[.int .i64 kind, .slice px (m + 2) cx, v2], .int .i64 0] wx fun e w' => e = .returned (.float .f64 (st 0)) ∧ Below wx.heap.size wx w') := fun wx hb => by
    have := H.out wx hb 0 (by omega)
    rw [show ((0 : Nat) : Int) = 0 from rfl] at this
    exact this
  clear H
  go_enter Tryz.func175, Tryz.ntmps175
  go_wp2_with fail
  refine (HR.out _ HB.out.bl).mono ?_
  rintro e w1 ⟨rfl, hb1⟩
  have HB1 := hideS (HB.out.step hb1)
  clear hb1
  go_wp2_with fail
  go_ret
  exact ⟨rfl, HB1.out.bl⟩
set_option maxRecDepth 20000 in
set_option maxHeartbeats 800000 in
theorem slope_last (kind : Int) (px : Option Addr) (cx n m : Nat) (v2 : Value) (st : Nat → Nat) (w : World) (H : Hid (RisH w kind (.slice px n cx) v2 n st)) (hm : n = m + 2) (hn' : n ≤ 256) :
    Calls Tryz.prog 175 #[.agg #[.int .i64 kind, .slice px n cx, v2], .int .i64 ((m : Int) + 1)] w fun e w' => e = .returned (.float .f64 (st m)) ∧ Below w.heap.size w w' := by
  have HB := hideS (abox_at w kind (.slice px n cx) v2)
  have e1 : (n : Int) - 1 = (m : Int) + 1 := by omega
  have e2 : ((m : Int) + 1 == 0) = false := beq_eq_false_iff_ne.2 (by omega)
  have HR := hideS fun wx hb => H.out wx hb m (by omega)
  have e3 : ((m : Int) + 1) - 1 = (m : Int) := by omega
  have e4 : IntKind.i64.wrap ((n : Int) - 1) = (m : Int) + 1 := by rw [IntKind.wrap_i64]; omega
  have e5 : IntKind.i64.wrap ((m : Int) + 1 - 1) = (m : Int) := by rw [IntKind.wrap_i64]; omega
  clear H hm e1 e3
  generalize (m : Int) + 1 = m1 at *
  go_enter Tryz.func175, Tryz.ntmps175
  go_wp2_with fail
  refine (HR.out _ HB.out.bl).mono ?_
  rintro e w1 ⟨rfl, hb1⟩
  have HB1 := hideS (HB.out.step hb1)
  clear hb1
  go_wp2_with fail
  go_ret
  exact ⟨rfl, HB1.out.bl⟩
structure SlT (a b s : Nat) (a0 b0 al bl : Bool) : Prop where
  p1 : (FloatKind.f64.format.order a 0 == some .eq) = a0
  p2 : (FloatKind.f64.format.order b 0 == some .eq) = b0
  p3 : (FloatKind.f64.format.order a 0 == some .lt) = al
  p4 : (FloatKind.f64.format.order b 0 == some .lt) = bl
  z : (a0 || b0 || (al != bl)) = true → s = 0
  nz : (a0 || b0 || (al != bl)) = false → ∃ p q t, floatBits .quo .f64 4607182418800017408 a = some p ∧ floatBits .quo .f64 4607182418800017408 b = some q ∧ floatBits .add .f64 p q = some t ∧ floatBits .quo .f64 4611686018427387904 t = some s
theorem slT_of {a b : Nat} (ha : NN a) (hb : NN b) : ∃ a0 b0 al bl, SlT a b (slB a b) a0 b0 al bl := by
  have z : (0 : Nat) < 18446744073709551616 := by decide
  refine ⟨_, _, _, _, rfl, rfl, rfl, rfl, ?_, ?_⟩
  all_goals
    rw [eq_rank (u64N ha.lt) (u64N z) ha.nan (by decide), eq_rank (u64N hb.lt) (u64N z) hb.nan (by decide), lt_rank (u64N ha.lt) (u64N z) ha.nan (by decide), lt_rank (u64N hb.lt) (u64N z) hb.nan (by decide), show rankI ((0 : Nat) : Int) = 0 by decide]
  · intro h
    unfold slB
    rw [ltB_iff (by decide) ha.nan, ltB_iff (by decide) hb.nan, ltB_iff ha.nan (by decide), ltB_iff hb.nan (by decide), show rankI 0 = 0 by decide]
    generalize rankI (a : Nat) = r at *
    generalize rankI (b : Nat) = s at *
    rw [if_neg]
    intro c
    simp only [Bool.or_eq_true, Bool.and_eq_true, decide_eq_true_eq, bne_iff_ne, ne_eq, decide_eq_decide] at c h
    omega
  · intro h
    have hc : ((ltB 0 (a : Nat) && ltB 0 (b : Nat)) || (ltB (a : Nat) 0 && ltB (b : Nat) 0)) = true := by
      rw [ltB_iff (by decide) ha.nan, ltB_iff (by decide) hb.nan, ltB_iff ha.nan (by decide), ltB_iff hb.nan (by decide), show rankI 0 = 0 by decide]
      generalize rankI (a : Nat) = r at *
      generalize rankI (b : Nat) = s at *
      simp only [Bool.or_eq_true, Bool.and_eq_true, decide_eq_true_eq, Bool.or_eq_false_iff, decide_eq_false_iff_not, bne_eq_false_iff_eq, decide_eq_decide] at h ⊢
      omega
    have hsg : a % 9223372036854775808 ≠ 0 ∧ b % 9223372036854775808 ≠ 0 ∧ sB a = sB b := by
      rw [Bool.or_eq_true, Bool.and_eq_true, Bool.and_eq_true] at hc
      rcases hc with ⟨p, q⟩ | ⟨p, q⟩
      · obtain ⟨p1, p2⟩ := ltB_pos ha.lt p
        obtain ⟨q1, q2⟩ := ltB_pos hb.lt q
        exact ⟨p1, q1, by rw [p2, q2]⟩
      · obtain ⟨p1, p2⟩ := ltB_neg ha.lt p
        obtain ⟨q1, q2⟩ := ltB_neg hb.lt q
        exact ⟨p1, q1, by rw [p2, q2]⟩
    have one : NumB 4607182418800017408 := by unfold NumB; decide
    obtain ⟨n1, s1⟩ := inv_nn one (by decide) (by decide) ha hsg.1
    obtain ⟨n2, s2⟩ := inv_nn one (by decide) (by decide) hb hsg.2.1
    have n3 := sAdd_same n1 n2 (by rw [s1, s2, hsg.2.2])
    refine ⟨_, _, _, div_some n1, div_some n2, add_some n3, ?_⟩
    unfold slB
    rw [if_pos hc]
    exact div_some (two_nn n3)

set_option maxRecDepth 20000 in
set_option maxHeartbeats 3200000 in
theorem slope_mid (kind : Int) (px : Option Addr) (cx n j k a b s : Nat) (a0 b0 al bl : Bool) (v2 : Value) (w : World) (hk : k = j + 1) (hkn : k + 1 < n) (hn' : n ≤ 256) (hT : SlT a b s a0 b0 al bl)
    (HA : Hid (∀ wx, Below w.heap.size w wx → Calls Tryz.prog 201 #[.agg #[.int .i64 kind, .slice px n cx, v2], .int .i64 (j : Int)] wx fun e w' => e = .returned (.float .f64 a) ∧ Below wx.heap.size wx w'))
    (HC : Hid (∀ wx, Below w.heap.size w wx → Calls Tryz.prog 201 #[.agg #[.int .i64 kind, .slice px n cx, v2], .int .i64 (k : Int)] wx fun e w' => e = .returned (.float .f64 b) ∧ Below wx.heap.size wx w')) :
    Calls Tryz.prog 175 #[.agg #[.int .i64 kind, .slice px n cx, v2], .int .i64 (k : Int)] w fun e w' => e = .returned (.float .f64 s) ∧ Below w.heap.size w w' := by
  have HB := hideS (abox_at w kind (.slice px n cx) v2)
  have e1 : IntKind.i64.wrap ((n : Int) - 1) = (n : Int) - 1 := by rw [IntKind.wrap_i64]; omega
  have e2 : ((n : Int) - 1 == 0) = false := beq_eq_false_iff_ne.2 (by omega)
  have e3 : ((k : Int) == 0) = false := beq_eq_false_iff_ne.2 (by omega)
  have e4 : ((k : Int) == (n : Int) - 1) = false := beq_eq_false_iff_ne.2 (by omega)
  have e5 : IntKind.i64.wrap ((k : Int) - 1) = (j : Int) := by rw [IntKind.wrap_i64]; omega
  obtain ⟨t1, t2, t3, t4, hz, hnz⟩ := hT
  have HT := hideS (And.intro hz hnz)
  clear hk hkn hz hnz
  obtain ⟨w0, hw0⟩ : ∃ w0, w.alloc (.cells #[.int .i64 kind, .slice px n cx, v2] 73) = w0 := ⟨_, rfl⟩
  rw [hw0] at HB
  have u0 := HB.out.t0
  have u1 := HB.out.t1
  have u2 := HB.out.t2
  go_enter Tryz.func175, Tryz.ntmps175
  go_wp2_with fail
  clear hw0
  go_region_with (first | (go_at_call_of 201 (Value.int IntKind.i64 (j : Int)); refine (HA.out _ HB.out.bl.drew).mono ?_; rintro e w1 ⟨rfl, hb1⟩; have HB1 := hideS ((HB.out.drewN 1).step hb1); have u3 := HB1.out.t0; have u4 := HB1.out.t1; have u5 := HB1.out.t2; clear hb1) | (go_at_call 201; refine (HC.out _ HB1.out.bl).mono ?_; rintro e w2 ⟨rfl, hb2⟩; have HB2 := hideS (HB1.out.step hb2); clear hb2))
  all_goals
    obtain ⟨hz, hnz⟩ := HT.out
    have HL := hideS HB2.out.bl
    clear HB HB1 HB2 HA HC HT u0 u1 u2 u3 u4 u5
    cases a0 with
    | true =>
      obtain rfl := hz rfl
      clear hnz hz
      go_wp2_with fail
      go_ret
      exact ⟨rfl, HL.out⟩
    | false =>
      cases b0 with
      | true =>
        obtain rfl := hz rfl
        clear hnz hz
        go_wp2_with fail
        go_ret
        exact ⟨rfl, HL.out⟩
      | false =>
        cases al <;> cases bl
        case false.true =>
          obtain rfl := hz rfl
          clear hnz hz
          go_wp2_with fail
          go_ret
          exact ⟨rfl, HL.out⟩
        case true.false =>
          obtain rfl := hz rfl
          clear hnz hz
          go_wp2_with fail
          go_ret
          exact ⟨rfl, HL.out⟩
        all_goals
          obtain ⟨p, q, t, q1, q2, q3, q4⟩ := hnz rfl
          have r1 := fun w => run_float_arith (P := Tryz.prog) w .quo 38 .f64 _ _ _ q1
          have r2 := fun w => run_float_arith (P := Tryz.prog) w .quo 38 .f64 _ _ _ q2
          have r3 := fun w => run_float_arith (P := Tryz.prog) w .add 38 .f64 _ _ _ q3
          have r4 := fun w => run_float_arith (P := Tryz.prog) w .quo 38 .f64 _ _ _ q4
          clear hnz hz q1 q2 q3 q4
          go_wp2_with fail
          go_ret
          exact ⟨rfl, HL.out⟩
theorem slope_any (kind : Int) (px py : Option Addr) (bx ox cx b2 oy cy k : Nat) (xs : List Int) (ys : List Nat) (w : World) (h : OkT kind xs ys) (hs : TFl w px py bx ox b2 oy xs ys) (hk : k < xs.length) :
    Calls Tryz.prog 175 #[.agg #[.int .i64 kind, .slice px xs.length cx, .slice py ys.length cy], .int .i64 (k : Int)] w fun e w' => e = .returned (.float .f64 ((slopL xs ys xs.length).getD k 0)) ∧ Below w.heap.size w w' := by
  have hl := h.lo
  have hh := h.hi
  have H : Hid (RisH w kind (.slice px xs.length cx) (.slice py ys.length cy) xs.length (steepB xs ys)) := fun wx hb k hk => rise_any kind px py bx ox cx b2 oy cy k xs ys wx h (hs.below hb) hk
  rw [slopL_at hk]
  by_cases h1 : xs.length = 1
  · rw [if_pos h1, h1]
    exact slope_one kind px cx _ _ w
  · rw [if_neg h1]
    by_cases h0 : k = 0
    · rw [if_pos h0]
      subst h0
      exact slope_first kind px cx _ _ _ w H (by omega) hh
    · rw [if_neg h0]
      by_cases he : k = xs.length - 1
      · rw [if_pos he]
        obtain ⟨m, hm⟩ : ∃ m, xs.length = m + 2 := ⟨xs.length - 2, by omega⟩
        have e1 : (k : Int) = (m : Int) + 1 := by omega
        have e2 : xs.length - 2 = m := by omega
        rw [e1, e2]
        exact slope_last kind px cx _ m _ _ w H hm hh
      · rw [if_neg he]
        obtain ⟨a0, b0, al, bl, hT⟩ := slT_of (steep_nn h hs.u (k := k - 1) (by omega)) (steep_nn h hs.u (k := k) (by omega))
        exact slope_mid kind px cx _ (k - 1) k _ _ _ a0 b0 al bl _ w (by omega) (by omega) hh hT (fun wx hb => H.out wx hb (k - 1) (by omega)) (fun wx hb => H.out wx hb k (by omega))
end Go.Proofs.YtcmbfflemoccmaaGreat
