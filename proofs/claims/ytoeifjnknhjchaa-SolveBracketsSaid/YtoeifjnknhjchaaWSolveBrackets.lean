/- The walk of SolveBrackets: what is found is where the signs change. -/
import Derived.Test.YtoeifjnknhjchaaVAw
import Derived.Test.YtoeifjnknhjchaaVZero
import Derived.Test.YtoeifjnknhjchaaVJump
import Derived.Test.YtoeifjnknhjchaaFSub
namespace Go.Proofs.Ytoeifjnknhjchaa
open Go.RowKit

set_option maxRecDepth 20000 in
set_option maxHeartbeats 800000 in
theorem brackets_great (p : Option Addr) (n c lo hi : Nat) (w : World) (hn : 20 < n) (hn2 : n ≤ 9223372036854775807) :
    Calls Try.prog 4 #[.slice p n c, .float .f64 lo, .float .f64 hi] w fun e w' => e = .returned (.bool true) ∧ Below w.heap.size w w' := by
  go_enter Try.func4, Try.ntmps4
  go_wp2_with fail
  refine (awake12 _).mono ?_
  rintro e w3 ⟨rfl, hb⟩
  have B3 := hideS hb
  clear hb
  go_wp2_with fail
  go_ret
  exact ⟨rfl, B3.out⟩

set_option maxRecDepth 20000 in
set_option maxHeartbeats 1600000 in
theorem brackets_bad (p : Option Addr) (n c lo hi : Nat) (w : World) (hn : n ≤ 20) (hl : U64 (lo : Int)) (hh : U64 (hi : Int)) (hE : endB lo hi = false)
    (HP : Hid (Calls Try.prog 9 #[.slice p n c, .float .f64 lo, .float .f64 hi] w fun e w' => e = .returned (.tuple #[.float .f64 0, .int .i64 0, .int .i64 1]) ∧ Below w.heap.size w w')) :
    Calls Try.prog 4 #[.slice p n c, .float .f64 lo, .float .f64 hi] w fun e w' => e = .returned (.bool true) ∧ Below w.heap.size w w' := by
  have o0 : (FloatKind.f64.format.order 0 0 != some .eq) = false := by decide
  have o3 : (FloatKind.f64.format.order 0 0 == some .eq) = true := by decide
  cases o1 : (FloatKind.f64.format.order lo hi == some .lt) with
  | false =>
    clear hl hh hE o3
    go_enter Try.func4, Try.ntmps4
    go_wp2_with fail
    refine HP.out.mono ?_
    rintro e w1 ⟨rfl, hb1⟩
    have HB1 := hideS hb1
    clear hb1
    go_wp2_with fail
    refine (awake12 _).mono ?_
    rintro e w5 ⟨rfl, hb5⟩
    have HB5 := hideS (HB1.out.trans (hb5.mono HB1.out.size))
    clear hb5
    go_wp2_with fail
    go_ret
    exact ⟨rfl, HB5.out⟩
  | true =>
    have hlt := o1
    rw [lt_ltB hl hh] at hlt
    unfold ltB at hlt
    rw [Bool.and_eq_true, Bool.and_eq_true] at hlt
    have hd := hlt.2
    unfold endB at hE
    rw [hd, Bool.and_true] at hE
    by_cases h1 : NumB lo
    · have h2 : ¬ NumB hi := fun h => by rw [fin_numB.2 h1, fin_numB.2 h] at hE; simp at hE
      have r1 := fun w => run_float_arith (P := Try.prog) w .sub 23 .f64 _ _ _ (sub_self h1)
      have r2 := run_arith_nan (P := Try.prog) .sub (by simp) 23 hi hi (sub_inf (by have := hh.2; omega) h2)
      have o2 : ∀ z, (FloatKind.f64.format.order (nanAns hi hi z) 0 == some .eq) = false := fun z => by rw [order_nan_left (nanAns_nan hi hi z).1]; rfl
      clear hlt hd hE h1 h2 hl hh
      go_enter Try.func4, Try.ntmps4
      go_wp2_with fail
      refine HP.out.mono ?_
      rintro e w1 ⟨rfl, hb1⟩
      have HB1 := hideS hb1
      clear hb1
      go_wp2_with fail
      refine (awake12 _).mono ?_
      rintro e w5 ⟨rfl, hb5⟩
      have HB5 := hideS (HB1.out.drew.trans (hb5.mono HB1.out.size))
      clear hb5
      go_wp2_with fail
      go_ret
      exact ⟨rfl, HB5.out⟩
    · have r2 := run_arith_nan (P := Try.prog) .sub (by simp) 23 lo lo (sub_inf (by have := hl.2; omega) h1)
      have o2 : ∀ z, (FloatKind.f64.format.order (nanAns lo lo z) 0 == some .eq) = false := fun z => by rw [order_nan_left (nanAns_nan lo lo z).1]; rfl
      clear hlt hd hE h1 hl hh
      go_enter Try.func4, Try.ntmps4
      go_wp2_with fail
      refine HP.out.mono ?_
      rintro e w1 ⟨rfl, hb1⟩
      have HB1 := hideS hb1
      clear hb1
      go_wp2_with fail
      refine (awake12 _).mono ?_
      rintro e w5 ⟨rfl, hb5⟩
      have HB5 := hideS (HB1.out.drew.trans (hb5.mono HB1.out.size))
      clear hb5
      go_wp2_with fail
      go_ret
      exact ⟨rfl, HB5.out⟩

/-- A word against 0, by its rank. -/
theorem zero_ord {v : Nat} {y : Int} (hv : U64 (v : Int)) (h : rkO v = some y) : (FloatKind.f64.format.order v 0 == some .eq) = decide (y = 0) ∧ (FloatKind.f64.format.order v 0 == some .gt) = decide (0 < y) ∧ (FloatKind.f64.format.order v 0 == some .lt) = decide (y < 0) := by
  obtain ⟨hn, rfl⟩ := rkO_some h
  have e0 : rankI ((0 : Nat) : Int) = 0 := by decide
  refine ⟨?_, ?_, ?_⟩
  · rw [eq_rank (b := 0) hv (by unfold U64; omega) hn (by decide), e0]
  · rw [gt_rank (b := 0) hv (by unfold U64; omega) hn (by decide), e0]
  · rw [lt_rank (b := 0) hv (by unfold U64; omega) hn (by decide), e0]
/-- What Horner's calls tell there. -/
def HornC (p : Option Addr) (n c : Nat) (F : Nat → Option Int) (w : World) : Prop :=
  ∀ (x : Nat) (w1 : World), Below w.heap.size w w1 → Calls Try.prog 14 #[.slice p n c, .float .f64 x] w1 fun e w' => ∃ v : Nat, e = .returned (.float .f64 v) ∧ U64 (v : Int) ∧ rkO v = F x ∧ Below w.heap.size w w'

set_option maxRecDepth 20000 in
set_option maxHeartbeats 1600000 in
theorem brackets_val (p : Option Addr) (n c lo hi N : Nat) (F : Nat → Option Int) (w : World) (hn : n ≤ 20) (hN : N ≤ 66) (HC : Hid (HornC p n c F w))
    (HP : Hid (Calls Try.prog 9 #[.slice p n c, .float .f64 lo, .float .f64 hi] w fun e w' => e = .returned (.tuple #[.float .f64 0, .int .i64 N, .int .i64 91]) ∧ Below w.heap.size w w')) :
    Calls Try.prog 4 #[.slice p n c, .float .f64 lo, .float .f64 hi] w fun e w' => e = .returned (.bool true) ∧ Below w.heap.size w w' := by
  have o0 : (FloatKind.f64.format.order 0 0 != some .eq) = false := by decide
  go_enter Try.func4, Try.ntmps4
  go_wp2_with fail
  refine HP.out.mono ?_
  rintro e w1 ⟨rfl, hb1⟩
  have HB1 := hideS hb1
  clear hb1
  go_wp2_with fail
  refine (HC.out lo w1 HB1.out).mono ?_
  rintro e w2 ⟨a, rfl, _, _, hb2⟩
  have HB2 := hideS hb2
  clear hb2
  go_wp2_with fail
  refine (HC.out hi w2 HB2.out).mono ?_
  rintro e w3 ⟨b, rfl, _, _, hb3⟩
  have HB3 := hideS hb3
  clear hb3
  go_wp2_with fail
  refine (awake12 _).mono ?_
  rintro e w5 ⟨rfl, hb5⟩
  have HB5 := hideS (HB3.out.trans (hb5.mono HB3.out.size))
  clear hb5
  go_wp2_with fail
  go_ret
  exact ⟨rfl, HB5.out⟩

set_option maxRecDepth 20000 in
set_option maxHeartbeats 1600000 in
theorem brackets_brk (p : Option Addr) (n c lo hi N : Nat) (ya yb : Int) (F : Nat → Option Int) (w : World) (hn : n ≤ 20) (hN : N ≤ 66) (HC : Hid (HornC p n c F w)) (hya : F lo = some ya) (hyb : F hi = some yb) (a0 : ya ≠ 0) (b0 : yb ≠ 0) (hu : upB ya = upB yb)
    (HP : Hid (Calls Try.prog 9 #[.slice p n c, .float .f64 lo, .float .f64 hi] w fun e w' => e = .returned (.tuple #[.float .f64 0, .int .i64 N, .int .i64 120]) ∧ Below w.heap.size w w')) :
    Calls Try.prog 4 #[.slice p n c, .float .f64 lo, .float .f64 hi] w fun e w' => e = .returned (.bool true) ∧ Below w.heap.size w w' := by
  have o0 : (FloatKind.f64.format.order 0 0 != some .eq) = false := by decide
  have HF := hideS (And.intro hya hyb)
  have hs : (0 < ya ∧ 0 < yb) ∨ (¬ 0 < ya ∧ ¬ 0 < yb ∧ ya < 0 ∧ yb < 0) := by
    unfold upB at hu
    have hu' := decide_eq_decide.1 hu
    omega
  have HS := hideS hs
  clear hya hyb a0 b0 hu hs
  go_enter Try.func4, Try.ntmps4
  go_wp2_with fail
  refine HP.out.mono ?_
  rintro e w1 ⟨rfl, hb1⟩
  have HB1 := hideS hb1
  clear hb1
  go_wp2_with fail
  refine (HC.out lo w1 HB1.out).mono ?_
  rintro e w2 ⟨a, rfl, ha1, ha2, hb2⟩
  have HB2 := hideS hb2
  obtain ⟨_, g1, l1⟩ := zero_ord ha1 (ha2.trans HF.out.1)
  clear hb2 ha1 ha2
  go_wp2_with fail
  refine (HC.out hi w2 HB2.out).mono ?_
  rintro e w3 ⟨b, rfl, hc1, hc2, hb3⟩
  have HB3 := hideS hb3
  obtain ⟨_, g2, l2⟩ := zero_ord hc1 (hc2.trans HF.out.2)
  clear hb3 hc1 hc2
  rcases HS.out with ⟨s1, s2⟩ | ⟨s1, s2, s3, s4⟩
  · rw [decide_eq_true s1] at g1
    rw [decide_eq_true s2] at g2
    clear s1 s2 l1 l2 HS
    go_wp2_with fail
    refine (awake12 _).mono ?_
    rintro e w5 ⟨rfl, hb5⟩
    have HB5 := hideS (HB3.out.trans (hb5.mono HB3.out.size))
    clear hb5
    go_wp2_with fail
    go_ret
    exact ⟨rfl, HB5.out⟩
  · rw [decide_eq_false (show ¬ 0 < ya by omega)] at g1
    rw [decide_eq_false (show ¬ 0 < yb by omega)] at g2
    rw [decide_eq_true s3] at l1
    rw [decide_eq_true s4] at l2
    clear s1 s2 s3 s4 HS
    go_wp2_with fail
    refine (awake12 _).mono ?_
    rintro e w5 ⟨rfl, hb5⟩
    have HB5 := hideS (HB3.out.trans (hb5.mono HB3.out.size))
    clear hb5
    go_wp2_with fail
    go_ret
    exact ⟨rfl, HB5.out⟩

set_option maxRecDepth 20000 in
set_option maxHeartbeats 1600000 in
theorem brackets_zero (p : Option Addr) (n c lo hi X N : Nat) (x : Int) (F : Nat → Option Int) (w : World) (hn : n ≤ 20) (hN : N ≤ 66) (HC : Hid (HornC p n c F w)) (hl : U64 (lo : Int)) (hh : U64 (hi : Int)) (hE : endB lo hi = true) (g : Gd X x) (h1 : rankI (lo : Int) ≤ x) (h2 : x ≤ rankI (hi : Int)) (hF : F X = some 0)
    (HP : Hid (Calls Try.prog 9 #[.slice p n c, .float .f64 lo, .float .f64 hi] w fun e w' => e = .returned (.tuple #[.float .f64 X, .int .i64 N, .int .i64 0]) ∧ Below w.heap.size w w')) :
    Calls Try.prog 4 #[.slice p n c, .float .f64 lo, .float .f64 hi] w fun e w' => e = .returned (.bool true) ∧ Below w.heap.size w w' := by
  obtain ⟨gl, gh, hlt⟩ := endB_gd hl hh hE
  have o1 := leq_rank hl g.u gl.n g.n
  have o2 := leq_rank g.u hh g.n gh.n
  rw [g.e, decide_eq_true h1] at o1
  rw [g.e, decide_eq_true h2] at o2
  have HF := hideS hF
  clear hl hh hE g h1 h2 hF gl gh hlt
  go_enter Try.func4, Try.ntmps4
  go_wp2_with fail
  refine HP.out.mono ?_
  rintro e w1 ⟨rfl, hb1⟩
  have HB1 := hideS hb1
  clear hb1
  go_wp2_with fail
  refine (HC.out lo w1 HB1.out).mono ?_
  rintro e w2 ⟨a, rfl, _, _, hb2⟩
  have HB2 := hideS hb2
  clear hb2
  go_wp2_with fail
  refine (HC.out hi w2 HB2.out).mono ?_
  rintro e w3 ⟨b, rfl, _, _, hb3⟩
  have HB3 := hideS hb3
  clear hb3
  go_wp2_with fail
  refine (HC.out X w3 HB3.out).mono ?_
  rintro e w4 ⟨v, rfl, hv1, hv2, hb4⟩
  have HB4 := hideS hb4
  obtain ⟨g0, _, _⟩ := zero_ord hv1 (hv2.trans HF.out)
  rw [decide_eq_true rfl] at g0
  clear hb4 hv1 hv2
  go_wp2_with fail
  refine (awake12 _).mono ?_
  rintro e w5 ⟨rfl, hb5⟩
  have HB5 := hideS (HB4.out.trans (hb5.mono HB4.out.size))
  clear hb5
  go_wp2_with fail
  go_ret
  exact ⟨rfl, HB5.out⟩

set_option maxRecDepth 20000 in
set_option maxHeartbeats 1600000 in
theorem brackets_sgn (p : Option Addr) (n c lo hi X N : Nat) (x y : Int) (F : Nat → Option Int) (w : World) (hn : n ≤ 20) (hN : N ≤ 66) (HC : Hid (HornC p n c F w)) (hl : U64 (lo : Int)) (hh : U64 (hi : Int)) (hE : endB lo hi = true) (g : Gd X x) (h1 : rankI (lo : Int) ≤ x) (h2 : x + 1 ≤ rankI (hi : Int)) (hF : F X = some y) (y0 : y ≠ 0) (hU : ∀ c, Gd c (x + 1) → ∃ z, F c = some z ∧ z ≠ 0 ∧ ¬ upB z = upB y)
    (HP : Hid (Calls Try.prog 9 #[.slice p n c, .float .f64 lo, .float .f64 hi] w fun e w' => e = .returned (.tuple #[.float .f64 X, .int .i64 N, .int .i64 0]) ∧ Below w.heap.size w w')) :
    Calls Try.prog 4 #[.slice p n c, .float .f64 lo, .float .f64 hi] w fun e w' => e = .returned (.bool true) ∧ Below w.heap.size w w' := by
  obtain ⟨gl, gh, hlt⟩ := endB_gd hl hh hE
  have o1 := leq_rank hl g.u gl.n g.n
  have o2 := leq_rank g.u hh g.n gh.n
  rw [g.e, decide_eq_true h1] at o1
  rw [g.e, decide_eq_true (show x ≤ rankI (hi : Int) by omega)] at o2
  have gU := up_gd g (by have := gh.hi; omega)
  have HUp := hideS fun w => up_as X (X : Int) w rfl g.u
  obtain ⟨U, hUe⟩ : ∃ U, (upI (X : Int) 1).toNat = U := ⟨_, rfl⟩
  rw [hUe] at gU HUp
  have o3 := leq_rank gU.u hh gU.n gh.n
  rw [gU.e, decide_eq_true h2] at o3
  obtain ⟨z, hz, z0, hzu⟩ := hU U gU
  have HF := hideS (And.intro hF hz)
  have hs : (0 < y ∧ z < 0 ∧ ¬ y = 0) ∨ (¬ 0 < y ∧ y < 0 ∧ 0 < z ∧ ¬ y = 0) := by
    unfold upB at hzu
    rw [decide_eq_decide] at hzu
    omega
  have HS := hideS hs
  clear hl hh hE g h1 h2 hF gl gh hlt hU gU hUe hz z0 hzu y0 hs
  go_enter Try.func4, Try.ntmps4
  go_wp2_with fail
  refine HP.out.mono ?_
  rintro e w1 ⟨rfl, hb1⟩
  have HB1 := hideS hb1
  clear hb1
  go_wp2_with fail
  refine (HC.out lo w1 HB1.out).mono ?_
  rintro e w2 ⟨a, rfl, _, _, hb2⟩
  have HB2 := hideS hb2
  clear hb2
  go_wp2_with fail
  refine (HC.out hi w2 HB2.out).mono ?_
  rintro e w3 ⟨b, rfl, _, _, hb3⟩
  have HB3 := hideS hb3
  clear hb3
  go_wp2_with fail
  refine (HC.out X w3 HB3.out).mono ?_
  rintro e w4 ⟨v, rfl, hv1, hv2, hb4⟩
  have HB4 := hideS hb4
  obtain ⟨g0, g1, g2⟩ := zero_ord hv1 (hv2.trans HF.out.1)
  clear hb4 hv1 hv2
  rcases HS.out with ⟨s1, s2, s3⟩ | ⟨s1, s2, s3, s4⟩
  · rw [decide_eq_false s3] at g0
    rw [decide_eq_true s1] at g1
    clear s1 s3 g2 HS
    go_wp2_with fail
    refine (HUp.out _).mono ?_
    rintro e w' ⟨rfl, rfl⟩
    go_wp2_with fail
    refine (HC.out U _ HB4.out).mono ?_
    rintro e w5 ⟨u, rfl, hu1, hu2, hb5⟩
    have HB5 := hideS hb5
    obtain ⟨_, _, k2⟩ := zero_ord hu1 (hu2.trans HF.out.2)
    rw [decide_eq_true s2] at k2
    clear hb5 hu1 hu2 s2
    go_wp2_with fail
    refine (awake12 _).mono ?_
    rintro e w6 ⟨rfl, hb6⟩
    have HB6 := hideS (HB5.out.trans (hb6.mono HB5.out.size))
    clear hb6
    go_wp2_with fail
    go_ret
    exact ⟨rfl, HB6.out⟩
  · rw [decide_eq_false s4] at g0
    rw [decide_eq_false (show ¬ 0 < y by omega)] at g1
    rw [decide_eq_true s2] at g2
    clear s1 s2 s4 HS
    go_wp2_with fail
    refine (HUp.out _).mono ?_
    rintro e w' ⟨rfl, rfl⟩
    go_wp2_with fail
    refine (HC.out U _ HB4.out).mono ?_
    rintro e w5 ⟨u, rfl, hu1, hu2, hb5⟩
    have HB5 := hideS hb5
    obtain ⟨_, k1, k2⟩ := zero_ord hu1 (hu2.trans HF.out.2)
    rw [decide_eq_true s3] at k1
    rw [decide_eq_false (show ¬ z < 0 by omega)] at k2
    clear hb5 hu1 hu2 s3
    go_wp2_with fail
    refine (awake12 _).mono ?_
    rintro e w6 ⟨rfl, hb6⟩
    have HB6 := hideS (HB5.out.trans (hb6.mono HB5.out.size))
    clear hb6
    go_wp2_with fail
    go_ret
    exact ⟨rfl, HB6.out⟩

theorem brackets_small (p : Option Addr) (b off n c lo hi : Nat) (cs : List Nat) (w : World) (hs : Src w p b off cs) (hf : FitL cs) (hl : U64 (lo : Int)) (hh : U64 (hi : Int)) (hN : cs.length = n) (hn : n ≤ 20) :
    Calls Try.prog 4 #[.slice p n c, .float .f64 lo, .float .f64 hi] w fun e w' => e = .returned (.bool true) ∧ Below w.heap.size w w' := by
  have hfew := askV_few (polyF cs) lo hi
  rcases hV : askV (polyF cs) lo hi with ⟨X, N, E⟩
  rw [hV] at hfew
  have hfew : N ≤ 66 := hfew
  have HP := hideS (poly_any p b off c n lo hi X N E cs w hs hN (by omega) (fun x q => hornO_lt hf q) hl hh hV)
  have HC : Hid (HornC p n c (polyF cs) w) := fun x w1 hb1 => (horner_any p b off c x n cs w1 (hs.below hb1) hN (by omega)).mono fun e w' ⟨v, h1, h2, q, h3⟩ => ⟨v, h1, ag_u64 h2 (fun q => hornO_lt hf q), ag_rk h2, by rw [h3]; exact below_drawn hb1 q⟩
  rcases brkP_of (fun g1 g2 => polyF_rank hf g1 g2) hl hh hV with ⟨hE, rfl, rfl, rfl⟩ | ⟨_, _, rfl, rfl⟩ | ⟨a, b', ha, hb, a0, b0, hu, rfl, rfl⟩ | ⟨x, hE, g, h1, h2, hF, rfl⟩ | ⟨x, v, hE, g, h1, h2, hF, v0, hU, rfl⟩
  · exact brackets_bad p n c lo hi w hn hl hh hE HP
  · exact brackets_val p n c lo hi N _ w hn hfew HC HP
  · exact brackets_brk p n c lo hi N a b' _ w hn hfew HC ha hb a0 b0 hu HP
  · exact brackets_zero p n c lo hi X N x _ w hn hfew HC hl hh hE g h1 h2 hF HP
  · exact brackets_sgn p n c lo hi X N x v _ w hn hfew HC hl hh hE g h1 h2 hF v0 hU HP
end Go.Proofs.Ytoeifjnknhjchaa
