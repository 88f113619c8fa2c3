/- The walk of AccGone. -/
import Derived.Test.YtejpplcccbiplaaAccP
namespace Go.Proofs.Ytejpplcccbiplaa
open Go.RowKit

/-- A number less itself is +0; else it is a NaN. -/
theorem sub_self_num {d : Nat} (h : d % 9223372036854775808 < 9218868437227405312) : floatBits .sub .f64 d d = some 0 := by
  rw [sub_num h h, Int.sub_self]
  unfold addR
  cases (d / 9223372036854775808 % 2 == 1) <;> rfl
theorem sub_self_no {d : Nat} (h : 9218868437227405312 ≤ d % 9223372036854775808) : FloatKind.f64.format.sub d d = none := by
  show ((Ieee.double.read d).sum (Ieee.double.read d).opposite).map Ieee.double.write = _
  by_cases h1 : d % 9223372036854775808 = 9218868437227405312
  · rw [read_inf h1]
    generalize (d / 9223372036854775808 % 2 == 1) = s
    cases s <;> rfl
  · obtain ⟨f, hf⟩ := read_nan (b := d) (by omega)
    rw [hf]; rfl
/-- The NaN that the tape gives. -/
def nanAns (x y : Nat) (w : World) : Nat := (Question.nanBits .f64 x y).cut (w.tape w.drawn (.nanBits .f64 x y))
theorem nanAns_nan (x y : Nat) (w : World) : nanB (nanAns x y w) = true := by
  unfold nanAns
  generalize w.tape w.drawn (.nanBits .f64 x y) = t
  show nanB (((t % 2) * 2 ^ 63 + 0x7ff0000000000000 + 1 + (t / 2) % (2 ^ 52 - 1) : Nat) : Int) = true
  have hp : t % 2 < 2 := by omega
  have hq : t / 2 % (2 ^ 52 - 1) < 4503599627370495 := Nat.mod_lt _ (by decide)
  generalize t % 2 = p at *
  generalize t / 2 % (2 ^ 52 - 1) = q at *
  unfold nanB szI
  rw [decide_eq_true_eq]
  omega
theorem run_sub_nan {P : Program} (t : TypeId) (x y : Nat) (h : FloatKind.f64.format.sub x y = none) (w : World) : (binOp .sub t (.float .f64 x) (.float .f64 y)).run P w = .ok (.float .f64 (nanAns x y w)) w.drew := by
  simp [binOp, Op.floatArith, h, Question.forced, nanAns]
theorem order_nanAns (x y z : Nat) (w : World) : FloatKind.f64.format.order (nanAns x y w) z = none := order_nan_left (nanAns_nan x y w)
theorem splOk_iff (b : Nat) : splOk (b : Int) = true ↔ b % 9223372036854775808 < 9218868437227405312 := by
  unfold splOk szI
  rw [decide_eq_true_eq]; omega

/-- A first Acc that goes on, and a second that is new still. -/
structure Two (w wr : World) (a : Nat) (va : Value) (L : Nat) (A : St) (b : Nat) : Prop where
  fst : AccAt wr w.heap.size a va L A
  snd : AccAt wr w.heap.size b (.slice none 0 0) 0 ⟨0, 0⟩
  apart : Apart a va b (.slice none 0 0)
  bl : Below w.heap.size w wr
  zero : A.s = 0
theorem Two.did {w wr w' : World} {a b : Nat} {va va' : Value} {L L' : Nat} {A A' : St} (h : Two w wr a va L A b) (hd : Did wr w' w.heap.size a va L' A' va') (hz : A'.s = 0) : Two w w' a va' L' A' b :=
  ⟨hd.acc, h.snd.apart h.apart hd, h.apart.step hd h.snd, h.bl.trans (hd.wrote.below (fun k hk => (h.fst.base k hk).1) h.bl.size), hz⟩
theorem Two.drewN {w wr : World} {a b : Nat} {va : Value} {L : Nat} {A : St} (h : Two w wr a va L A b) (n : Nat) : Two w (wr.drewN n) a va L A b :=
  ⟨h.fst.drewN n, h.snd.drewN n, h.apart, ⟨h.bl.os, h.bl.tape, h.bl.output, h.bl.size, h.bl.block⟩, h.zero⟩
theorem Two.mono {w wr : World} {a b : Nat} {va : Value} {L L' : Nat} {A : St} (h : Two w wr a va L A b) (hl : L ≤ L') : Two w wr a va L' A b := ⟨h.fst.mono hl, h.snd, h.apart, h.bl, h.zero⟩
theorem two_new {w w0 w1 : World} (a0 : AccAt w0 w.heap.size w.heap.size (.slice none 0 0) 0 ⟨0, 0⟩) (b0 : Below w.heap.size w w0) (a1 : AccAt w1 w.heap.size w0.heap.size (.slice none 0 0) 0 ⟨0, 0⟩) (b1 : Below w0.heap.size w0 w1) :
    Two w w1 w.heap.size (.slice none 0 0) 0 ⟨0, 0⟩ w0.heap.size := by
  have h0 := a0.lt
  refine ⟨a0.below b1, a1, ?_, b0.trans (b1.mono b0.size), rfl⟩
  rintro k (rfl | hk) (h2 | h2)
  · omega
  · cases h2
  · cases hk
  · cases hk
theorem merge_s {a d : St} (h : a.s = 0) (h' : d.s = 0) : (a.merge d).s = 0 := by unfold St.merge; show mt a.s d.s = 0; rw [h, h']; rfl

theorem gone_zero {A : St} (h : A.s = 0) : A.merge A.turn = ⟨0, 0⟩ := by
  unfold St.merge St.turn
  rw [h]
  apply st_ext
  · rfl
  · show (if mt 0 (if 0 = 1 then 2 else if 0 = 2 then 1 else 0) = 0 then A.N + -A.N else 0) = 0
    rw [if_pos (by rfl)]; omega
set_option maxRecDepth 100000 in
set_option maxHeartbeats 3200000 in
theorem gone_great (p p' : Option Addr) (n c m c' : Nat) (w : World) (h : 200 < n ∨ 200 < m) (hn : n ≤ 9223372036854775807) (hm : m ≤ 9223372036854775807) :
    Calls Try.prog 4 #[.slice p n c, .slice p' m c'] w fun e w' => e = .returned (.bool true) ∧ Below w.heap.size w w' := by
  have HNw := hideS (new_any w w.heap.size (Nat.le_refl _))
  have h5 : 200 < n ∨ (¬ 200 < n ∧ 200 < m) := by omega
  clear h
  rcases h5 with h5 | ⟨h5, h6⟩
  all_goals
    go_enter Try.func4, Try.ntmps4
    go_wp2_with fail
    refine HNw.out.mono ?_
    rintro e w0 ⟨rfl, a0, b0⟩
    have HN1 := hideS (new_any w0 w.heap.size b0.size)
    have B0 := hideS b0
    clear a0 b0 HNw
    go_wp2_with fail
    refine HN1.out.mono ?_
    rintro e w1 ⟨rfl, a1, b1⟩
    have B1 : Hid (Below w.heap.size w w1) := B0.out.trans (b1.mono B0.out.size)
    clear a1 b1 HN1 B0
    go_wp2_with fail
    refine (awake3 w1).mono ?_
    rintro e w2 ⟨rfl, hb⟩
    have B2 : Hid (Below w.heap.size w w2) := B1.out.trans (hb.mono B1.out.size)
    clear hb B1
    go_wp2_with fail
    go_ret
    exact ⟨rfl, B2.out⟩

set_option maxRecDepth 100000 in
set_option maxHeartbeats 6400000 in
theorem gone_small (p p' : Option Addr) (g off c g' off' c' : Nat) (xs ys : List Nat) (n m : Nat) (w : World) (hs : Src w p g off xs) (hs' : Src w p' g' off' ys) (hf : FitU xs) (hf' : FitU ys) (hx : xs.length = n) (hy : ys.length = m) (hn : n ≤ 200) (hm : m ≤ 200) :
    Calls Try.prog 4 #[.slice p n c, .slice p' m c'] w fun e w' => e = .returned (.bool true) ∧ Below w.heap.size w w' := by
  have HS := hideS (And.intro hs (And.intro hf hx))
  have HS' := hideS (And.intro hs' (And.intro hf' hy))
  have HNw := hideS (new_any w w.heap.size (Nat.le_refl _))
  clear hs hf hs' hf' hx hy
  have o00 : (FloatKind.f64.format.order 0 0 == some .eq) = true := by kernel_rfl
  go_enter Try.func4, Try.ntmps4
  go_wp2_with fail
  refine HNw.out.mono ?_
  rintro e w0 ⟨rfl, a0, b0⟩
  have HN1 := hideS (new_any w0 w.heap.size b0.size)
  have B0 := hideS (And.intro a0 b0)
  clear a0 b0 HNw
  go_wp2_with fail
  refine HN1.out.mono ?_
  rintro e w1 ⟨rfl, a1, b1⟩
  have T1 := hideS (two_new B0.out.1 B0.out.2 a1 b1)
  clear a1 b1 HN1 B0
  go_wp2_with fail
  go_loopw [7] (fun i wr => ∃ k : Nat, k ≤ n ∧ i = .int .i64 k ∧ Hid (∃ va A, Two w wr w.heap.size va (71 + 2 * k) A w0.heap.size)) (fun i _ => n - (intOf i).toNat)
  case atStart => exact ⟨0, Nat.zero_le _, rfl, ⟨_, _, T1.out.mono (by omega)⟩⟩
  case round =>
    clear T1
    obtain ⟨k, hk, rfl, HR⟩ := hrel
    by_cases hlt : k < n
    · obtain ⟨va, A, hr⟩ := HR.out
      have hx : k < xs.length := by rw [HS.out.2.2]; exact hlt
      obtain rfl := HS.out.1.at_ (by omega)
      have hcx : wr.cell? ⟨g, off + k, none⟩ = some (.float .f64 (xs.getD k 0)) := (hr.bl.cell (p := ⟨g, off + k, none⟩) (HS.out.1.lt (by omega))).trans (HS.out.1.cell k hx)
      have HU := HS.out.2.1.get hx
      have hcx0 := HS.out.1.cell k hx
      have hglt := HS.out.1.lt (by omega)
      generalize xs.getD k 0 = x at hcx HU hcx0
      by_cases hnum : x % 9223372036854775808 < 9218868437227405312
      · have hsub := fun w => run_float_arith (P := Try.prog) w .sub 29 .f64 x x 0 (sub_self_num hnum)
        have T := hideS hr
        clear hr HR
        go_wp2_with fail
        go_region
        have HAd := hideS (add_any w.heap.size w.heap.size va (71 + 2 * k) _ x x (wr.drewN 1) (T.out.fst.drewN 1) T.out.bl.size rfl HU (by omega))
        have T2 := hideS (T.out.drewN 1)
        clear T hsub
        go_wp2_with fail
        refine HAd.out.mono ?_
        rintro e w2 ⟨rfl, v2, hd⟩
        clear hcx
        have hok : splOk (x : Int) = true := (splOk_iff x).2 hnum
        have T3 := hideS (T2.out.did hd (merge_s T2.out.zero (by unfold oneS; rw [hok]; rfl)))
        clear hd HAd T2
        generalize A.merge (oneS (x : Int)) = A2 at T3
        have hcx2 : w2.cell? ⟨g, off + k, none⟩ = some (.float .f64 x) := (T3.out.bl.cell (p := ⟨g, off + k, none⟩) hglt).trans hcx0
        by_cases hkm : k < m
        · have hy : k < ys.length := by rw [HS'.out.2.2]; exact hkm
          obtain rfl := HS'.out.1.at_ (by omega)
          have hcy : w2.cell? ⟨g', off' + k, none⟩ = some (.float .f64 (ys.getD k 0)) := (T3.out.bl.cell (p := ⟨g', off' + k, none⟩) (HS'.out.1.lt (by omega))).trans (HS'.out.1.cell k hy)
          have HU' := HS'.out.2.1.get hy
          generalize ys.getD k 0 = y at hcy HU'
          by_cases hnum' : y % 9223372036854775808 < 9218868437227405312
          · have hsub := fun w => run_float_arith (P := Try.prog) w .sub 29 .f64 y y 0 (sub_self_num hnum')
            have HPr := hideS (fun w3 (h3 : AccAt w3 w.heap.size w.heap.size v2 (max (71 + 2 * k) 70 + 1) A2) (h4 : w.heap.size ≤ w3.heap.size) => prod_any w.heap.size w.heap.size v2 (max (71 + 2 * k) 70 + 1) A2 x y x y w3 h3 h4 rfl HU rfl HU' hok ((splOk_iff y).2 hnum') (by omega))
            go_wp2_with fail
            go_region
            all_goals
              go_wp2_with fail
              go_region_with ((go_at_call 16; refine (HPr.out _ (T3.out.fst.drewN 2) T3.out.bl.size).mono ?_; rintro e w3 ⟨rfl, v3, hd3⟩))
              all_goals
                have T4 := hideS ((T3.out.drewN 2).did hd3 (merge_s T3.out.zero rfl))
                clear hd3
                go_wp2_with fail
                go_roundw
                case rel => exact ⟨k + 1, by omega, by simp, ⟨_, _, T4.out.mono (by omega)⟩⟩
                case measure => simp [intOf]; omega
          · have hsub := run_sub_nan (P := Try.prog) 29 y y (sub_self_no (by omega))
            have hord := fun w => order_nanAns y y 0 w
            go_wp2_with fail
            go_region
            all_goals
              go_wp2_with fail
              go_roundw
              case rel => exact ⟨k + 1, by omega, by simp, ⟨_, _, (T3.out.drewN 2).mono (by omega)⟩⟩
              case measure => simp [intOf]; omega
        · go_wp2_with fail
          go_region
          all_goals
            go_wp2_with fail
            go_roundw
            case rel => exact ⟨k + 1, by omega, by simp, ⟨_, _, (T3.out.drewN 1).mono (by omega)⟩⟩
            case measure => simp [intOf]; omega
      · have hsub := run_sub_nan (P := Try.prog) 29 x x (sub_self_no (by omega))
        have hord := fun w => order_nanAns x x 0 w
        have T := hideS hr
        clear hr HR
        go_wp2_with fail
        go_region
        all_goals
          go_wp2_with fail
          refine (awake3 _).mono ?_
          rintro e w3 ⟨rfl, hb⟩
          have B3 : Hid (Below w.heap.size w w3) := (T.out.drewN 2).bl.trans (hb.mono T.out.bl.size)
          clear hb
          go_wp2_with fail
          go_ret
          exact ⟨rfl, B3.out⟩
    · obtain rfl : k = n := by omega
      obtain ⟨va, A, hr⟩ := HR.out
      have T := hideS hr
      have HCo := hideS (copy_any w.heap.size w.heap.size va (71 + 2 * k) A wr hr.fst hr.bl.size (by omega))
      clear hr HR
      go_wp2_with fail
      refine HCo.out.mono ?_
      rintro e w2 ⟨cc, vc, rfl, ac, fc, bc⟩
      have hT2 : Two w w2 w.heap.size va (71 + 2 * k) A w0.heap.size := ⟨T.out.fst.below bc, T.out.snd.below bc, T.out.apart, T.out.bl.trans (bc.mono T.out.bl.size), T.out.zero⟩
      have hap : Apart w.heap.size va cc vc := fun j h1 h2 => by have := (T.out.fst.base j h1).2; have := fc j h2; omega
      have hap2 : Apart cc vc w0.heap.size (.slice none 0 0) := fun j h1 h2 => by have := (T.out.snd.base j h2).2; have := fc j h1; omega
      have HTu := hideS (turn_any w.heap.size cc vc (71 + 2 * k) A w2 ac (by have := hT2.bl.size; omega) (by omega))
      have T2 := hideS (And.intro hT2 (And.intro hap (And.intro hap2 ac)))
      clear hT2 hap hap2 ac fc bc HCo T
      go_wp2_with fail
      refine HTu.out.mono ?_
      rintro e w3 ⟨rfl, vc2, hd⟩
      have hA3 := T2.out.1.fst.apart T2.out.2.1.symm hd
      have hB3 := T2.out.1.snd.apart T2.out.2.2.1 hd
      have hap3 : Apart w.heap.size va cc vc2 := (T2.out.2.1.symm.step hd T2.out.1.fst).symm
      have hbl3 : Below w.heap.size w w3 := T2.out.1.bl.trans (hd.wrote.below (fun j hj => (T2.out.2.2.2.base j hj).1) T2.out.1.bl.size)
      have HMe := hideS (merge_any w.heap.size w.heap.size cc va vc2 (71 + 2 * k) (71 + 2 * k + 1) A A.turn w3 hA3 hd.acc hap3 hbl3.size (by omega) (by omega))
      have hT3 : Two w w3 w.heap.size va (71 + 2 * k) A w0.heap.size := ⟨hA3, hB3, T2.out.1.apart, hbl3, T2.out.1.zero⟩
      have T3 := hideS hT3
      clear hd hA3 hB3 hap3 hbl3 hT3 HTu T2
      go_wp2_with fail
      refine HMe.out.mono ?_
      rintro e w4 ⟨rfl, v4, hd⟩
      have hz : A.merge A.turn = ⟨0, 0⟩ := gone_zero T3.out.zero
      rw [hz] at hd
      have T4 := hideS (T3.out.did hd rfl)
      clear hd hz HMe T3
      have HSi := hideS (signA_any w.heap.size w.heap.size v4 _ _ w4 T4.out.fst (by omega))
      have HSa := hideS (sameA_any w.heap.size w.heap.size w.heap.size w0.heap.size v4 _ _ 0 _ _ w4 T4.out.fst T4.out.snd (by omega) (by omega))
      rw [show sgSt ⟨0, 0⟩ = 0 from rfl] at HSi
      rw [show sameSt ⟨0, 0⟩ ⟨0, 0⟩ = true from rfl] at HSa
      have HVa := hideS (fun q => value_any w.heap.size w.heap.size v4 _ _ (w4.drewN q) (T4.out.fst.drewN q) T4.out.bl.size (by omega))
      rw [show valSt ⟨0, 0⟩ = 0 from rfl] at HVa
      have B4 := hideS T4.out.bl
      clear T4
      go_wp2_with fail
      refine (turned HSi.out).mono ?_
      rintro e w5 ⟨rfl, rfl⟩
      go_wp2_with fail
      refine HSa.out.mono ?_
      rintro e w5 ⟨rfl, q, rfl⟩
      go_wp2_with fail
      refine (HVa.out q).mono ?_
      rintro e w6 ⟨rfl, hb⟩
      have B6 : Hid (Below w.heap.size w w6) := by
        have h1 : Below w.heap.size w (w4.drewN q) := ⟨B4.out.os, B4.out.tape, B4.out.output, B4.out.size, B4.out.block⟩
        exact h1.trans (hb.mono B4.out.size)
      clear hb B4 HSi HSa HVa
      go_wp2_with (go_at_call 20; refine (turned (bits_any _ _)).mono ?_; rintro e w' ⟨rfl, rfl⟩)
      refine (awake3 _).mono ?_
      rintro e w7 ⟨rfl, hb⟩
      have B7 : Hid (Below w.heap.size w w7) := B6.out.trans (hb.mono B6.out.size)
      clear hb
      go_wp2_with fail
      go_ret
      exact ⟨rfl, B7.out⟩
end Go.Proofs.Ytejpplcccbiplaa
