/- The walk of AccSums: any two lists of floats. -/
import Derived.Test.YtdmldggjgaaliaaGreatListE
import Derived.Test.YtdmldggjgaaliaaGreatRefAcc6
import Derived.Test.YtdmldggjgaaliaaGreatAccP
namespace Go.Proofs.YtdmldggjgaaliaaGreat
open Go.RowKit

theorem isA (a : Nat) (u : Int) (w : World) (h : Hid (U64 a)) (h' : Hid (U64 u)) (hs : Hid (sameB (a : Int) u = true)) :
    Calls Tryz.prog 8 #[.float .f64 a, .int .u64 u] w fun e w' => e = .returned (.bool true) ∧ w = w' := by
  have := is_any a u w h.out h'.out
  rw [hs.out] at this
  exact this.mono fun _ _ ⟨a, b⟩ => ⟨a, b.symm⟩
theorem below_dr2 {B : Nat} {w w1 w2 : World} (hb : Below B w w1) (h : ∃ q, w2 = w1.drewN q) : Below B w w2 := by
  obtain ⟨q, rfl⟩ := h
  exact ⟨hb.os, hb.tape, hb.output, hb.size, hb.block⟩
theorem ag_lt {o : Option Nat} {r : Nat} (h : Ag o r) (ho : cn o < 18446744073709551616) : r < 18446744073709551616 := by
  cases o with
  | none => exact (ag_none h).2
  | some q => rw [ag_some h]; exact ho
theorem valF_lt (N : Int) : valF N < 18446744073709551616 := by
  unfold valF joinN
  have := nearR_le N.natAbs (-2148)
  split
  · decide
  · split <;> omega
theorem valSt_lt (a : A.St) : A.valSt a < 18446744073709551616 := by
  unfold A.valSt
  split
  · exact valF_lt _
  · split
    · decide
    · split <;> decide
theorem own_cap {w : World} {B n : Nat} {v : Value} {xs : List Nat} (h : OwnF w B 29 uV v xs) (hN : xs.length = n) : ∀ p l c, v = .slice p l c → n ≤ c ∧ c ≤ 9223372036854775807 := by
  intro p l c hv
  rcases h.own.2 with ⟨hv', hn⟩ | ⟨g, cap, cur, hv', hb, hg, hc1, hc2, _⟩
  · rw [hv'] at hv
    cases hv
    omega
  · rw [hv'] at hv
    cases hv
    unfold maxLen at hc2
    omega
theorem srcA {w : World} {p : Option Addr} {b off : Nat} {xs : List Nat} (h : Src w p b off xs) : A.Src w p b off xs := ⟨h.at_, h.lt, h.cell⟩

/-- Both answers for Dot. -/
theorem dot_both (p p' : Option Addr) (g off c g' off' c' n m : Nat) (xs ys : List Nat) (hf : FitL xs) (hf' : FitL ys) (hx : xs.length = n) (hy : ys.length = m) (hn : n ≤ 100) :
    ∃ (d : Nat) (q : Bool), d < 18446744073709551616 ∧
      (∀ w, Src w p g off xs → Src w p' g' off' ys → Calls Tryz.prog 6 #[.slice p n c, .slice p' m c'] w fun e w' => e = .returned (.tuple #[.float .f64 d, .bool q]) ∧ Below w.heap.size w w') ∧
      (∀ w B0 B1 v v2, OwnF w B0 29 uV v xs → OwnF w B1 29 uV v2 ys → Calls Tryz.prog 7 #[v, v2] w fun e w' => e = .returned (.tuple #[.int .u64 (d : Int), .bool q]) ∧ Below w.heap.size w w') := by
  by_cases hnm : n = m
  · subst hnm
    exact ⟨_, true, valSt_lt (A.dotG xs ys n), fun w h h' => A.dot_gen p p' g off c g' off' c' n xs ys w (srcA h) (srcA h') hf hf' hx hy (by omega), fun w B0 B1 v v2 h h' => refDot_any B0 B1 n v v2 xs ys w h h' hf hf' hx hy (by omega)⟩
  · refine ⟨0, false, by decide, fun w _ _ => (A.dot_apart p p' c c' n m w hnm).mono fun _ _ ⟨a, b⟩ => ⟨a, by rw [b]; exact Below.refl _ _⟩, fun w B0 B1 v v2 h h' => ?_⟩
    obtain ⟨q, _, k, rfl, _, _⟩ := h.shape
    obtain ⟨q', _, k', rfl, _, _⟩ := h'.shape
    rw [hx, hy]
    exact (refDot_apart q q' k k' n m w hnm).mono fun _ _ ⟨a, b⟩ => ⟨a, by rw [b]; exact Below.refl _ _⟩

set_option maxRecDepth 20000 in
set_option maxHeartbeats 1600000 in
theorem sums_great (p p' : Option Addr) (n c m c' : Nat) (w : World) (hn : 100 < n ∨ 100 < m) (hn2 : n ≤ 9223372036854775807) (hm2 : m ≤ 9223372036854775807) :
    Calls Tryz.prog 3 #[.slice p n c, .slice p' m c'] w fun e w' => e = .returned (.bool true) ∧ Below w.heap.size w w' := by
  by_cases h1 : 100 < n
  · clear hn
    go_enter Tryz.func3, Tryz.ntmps3
    go_wp2_with fail
    refine (A.awake3 _).mono ?_
    rintro e w3 ⟨rfl, hb⟩
    have B3 := hideS hb
    clear hb
    go_wp2_with fail
    go_ret
    exact ⟨rfl, B3.out⟩
  · have h2 : 100 < m := by omega
    clear hn
    go_enter Tryz.func3, Tryz.ntmps3
    go_wp2_with fail
    refine (A.awake3 _).mono ?_
    rintro e w3 ⟨rfl, hb⟩
    have B3 := hideS hb
    clear hb
    go_wp2_with fail
    go_ret
    exact ⟨rfl, B3.out⟩

/-- All that stands between two calls. -/
structure Mid (w wr : World) (p p' : Option Addr) (g off g' off' B0 B1 : Nat) (v v2 : Value) (xs ys : List Nat) : Prop where
  sx : Src wr p g off xs
  sy : Src wr p' g' off' ys
  ox : OwnF wr B0 29 uV v xs
  oy : OwnF wr B1 29 uV v2 ys
  bl : Below w.heap.size w wr
theorem Mid.next {w wr wr' : World} {p p' : Option Addr} {g off g' off' B0 B1 : Nat} {v v2 : Value} {xs ys : List Nat} (h : Mid w wr p p' g off g' off' B0 B1 v v2 xs ys) (hb : Below wr.heap.size wr wr') : Mid w wr' p p' g off g' off' B0 B1 v v2 xs ys :=
  ⟨h.sx.below hb, h.sy.below hb, h.ox.below hb, h.oy.below hb, h.bl.trans (hb.mono h.bl.size)⟩
theorem Mid.drawn {w wr wr' : World} {p p' : Option Addr} {g off g' off' B0 B1 : Nat} {v v2 : Value} {xs ys : List Nat} (h : Mid w wr p p' g off g' off' B0 B1 v v2 xs ys) (hq : ∃ q, wr' = wr.drewN q) : Mid w wr' p p' g off g' off' B0 B1 v v2 xs ys :=
  h.next (below_dr2 (Below.refl _ _) hq)

/-- Both answers, and Is. -/
theorem is_both {o : Option Nat} {r : Nat} {z : Int} (h : Ag o r) (ho : cn o < 18446744073709551616) (hz : z = (cn o : Int)) (w : World) :
    Calls Tryz.prog 8 #[.float .f64 r, .int .u64 z] w fun e w' => e = .returned (.bool true) ∧ w = w' := by
  subst hz
  exact isA r _ w (u64_of_nat (ag_lt h ho)) (u64_of_nat ho) (ag_same h)

set_option maxRecDepth 20000 in
set_option maxHeartbeats 3200000 in
theorem sums_small (p p' : Option Addr) (g off n c g' off' m c' : Nat) (xs ys : List Nat) (w : World) (hs : Src w p g off xs) (hs' : Src w p' g' off' ys) (hf : FitL xs) (hf' : FitL ys) (hx : xs.length = n) (hy : ys.length = m) (hn : n ≤ 100) (hm : m ≤ 100) (hc : n ≤ c) (hc63 : c ≤ 9223372036854775807) :
    Calls Tryz.prog 3 #[.slice p n c, .slice p' m c'] w fun e w' => e = .returned (.bool true) ∧ Below w.heap.size w w' := by
  obtain ⟨d, q, hd, hD1, hD2⟩ := dot_both p p' g off c g' off' c' n m xs ys hf hf' hx hy hn
  obtain ⟨di, hdi⟩ : ∃ di : Int, di = (d : Int) := ⟨_, rfl⟩
  rw [← hdi] at hD2
  have HD1 := hideS hD1
  have HD2 := hideS hD2
  have HS := hideS (And.intro hs hs')
  have HF := hideS (And.intro hf hf')
  have HN := hideS (And.intro hx hy)
  have HC := hideS (And.intro hc hc63)
  have HIsD := hideS fun w => is_both (o := some d) (r := d) rfl hd hdi w
  have HBt := hideS (bitsL_any p g off c n xs w hs hx (by omega))
  clear hs hs' hf hf' hx hy hD1 hD2 hd hdi hc hc63
  go_enter Tryz.func3, Tryz.ntmps3
  go_wp2_with fail
  refine HBt.out.mono ?_
  rintro e w1 ⟨v, rfl, hO, hb1⟩
  have HO1 := hideS hO
  have HB1 := hideS hb1
  clear hO hb1 HBt
  have HBt := hideS (bitsL_any p' g' off' c' m ys w1 (HS.out.2.below HB1.out) HN.out.2 (by omega))
  go_wp2_with fail
  refine HBt.out.mono ?_
  rintro e w2 ⟨v2, rfl, hO, hb2⟩
  obtain ⟨BB, hBB⟩ : ∃ BB, BB = w1.heap.size := ⟨_, rfl⟩
  have HM2 : Hid (Mid w w2 p p' g off g' off' w.heap.size BB v v2 xs ys) := by
    subst hBB
    exact ⟨(HS.out.1.below HB1.out).below hb2, (HS.out.2.below HB1.out).below hb2, HO1.out.below hb2, hO, HB1.out.trans (hb2.mono HB1.out.size)⟩
  clear hO hb2 HBt HO1 HB1 HS hBB
  have HX := hideS (HD1.out w2 HM2.out.sx HM2.out.sy)
  go_wp2_with fail
  refine HX.out.mono ?_
  rintro e w3 ⟨rfl, hb3⟩
  have HM3 := hideS (HM2.out.next hb3)
  clear HX HM2 hb3 HD1
  have HX := hideS (HD2.out w3 _ _ _ _ HM3.out.ox HM3.out.oy)
  go_wp2_with fail
  refine HX.out.mono ?_
  rintro e w4 ⟨rfl, hb4⟩
  have HM4 := hideS (HM3.out.next hb4)
  clear HX HM3 hb4 HD2
  have hqq : (q == q) = true := by cases q <;> rfl
  go_wp2_with fail
  refine (HIsD.out _).mono ?_
  rintro e w' ⟨rfl, rfl⟩
  clear HIsD
  have HX : Hid (Calls Tryz.prog 9 #[.slice p n c] w4 fun e w' => e = .returned (.float .f64 (A.valSt (A.sumS xs))) ∧ Below w4.heap.size w4 w') := by
    have := A.sum_any p g off c xs w4 (srcA HM4.out.sx) HF.out.1 (by rw [HN.out.1]; omega)
    rw [HN.out.1] at this
    exact this
  obtain ⟨sv, hsv⟩ : ∃ sv : Nat, A.valSt (A.sumS xs) = sv := ⟨_, rfl⟩
  have HLs : Hid (sv < 18446744073709551616) := by rw [← hsv]; exact valSt_lt _
  obtain ⟨si, hsi⟩ : ∃ si : Int, si = (sv : Int) := ⟨_, rfl⟩
  have HRS : Hid (∀ W, OwnF W w.heap.size 29 uV v xs → Calls Tryz.prog 10 #[v] W fun e w' => e = .returned (.int .u64 si) ∧ Below W.heap.size W w') := fun W h => by
    have := refSum_any w.heap.size n v xs W h HF.out.1 HN.out.1 (by omega)
    rw [hsv, ← hsi] at this
    exact this
  rw [hsv] at HX
  have HIs := hideS fun w => is_both (o := some sv) (r := sv) rfl HLs.out hsi w
  clear hsv hsi HLs
  go_wp2_with fail
  refine HX.out.mono ?_
  rintro e w5 ⟨rfl, hb5⟩
  have HM5 := hideS (HM4.out.next hb5)
  clear HX HM4 hb5
  go_wp2_with fail
  refine (HRS.out _ HM5.out.ox).mono ?_
  rintro e w6 ⟨rfl, hb6⟩
  have HM6 := hideS (HM5.out.next hb6)
  clear HM5 hb6 HRS
  go_wp2_with fail
  refine (HIs.out _).mono ?_
  rintro e w' ⟨rfl, rfl⟩
  clear HIs
  have HX := hideS (left_ag p g off c n xs w6 HM6.out.sx HN.out.1 (by omega))
  go_wp2_with fail
  refine HX.out.mono ?_
  rintro e w7 ⟨r, rfl, hag, hq⟩
  have HM7 := hideS (HM6.out.drawn hq)
  clear HX HM6 hq
  obtain ⟨si, hsi⟩ : ∃ si : Int, si = (cn (leftAt xs n) : Int) := ⟨_, rfl⟩
  have HIs := hideS fun w => is_both hag (left_lt xs n) hsi w
  have HRS : Hid (∀ W, OwnF W w.heap.size 29 uV v xs → Calls Tryz.prog 12 #[v] W fun e w' => e = .returned (.int .u64 si) ∧ Below W.heap.size W w') := fun W h => by
    have := refLeft_any w.heap.size n v xs W h HF.out.1 HN.out.1 (by omega)
    rw [← hsi] at this
    exact this
  clear hag hsi
  go_wp2_with fail
  refine (HRS.out _ HM7.out.ox).mono ?_
  rintro e w8 ⟨rfl, hb8⟩
  have HM8 := hideS (HM7.out.next hb8)
  clear HM7 hb8 HRS
  go_wp2_with fail
  refine (HIs.out _).mono ?_
  rintro e w' ⟨rfl, rfl⟩
  clear HIs
  have HX := hideS (pair_ag n p g off c xs w8 HN.out.1 HM8.out.sx HC.out.1 HC.out.2)
  go_wp2_with fail
  refine HX.out.mono ?_
  rintro e w9 ⟨r2, rfl, hag, hq⟩
  have HM9 := hideS (HM8.out.drawn hq)
  clear HX HM8 hq
  obtain ⟨si2, hsi⟩ : ∃ si : Int, si = (cn (pairO xs) : Int) := ⟨_, rfl⟩
  have HIs := hideS fun w => is_both hag (pair_lt HF.out.1) hsi w
  have HRS : Hid (∀ W, OwnF W w.heap.size 29 uV v xs → Calls Tryz.prog 14 #[v] W fun e w' => e = .returned (.int .u64 si2) ∧ Below W.heap.size W w') := fun W h => by
    have := refPair_any w.heap.size n v xs W h HF.out.1 HN.out.1 (own_cap h HN.out.1)
    rw [← hsi] at this
    exact this
  clear hag hsi
  go_wp2_with fail
  refine (HRS.out _ HM9.out.ox).mono ?_
  rintro e w10 ⟨rfl, hb10⟩
  have HM10 := hideS (HM9.out.next hb10)
  clear HM9 hb10 HRS
  go_wp2_with fail
  refine (HIs.out _).mono ?_
  rintro e w' ⟨rfl, rfl⟩
  clear HIs
  have HX := hideS (kahan_ag p g off c n xs w10 HM10.out.sx HF.out.1 HN.out.1 (by omega))
  go_wp2_with fail
  refine HX.out.mono ?_
  rintro e w11 ⟨r3, rfl, hag, hq⟩
  have HM11 := hideS (HM10.out.drawn hq)
  clear HX HM10 hq
  obtain ⟨si3, hsi⟩ : ∃ si : Int, si = (cn (kahO xs n) : Int) := ⟨_, rfl⟩
  have HIs := hideS fun w => is_both hag (opO_lt (by simp) _ _) hsi w
  have HRS : Hid (∀ W, OwnF W w.heap.size 29 uV v xs → Calls Tryz.prog 16 #[v] W fun e w' => e = .returned (.int .u64 si3) ∧ Below W.heap.size W w') := fun W h => by
    have := refKahan_any w.heap.size n v xs W h HF.out.1 HN.out.1 (by omega)
    rw [← hsi] at this
    exact this
  clear hag hsi
  go_wp2_with fail
  refine (HRS.out _ HM11.out.ox).mono ?_
  rintro e w12 ⟨rfl, hb12⟩
  have HM12 := hideS (HM11.out.next hb12)
  clear HM11 hb12 HRS
  go_wp2_with fail
  refine (HIs.out _).mono ?_
  rintro e w' ⟨rfl, rfl⟩
  clear HIs
  have HX := hideS (areS_any _ g off c n p v xs w12 HM12.out.sx HM12.out.ox HF.out.1 HN.out.1 (by omega))
  go_wp2_with fail
  refine HX.out.mono ?_
  rintro e w13 ⟨rfl, hq⟩
  have HM13 := hideS (HM12.out.drawn hq)
  clear HX HM12 hq
  have HX := hideS (areS_any _ g' off' c' m p' v2 ys w13 HM13.out.sy HM13.out.oy HF.out.2 HN.out.2 (by omega))
  go_wp2_with fail
  refine HX.out.mono ?_
  rintro e w14 ⟨rfl, hq⟩
  have HM14 := hideS (HM13.out.drawn hq)
  clear HX HM13 hq
  go_wp2_with fail
  refine (A.awake3 _).mono ?_
  rintro e w15 ⟨rfl, hb⟩
  have B15 := hideS (HM14.out.bl.trans (hb.mono HM14.out.bl.size))
  clear hb HM14
  go_wp2_with fail
  go_ret
  exact ⟨rfl, B15.out⟩
end Go.Proofs.YtdmldggjgaaliaaGreat
