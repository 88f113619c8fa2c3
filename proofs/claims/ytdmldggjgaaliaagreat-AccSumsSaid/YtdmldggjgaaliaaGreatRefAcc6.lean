/- The contracts of the document's Sum and Dot. -/
import Derived.Test.YtdmldggjgaaliaaGreatRefAcc5
namespace Go.Proofs.YtdmldggjgaaliaaGreat
open Go.RowKit

/-- A sum of the document's in its box, between two rounds. -/
structure Held (w wr : World) (B : Nat) (a : A.St) (k : Nat) : Prop where
  ex : ∃ neg v M e, wr.heap[B]? = some (.cells #[.int .i64 (a.s : Int), .bool neg, v, .int .i64 e] 48 (0, 0)) ∧ DN wr v M ∧ From (B + 1) v ∧ DV a.s neg M e a.N k
  bl : Below w.heap.size w wr
  lo : w.heap.size ≤ B
  lt : B < wr.heap.size
theorem held_new (w : World) : Held w (boxA w 0 false (.slice none 0 0) 0) w.heap.size ⟨0, 0⟩ 0 :=
  ⟨⟨false, .slice none 0 0, 0, 0, heap_alloc_new w _, Or.inl ⟨rfl, _, _, rfl⟩, from_nil _, DV.zero (by decide) 0⟩, (Below.refl _ _).alloc (Nat.le_refl _) _, Nat.le_refl _, by simp⟩
/-- The box's cells. -/
structure Held4 (wr : World) (B : Nat) (s : Int) (neg : Bool) (v : Value) (e : Int) : Prop where
  c0 : wr.cell? ⟨B, 0, none⟩ = some (.int .i64 s)
  c1 : wr.cell? ⟨B, 1, none⟩ = some (.bool neg)
  c2 : wr.cell? ⟨B, 2, none⟩ = some v
  c3 : wr.cell? ⟨B, 3, none⟩ = some (.int .i64 e)
  f0 : wr.frozen? ⟨B, 0, none⟩ = false
  f1 : wr.frozen? ⟨B, 1, none⟩ = false
  f2 : wr.frozen? ⟨B, 2, none⟩ = false
  f3 : wr.frozen? ⟨B, 3, none⟩ = false
theorem held4_of {wr : World} {B : Nat} {s : Int} {neg : Bool} {v : Value} {e : Int} (hb : wr.heap[B]? = some (.cells #[.int .i64 s, .bool neg, v, .int .i64 e] 48 (0, 0))) : Held4 wr B s neg v e := by
  refine ⟨?_, ?_, ?_, ?_, ?_, ?_, ?_, ?_⟩
  · simp [World.cell?, hb]
  · simp [World.cell?, hb]
  · simp [World.cell?, hb]
  · simp [World.cell?, hb]
  · simp [World.frozen?, hb]
  · simp [World.frozen?, hb]
  · simp [World.frozen?, hb]
  · simp [World.frozen?, hb]
theorem put4_heap {w : World} {B : Nat} {s s' : Int} {neg neg' : Bool} {v v' : Value} {e e' : Int} (hb : w.heap[B]? = some (.cells #[.int .i64 s, .bool neg, v, .int .i64 e] 48 (0, 0))) : (put4 w B s' neg' v' e').heap[B]? = some (.cells #[.int .i64 s', .bool neg', v', .int .i64 e'] 48 (0, 0)) := by
  have h1 := heap_setCell_same w B 0 _ _ (.int .i64 s') hb
  have h2 := heap_setCell_same _ B 1 _ _ (.bool neg') h1
  have h3 := heap_setCell_same _ B 2 _ _ v' h2
  have h4 := heap_setCell_same _ B 3 _ _ (.int .i64 e') h3
  rw [h4]; rfl
/-- Behind a round. -/
theorem held_put {w wr w1 : World} {B k : Nat} {s : Int} {neg : Bool} {v : Value} {M : Nat} {e : Int} {a : A.St} {r : Ending} (hb : wr.heap[B]? = some (.cells #[.int .i64 s, .bool neg, v, .int .i64 e] 48 (0, 0))) (hv : From (B + 1) v) (hbl : Below w.heap.size w wr) (hlo : w.heap.size ≤ B) (hlt : B < wr.heap.size) (h : AddEnd wr v M a k r w1) :
    ∃ neg' p l c e', r = .returned (AV (a.s : Int) neg' (.slice p l c) e') ∧ Held4 w1 B s neg v e ∧ Held w (put4 w1 B (a.s : Int) neg' (.slice p l c) e') B a k := by
  obtain ⟨neg', v', M', e', rfl, hd, hn, hdv, hb1⟩ := h
  obtain ⟨p, l, c, rfl⟩ := hd.shape
  have hb' : w1.heap[B]? = some (.cells #[.int .i64 s, .bool neg, v, .int .i64 e] 48 (0, 0)) := by rw [hb1.block B hlt]; exact hb
  have hf : From (B + 1) (.slice p l c) := by
    rcases hn with ⟨hn, _⟩ | hn
    · rw [hn]; exact hv
    · exact from_mono' hn hlt
  have hbw : Below w.heap.size w w1 := hbl.trans (hb1.mono hbl.size)
  refine ⟨neg', p, l, c, e', rfl, held4_of hb', ⟨neg', _, M', e', put4_heap hb', put4_dn hd hf (by omega), hf, hdv⟩, put4_below hbw hlo, hlo, ?_⟩
  have := hb1.size
  simp
  omega

def addAt (xs : List Nat) : Nat → A.St
  | 0 => ⟨0, 0⟩
  | k + 1 => (addAt xs k).merge (A.oneS ((xs.getD k 0 : Nat) : Int))
theorem add_foldl (xs : List Nat) : ∀ k, k ≤ xs.length → (xs.take k).foldl A.addS ⟨0, 0⟩ = addAt xs k
  | 0, _ => by rw [List.take_zero]; rfl
  | k + 1, h => by
    rw [A.foldl_next A.addS _ xs (by omega), add_foldl xs k (by omega)]; rfl
theorem sum_at (xs : List Nat) : A.sumS xs = addAt xs xs.length := by
  rw [← add_foldl xs xs.length (Nat.le_refl _), List.take_length]; rfl
theorem st_eta (a : A.St) : (⟨a.s, a.N⟩ : A.St) = a := rfl

set_option maxHeartbeats 1600000 in
theorem refSum_any (B0 n : Nat) (v : Value) (xs : List Nat) (w : World) (hO : OwnF w B0 29 uV v xs) (hf : FitL xs) (hN : xs.length = n) (hn : n ≤ 500) :
    Calls Tryz.prog 10 #[v] w fun e w' => e = .returned (.int .u64 (A.valSt (A.sumS xs) : Int)) ∧ Below w.heap.size w w' := by
  obtain ⟨p, g, c, rfl, ha, hr⟩ := hO.shape
  rw [hN]
  have HF := hideS hf
  have HN := hideS hN
  have HR := hideS hr
  have HA := hideS ha
  have H0 := hideS (held_new w)
  obtain ⟨res, hres⟩ : ∃ res : Int, (A.valSt (A.sumS xs) : Int) = res := ⟨_, rfl⟩
  have HRes : Hid ((A.valSt (addAt xs n) : Int) = res) := by show _ = _; rw [← hres, sum_at, hN]
  rw [hres]
  clear hO hf hN ha hr hres
  go_enter Tryz.func10, Tryz.ntmps10
  go_wp2_with fail
  go_loopw [4] (fun i wr => ∃ k : Nat, k ≤ n ∧ i = .int .i64 k ∧ Hid (Held w wr w.heap.size (addAt xs k) k)) (fun i _ => n - (intOf i).toNat)
  case atStart => exact ⟨0, Nat.zero_le _, rfl, H0⟩
  case round =>
    clear H0
    obtain ⟨k, hk, rfl, HH⟩ := hrel
    obtain ⟨⟨neg, va, M, ee, hb, hd, hfr, hdv⟩, hbl, hlo, hlt0⟩ := HH.out
    have h4 := held4_of hb
    by_cases hlt : k < n
    · have hx : k < xs.length := by rw [HN.out]; exact hlt
      obtain ⟨rfl, _, hg⟩ := HA.out (by omega)
      have hcx : wr.cell? ⟨g, k, none⟩ = some (.int .u64 ((xs.getD k 0 : Nat) : Int)) := (hbl.cell (p := ⟨g, k, none⟩) hg).trans (HR.out k hx)
      have HU := hideS (u64_of_nat (HF.out.get k))
      obtain ⟨x, hxx⟩ : ∃ x, xs.getD k 0 = x := ⟨_, rfl⟩
      obtain ⟨xi, hxi⟩ : ∃ xi : Int, xi = (x : Int) := ⟨_, rfl⟩
      have HNx : Hid (addAt xs (k + 1) = (addAt xs k).merge (A.oneS xi)) := by show _ = _; rw [hxi, ← hxx]; rfl
      rw [hxx, ← hxi] at hcx HU
      have HXI := hideS hxi
      obtain ⟨a, haa⟩ : ∃ a, addAt xs k = a := ⟨_, rfl⟩
      rw [haa] at hdv h4 hb HNx
      have HAd := hideS (dAdd a.s neg va M ee a.N k x xi wr.drew (hd.drewN 1) hdv (by omega) HU.out HXI)
      rw [st_eta, ← HNx.out] at HAd
      have HPut := hideS fun w1 r (hend : AddEnd wr.drew va M (addAt xs (k + 1)) (k + 1) r w1) => held_put (wr := wr.drew) hb hfr hbl.drew hlo hlt0 hend
      obtain ⟨pa, la, ca, rfl⟩ := hd.shape
      have c0 := h4.c0
      have c1 := h4.c1
      have c2 := h4.c2
      have c3 := h4.c3
      have hg2 : g < wr.heap.size := Nat.lt_of_lt_of_le hg hbl.size
      clear hx hxx hxi haa hd hdv hb hfr hbl hlo hlt0 h4 HH
      go_wp2_with fail
      go_region_with ((go_at_call 27; refine HAd.out.mono ?_; intro r w1 hend; obtain ⟨neg', p4, l4, c4, e4, rfl, K4, hH⟩ := HPut.out w1 r hend; have HH := hideS hH; have k0 := K4.c0; have k1 := K4.c1; have k2 := K4.c2; have k3 := K4.c3; have l0 := K4.f0; have l1 := K4.f1; have l2 := K4.f2; have l3 := K4.f3; clear hend hH K4))
      all_goals
        go_wp2_with fail
        go_roundw
        case rel => exact ⟨k + 1, by omega, by simp, HH⟩
        case measure => simp [intOf]; omega
    · obtain rfl : k = n := by omega
      obtain ⟨pa, la, ca, rfl⟩ := hd.shape
      have c0 := h4.c0
      have c1 := h4.c1
      have c2 := h4.c2
      have c3 := h4.c3
      have HV := hideS (dValue _ neg _ M ee _ k wr hd hdv (by omega))
      rw [st_eta, HRes.out] at HV
      have HBl := hideS hbl
      clear hd hdv hb hfr hbl hlo hlt0 h4 HH
      go_wp2_with fail
      refine HV.out.mono ?_
      rintro r w1 ⟨rfl, hb⟩
      have HB1 := hideS (HBl.out.trans (hb.mono HBl.out.size))
      clear hb
      go_wp2_with fail
      go_ret
      exact ⟨rfl, HB1.out⟩

def prodAt (xs ys : List Nat) : Nat → A.St
  | 0 => ⟨0, 0⟩
  | k + 1 => (prodAt xs ys k).merge (A.prodG (xs.getD k 0) (ys.getD k 0))
theorem prod_at (xs ys : List Nat) : ∀ k, A.dotG xs ys k = prodAt xs ys k
  | 0 => rfl
  | k + 1 => by
    show (A.dotG xs ys k).merge _ = (prodAt xs ys k).merge _
    rw [prod_at xs ys k]

set_option maxHeartbeats 1600000 in
theorem refDot_any (B0 B1 n : Nat) (v v2 : Value) (xs ys : List Nat) (w : World) (hO : OwnF w B0 29 uV v xs) (hO2 : OwnF w B1 29 uV v2 ys) (hf : FitL xs) (hf2 : FitL ys) (hN : xs.length = n) (hN2 : ys.length = n) (hn : n ≤ 500) :
    Calls Tryz.prog 7 #[v, v2] w fun e w' => e = .returned (.tuple #[.int .u64 (A.valSt (A.dotG xs ys n) : Int), .bool true]) ∧ Below w.heap.size w w' := by
  obtain ⟨p, g, c, rfl, ha, hr⟩ := hO.shape
  obtain ⟨p2, g2, c2, rfl, ha2, hr2⟩ := hO2.shape
  rw [hN, hN2]
  have HF := hideS (And.intro hf hf2)
  have HN := hideS (And.intro hN hN2)
  have HR := hideS (And.intro hr hr2)
  have HA := hideS (And.intro ha ha2)
  have H0 := hideS (held_new w)
  obtain ⟨res, hres⟩ : ∃ res : Int, (A.valSt (A.dotG xs ys n) : Int) = res := ⟨_, rfl⟩
  have HRes : Hid ((A.valSt (prodAt xs ys n) : Int) = res) := by show _ = _; rw [← hres, prod_at]
  rw [hres]
  clear hO hf hN ha hr hres hO2 hf2 hN2 ha2 hr2
  go_enter Tryz.func7, Tryz.ntmps7
  go_wp2_with fail
  go_loopw [7] (fun i wr => ∃ k : Nat, k ≤ n ∧ i = .int .i64 k ∧ Hid (Held w wr w.heap.size (prodAt xs ys k) k)) (fun i _ => n - (intOf i).toNat)
  case atStart => exact ⟨0, Nat.zero_le _, rfl, H0⟩
  case round =>
    clear H0
    obtain ⟨k, hk, rfl, HH⟩ := hrel
    obtain ⟨⟨neg, va, M, ee, hb, hd, hfr, hdv⟩, hbl, hlo, hlt0⟩ := HH.out
    have h4 := held4_of hb
    by_cases hlt : k < n
    · have hx : k < xs.length := by rw [HN.out.1]; exact hlt
      have hy : k < ys.length := by rw [HN.out.2]; exact hlt
      obtain ⟨rfl, _, hg⟩ := HA.out.1 (by omega)
      obtain ⟨rfl, _, hg2⟩ := HA.out.2 (by omega)
      have hcx : wr.cell? ⟨g, k, none⟩ = some (.int .u64 ((xs.getD k 0 : Nat) : Int)) := (hbl.cell (p := ⟨g, k, none⟩) hg).trans (HR.out.1 k hx)
      have hcy : wr.cell? ⟨g2, k, none⟩ = some (.int .u64 ((ys.getD k 0 : Nat) : Int)) := (hbl.cell (p := ⟨g2, k, none⟩) hg2).trans (HR.out.2 k hy)
      have HU := hideS (u64_of_nat (HF.out.1.get k))
      have HU2 := hideS (u64_of_nat (HF.out.2.get k))
      obtain ⟨x, hxx⟩ : ∃ x, xs.getD k 0 = x := ⟨_, rfl⟩
      obtain ⟨xi, hxi⟩ : ∃ xi : Int, xi = (x : Int) := ⟨_, rfl⟩
      obtain ⟨y, hyy⟩ : ∃ y, ys.getD k 0 = y := ⟨_, rfl⟩
      obtain ⟨yi, hyi⟩ : ∃ yi : Int, yi = (y : Int) := ⟨_, rfl⟩
      have HNx : Hid (prodAt xs ys (k + 1) = (prodAt xs ys k).merge (A.prodG x y)) := by show _ = _; rw [← hxx, ← hyy]; rfl
      rw [hxx, ← hxi] at hcx HU
      rw [hyy, ← hyi] at hcy HU2
      have HXI := hideS hxi
      have HYI := hideS hyi
      obtain ⟨a, haa⟩ : ∃ a, prodAt xs ys k = a := ⟨_, rfl⟩
      rw [haa] at hdv h4 hb HNx
      have HAd := hideS (dProd a.s neg va M ee a.N k x y xi yi wr.drew (hd.drewN 1) hdv (by omega) HU.out HU2.out HXI HYI)
      rw [st_eta, ← HNx.out] at HAd
      have HPut := hideS fun w1 r (hend : AddEnd wr.drew va M (prodAt xs ys (k + 1)) (k + 1) r w1) => held_put (wr := wr.drew) hb hfr hbl.drew hlo hlt0 hend
      obtain ⟨pa, la, ca, rfl⟩ := hd.shape
      have q0 := h4.c0
      have q1 := h4.c1
      have q2 := h4.c2
      have q3 := h4.c3
      clear hx hxx hxi haa hd hdv hb hfr hbl hlo hlt0 h4 HH hy hyy hyi
      go_wp2_with fail
      go_region_with ((go_at_call 24; refine HAd.out.mono ?_; intro r w1 hend; obtain ⟨neg', p4, l4, c4, e4, rfl, K4, hH⟩ := HPut.out w1 r hend; have HH := hideS hH; have k0 := K4.c0; have k1 := K4.c1; have k2 := K4.c2; have k3 := K4.c3; have l0 := K4.f0; have l1 := K4.f1; have l2 := K4.f2; have l3 := K4.f3; clear hend hH K4))
      all_goals
        go_wp2_with fail
        go_roundw
        case rel => exact ⟨k + 1, by omega, by simp, HH⟩
        case measure => simp [intOf]; omega
    · obtain rfl : k = n := by omega
      obtain ⟨pa, la, ca, rfl⟩ := hd.shape
      have q0 := h4.c0
      have q1 := h4.c1
      have q2 := h4.c2
      have q3 := h4.c3
      have HV := hideS (dValue _ neg _ M ee _ k wr hd hdv (by omega))
      rw [st_eta, HRes.out] at HV
      have HBl := hideS hbl
      clear hd hdv hb hfr hbl hlo hlt0 h4 HH
      go_wp2_with fail
      refine HV.out.mono ?_
      rintro r w1 ⟨rfl, hb⟩
      have HB1 := hideS (HBl.out.trans (hb.mono HBl.out.size))
      clear hb
      go_wp2_with fail
      go_ret2
      exact ⟨rfl, HB1.out⟩

set_option maxHeartbeats 400000 in
theorem refDot_apart (p p' : Option Addr) (c c' n m : Nat) (w : World) (hne : n ≠ m) :
    Calls Tryz.prog 7 #[.slice p n c, .slice p' m c'] w fun e w' => e = .returned (.tuple #[.int .u64 0, .bool false]) ∧ w' = w := by
  have h1 : ((n : Int) == (m : Int)) = false := by simp; omega
  have h2 : ((n : Int) != (m : Int)) = true := by rw [bne, h1]; rfl
  go_enter Tryz.func7, Tryz.ntmps7
  go_wp2
  go_ret2
  exact ⟨rfl, rfl⟩
end Go.Proofs.YtdmldggjgaaliaaGreat
