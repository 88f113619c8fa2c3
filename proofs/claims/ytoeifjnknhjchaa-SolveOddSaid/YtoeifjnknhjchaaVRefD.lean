/- The contract of the document's Poly. -/
import Derived.Test.YtoeifjnknhjchaaVRefC
import Derived.Deep.RegionHeld3
namespace Go.Proofs.Ytoeifjnknhjchaa
open Go.RowKit

theorem cn_rk (o : Option Nat) : rkO (cn o) = rkA o := by
  cases o with
  | none => exact rkO_nan (by decide)
  | some r => rfl

theorem alone_box (w : World) : SrBox (w.alloc (.cells #[.int .u64 0, .int .u64 0, .bool false, .int .i64 0, .int .u64 0, .int .u64 0, .bool false, .int .u64 0, .int .i64 0] 30)) w.heap.size 0 0 false 0 0 0 false 0 0 ∧ Below w.heap.size w (w.alloc (.cells #[.int .u64 0, .int .u64 0, .bool false, .int .i64 0, .int .u64 0, .int .u64 0, .bool false, .int .u64 0, .int .i64 0] 30)) :=
  ⟨⟨heap_alloc_new _ _⟩, (Below.refl w.heap.size w).alloc (Nat.le_refl _) _⟩
theorem srP_word {F : Nat → Option Int} {lo hi X N : Nat} {E : Int} {l h : Nat} {ng : Bool} {n : Int} {a f : Nat} {x : Nat} {e : Int} (hl : U64 (lo : Int)) (hh : U64 (hi : Int)) (hP : SrP F lo hi X N E l h ng n a f false x e) : U64 (a : Int) := by
  rcases hP with ⟨hd, _⟩ | ⟨_, _, _, _, rfl, _⟩ | ⟨_, _, _, _, rfl, _⟩ | ⟨_, up, R, S, N', g, k, r, s, hB, _, rfl, _⟩
  · simp at hd
  · exact hl
  · exact hh
  · exact hB.md.u

/-- How often was asked, by the box. -/
def srN (w : World) (B : Nat) : Nat := match w.cell? ⟨B, 3, none⟩ with | some v => (intOf v).toNat | none => 0
theorem SrBox.cnt {w : World} {B : Nat} {l h : Int} {ng : Bool} {n a f : Int} {d : Bool} {x e : Int} (b : SrBox w B l h ng n a f d x e) : srN w B = n.toNat := by unfold srN; rw [b.nine.c3]; rfl
/-- A search's box between two rounds, the result's box beside it. -/
structure SrL (F : Nat → Option Int) (lo hi X N : Nat) (E : Int) (w : World) (B : Nat) (wr : World) (l h : Nat) (ng : Bool) (n : Int) (a f : Nat) (d : Bool) (x : Nat) (e : Int) : Prop where
  box : SrBox wr B l h ng n a f d x e
  res : SrBox wr w.heap.size 0 0 false 0 0 0 false 0 0
  bl : Below w.heap.size w wr
  ph : SrP F lo hi X N E l h ng n a f d x e
  en : d = false → endB lo hi = true
theorem SrL.put {F : Nat → Option Int} {lo hi X N : Nat} {E : Int} {w : World} {B : Nat} {wr w1 w2 : World} {l h : Nat} {ng : Bool} {n : Int} {a f : Nat} {d : Bool} {x : Nat} {e : Int} {l' h' : Nat} {ng' : Bool} {n' : Int} {a' f' : Nat} {d' : Bool} {x' : Nat} {e' : Int} (hL : SrL F lo hi X N E w B wr l h ng n a f d x e) (hB : w.heap.size < B) (h1 : Below wr.heap.size wr w1) (h2 : Below w1.heap.size w1 w2) (hP : SrP F lo hi X N E l' h' ng' n' a' f' d' x' e') (hE : endB lo hi = true) :
    (Sr9 w1 B l h ng n a f d x e ∧ Sr9 w2 B l h ng n a f d x e) ∧ ∃ wz, put9 w2 B l' h' ng' n' a' f' d' x' e' = wz ∧ SrL F lo hi X N E w B wz l' h' ng' n' a' f' d' x' e' := by
  have b1 := hL.box.below h1
  have b2 := b1.below h2
  have r2 := (hL.res.below h1).below h2
  have bb := (hL.bl.trans (h1.mono hL.bl.size)).trans (h2.mono (Nat.le_trans hL.bl.size h1.size))
  refine ⟨⟨b1.nine, b2.nine⟩, _, rfl, ⟨put9_box b2, ?_, put9_below bb (Nat.le_of_lt hB), hP, fun _ => hE⟩⟩
  have n1 : B ≠ w.heap.size := Nat.ne_of_gt hB
  exact ((((((((r2.set n1 _).set n1 _).set n1 _).set n1 _).set n1 _).set n1 _).set n1 _).set n1 _).set n1 _

set_option maxRecDepth 20000 in
set_option maxHeartbeats 3200000 in
theorem ref12Poly_any (B0 n : Nat) (v : Value) (cs : List Nat) (lo hi X N : Nat) (E : Int) (w : World) (hO : OwnF w B0 28 uV v cs) (hf : FitL cs) (hN : cs.length = n) (hn : n ≤ 1000000) (hl : U64 (lo : Int)) (hh : U64 (hi : Int)) (hV : askV (polyF cs) lo hi = (X, N, E)) :
    Calls Try.prog 10 #[v, .int .u64 lo, .int .u64 hi] w fun r w' => (∃ l h ng a f, r = .returned (.agg #[.int .u64 l, .int .u64 h, .bool ng, .int .i64 N, .int .u64 a, .int .u64 f, .bool true, .int .u64 X, .int .i64 E])) ∧ Below w.heap.size w w' := by
  obtain ⟨d0, e0, hP0, hE0, hB0⟩ := begin_phase (polyF cs) lo hi hl hh
  rw [hV] at hP0
  have HO := hideS hO
  have HB := hideS hB0
  have HP := hideS hP0
  have HE := hideS hE0
  have HW := hideS (And.intro hl hh)
  have HC := hideS (And.intro hf (And.intro hN hn))
  have HZ0 := hideS (box_first w)
  clear hO hf hN hn hl hh hV hB0 hP0 hE0
  go_enter Try.func10, Try.ntmps10
  go_wp2_with fail
  refine (HB.out _).mono ?_
  rintro r w2 ⟨rfl, hb2⟩
  have HL0 : Hid (∀ o, (o = Obj.cells #[.int .u64 (lo : Int), .int .u64 (hi : Int), .bool false, .int .i64 0, .int .u64 (lo : Int), .int .u64 0, .bool d0, .int .u64 0, .int .i64 e0] 30) → SrL (polyF cs) lo hi X N E w w2.heap.size (w2.alloc o) lo hi false 0 lo 0 d0 0 e0) := by
    intro o ho
    have hz := alone_box w
    have bw : Below w.heap.size w w2 := hz.2.trans (hb2.mono hz.2.size)
    have ba : Below w2.heap.size w2 (w2.alloc o) := (Below.refl _ _).alloc (Nat.le_refl _) _
    refine ⟨⟨?_⟩, (hz.1.below hb2).below ba, bw.trans (ba.mono bw.size), HP.out, HE.out⟩
    rw [ho]; exact heap_alloc_new _ _
  have hB : w.heap.size < w2.heap.size := Nat.lt_of_lt_of_le (by simp) hb2.size
  have HLt := hideS hB
  clear hb2 hB HP
  go_wp2_with fail
  have HL1 := hideS (HL0.out _ rfl)
  clear HL0
  generalize w2.heap.size = B at *
  go_loopw [] (fun wr => ∃ (l h : Nat) (ng : Bool) (n : Int) (a f : Nat) (d : Bool) (x : Nat) (e : Int), Hid (SrL (polyF cs) lo hi X N E w B wr l h ng n a f d x e)) (fun wr => 70 - srN wr B)
  case atStart => exact ⟨_, _, _, _, _, _, _, _, _, HL1⟩
  case round =>
    clear HL1
    obtain ⟨l, h, ng, m, a, f, d, x, e, HL⟩ := hrel
    obtain ⟨c0, c1, c2, c3, c4, c5, c6, c7, c8, f0, f1, f2, f3, f4, f5, f6, f7, f8⟩ := HL.out.box.nine
    cases d with
    | true =>
      obtain ⟨⟨d0, d1, d2, d3, d4, d5, d6, d7, d8, g0, g1, g2, g3, g4, g5, g6, g7, g8⟩, wz, hz, hd, hbz⟩ := put9_end l h ng m a f true x e HL.out.res HL.out.bl (Nat.le_refl _) (Below.refl _ _)
      have HPh : Hid (x = X ∧ m = N ∧ e = E) := by
        rcases HL.out.ph with ⟨_, p1, p2, p3⟩ | ⟨p, _⟩ | ⟨p, _⟩ | ⟨p, _⟩
        · exact ⟨p1, p2, p3⟩
        · simp at p
        · simp at p
        · simp at p
      have HZ := hideS hz
      have HD := hideS hd
      have HBz := hideS hbz
      clear hz hd hbz HL
      go_wp2_with fail
      obtain ⟨rfl, rfl, rfl⟩ := HPh.out
      have hz := HZ.out
      have hd := HD.out
      unfold put9 at hz
      rw [hz]
      refine bodyPost_ret (v := .agg #[.int .u64 l, .int .u64 h, .bool ng, .int .i64 N, .int .u64 a, .int .u64 f, .bool true, .int .u64 x, .int .i64 e]) (by simp [results, Try.results10, go_sem, hd.c0, hd.c1, hd.c2, hd.c3, hd.c4, hd.c5, hd.c6, hd.c7, hd.c8]) rfl ⟨⟨_, _, _, _, _, rfl⟩, HBz.out⟩
    | false =>
      have hE := HL.out.en rfl
      obtain ⟨hm0, hm1⟩ := srP_few HL.out.ph
      have HA := hideS (srP_word HW.out.1 HW.out.2 HL.out.ph)
      have HU := hideS (u64_of_nat (cn_hornO_lt (x := a) HC.out.1))
      obtain ⟨r0, r1, r2, r3, r4, r5, r6, r7, r8, hP2, hr3, hC⟩ := told_phase HW.out.1 HW.out.2 hE HL.out.ph (cn (hornO cs a)) HU.out (cn_rk _)
      have HT := hideS hC
      have HP2 := hideS hP2
      have HR3 := hideS hr3
      have HMs := hideS (HL.out.box.cnt)
      have HHo := hideS (refHorner_any B0 n a v (a : Int) cs wr.drew (HO.out.below (HL.out.bl.drew)) HC.out.1 rfl HA.out HC.out.2.1 HC.out.2.2)
      have HPut := hideS fun w3 w4 (h1 : Below wr.heap.size wr.drew w3) (h2 : Below w3.heap.size w3 w4) => (SrL.put (wr := wr.drew) ⟨HL.out.box.drewN 1, HL.out.res.drewN 1, HL.out.bl.drew, HL.out.ph, HL.out.en⟩ HLt.out h1 h2 HP2.out hE)
      generalize cn (hornO cs a) = u at *
      clear hE hC hP2 hr3 HL HA HU HO HC HB HE HZ0
      go_wp2_with fail
      go_region_with (first | ((go_at_call 23; (with_reducible refine HHo.out.mono ?_); rintro r w3 ⟨rfl, hb3⟩; obtain ⟨⟨⟨k0, k1, k2, k3, k4, k5, k6, k7, k8, j0, j1, j2, j3, j4, j5, j6, j7, j8⟩, _⟩, _⟩ := HPut.out w3 w3 hb3 (Below.refl _ _); have HB3 := hideS hb3; clear hb3)) | ((go_at_call 21; (with_reducible refine (HT.out _).mono ?_); rintro r w4 ⟨rfl, hb4⟩; obtain ⟨⟨_, ⟨k0, k1, k2, k3, k4, k5, k6, k7, k8, j0, j1, j2, j3, j4, j5, j6, j7, j8⟩⟩, wz, hz, hLz⟩ := HPut.out _ w4 HB3.out hb4; have HZ := hideS hz; have HLz := hideS hLz; clear hz hLz hb4)))
      all_goals
        have hz := HZ.out
        unfold put9 at hz
        rw [hz]
        go_wp2_with fail
        go_roundw
        case rel => exact ⟨_, _, _, _, _, _, _, _, _, HLz⟩
        case measure => rw [HLz.out.box.cnt, HMs.out, HR3.out]; omega
end Go.Proofs.Ytoeifjnknhjchaa
