/- The walk of SolveOdd: of a function in no order. -/
import Derived.Test.YtoeifjnknhjchaaVOdd
import Derived.Test.YtoeifjnknhjchaaVRefD
import Derived.Test.YtoeifjnknhjchaaVJump
namespace Go.Proofs.Ytoeifjnknhjchaa
open Go.RowKit

def oddF (b : Int) (a : Nat) : Option Int := rkO (oddV (a : Int) b)
/-- The law's box between two rounds, with what its function holds. -/
structure SrO (F : Nat → Option Int) (lo hi X N : Nat) (E : Int) (w : World) (by_ : Int) (B : Nat) (wr : World) (l h : Nat) (ng : Bool) (n : Int) (a f : Nat) (d : Bool) (x : Nat) (e : Int) : Prop where
  box : SrBox wr B l h ng n a f d x e
  by0 : wr.cell? ⟨w.heap.size, 0, none⟩ = some (.int .u64 by_)
  bl : Below w.heap.size w wr
  lt : w.heap.size < wr.heap.size
  ph : SrP F lo hi X N E l h ng n a f d x e
  en : d = false → endB lo hi = true
theorem SrO.put {F : Nat → Option Int} {lo hi X N : Nat} {E : Int} {w : World} {by_ : Int} {B : Nat} {wr w2 : World} {l h : Nat} {ng : Bool} {n : Int} {a f : Nat} {d : Bool} {x : Nat} {e : Int} {l' h' : Nat} {ng' : Bool} {n' : Int} {a' f' : Nat} {d' : Bool} {x' : Nat} {e' : Int} (hL : SrO F lo hi X N E w by_ B wr l h ng n a f d x e) (hB : w.heap.size < B) (h2 : Below wr.heap.size wr w2) (hP : SrP F lo hi X N E l' h' ng' n' a' f' d' x' e') (hE : endB lo hi = true) :
    Sr9 w2 B l h ng n a f d x e ∧ ∃ wz, put9 w2 B l' h' ng' n' a' f' d' x' e' = wz ∧ SrO F lo hi X N E w by_ B wz l' h' ng' n' a' f' d' x' e' := by
  have b2 := hL.box.below h2
  have bb := hL.bl.trans (h2.mono hL.bl.size)
  have hc : w2.cell? ⟨w.heap.size, 0, none⟩ = some (.int .u64 by_) := (h2.cell (p := ⟨w.heap.size, 0, none⟩) hL.lt).trans hL.by0
  have pb : Below B w2 (put9 w2 B l' h' ng' n' a' f' d' x' e') := put9_below (Below.refl _ _) (Nat.le_refl _)
  exact ⟨b2.nine, _, rfl, ⟨put9_box b2, (pb.cell (p := ⟨w.heap.size, 0, none⟩) hB).trans hc, put9_below bb (Nat.le_of_lt hB), Nat.lt_of_lt_of_le (Nat.lt_of_lt_of_le hL.lt h2.size) pb.size, hP, fun _ => hE⟩⟩

set_option maxRecDepth 20000 in
set_option maxHeartbeats 3200000 in
theorem solveOdd_walk (lo hi : Nat) (b : Int) (wl : (Lit.float .f64 lo).wf = true) (wh : (Lit.float .f64 hi).wf = true) (wb : (Lit.int .u64 b).wf = true) (w : World) :
    Calls Try.prog 6 #[.float .f64 lo, .float .f64 hi, .int .u64 b] w fun e w' => e = .returned (.bool true) ∧ Below w.heap.size w w' := by
  have hl := u64_of_wf wl
  have hh := u64_of_wf wh
  have hb : U64 b := by
    have h := wb
    simp only [Lit.wf, IntKind.min, IntKind.max, IntKind.signed, IntKind.bits] at h
    simp at h
    unfold U64; omega
  clear wl wh wb
  obtain ⟨w1, hw1⟩ : ∃ w1, w.alloc (.cells #[.int .u64 b] 28) = w1 := ⟨_, rfl⟩
  have hb1 : Below w.heap.size w w1 := by rw [← hw1]; exact (Below.refl _ _).alloc (Nat.le_refl _) _
  have hs1 : w.heap.size < w1.heap.size := by rw [← hw1]; simp
  have hcell : w1.cell? ⟨w.heap.size, 0, none⟩ = some (.int .u64 b) := by rw [← hw1]; simp
  have hfew := askV_few (oddF b) lo hi
  have hword := askV_word (oddF b) hl hh
  obtain ⟨d0, e0, hP0, hE0, hB0⟩ := begin_phase (oddF b) lo hi hl hh
  rcases hV : askV (oddF b) lo hi with ⟨X, N, E⟩
  rw [hV] at hfew hword hP0
  have hfew : N ≤ 66 := hfew
  have hword : U64 (X : Int) := hword
  have HRt : Hid (Calls Try.prog 16 #[.func (.func 18) #[] #[.pointer (some ⟨w.heap.size, 0, none⟩)], .float .f64 lo, .float .f64 hi] w1 fun e w' => e = .returned (.tuple #[.float .f64 X, .int .i64 N, .int .i64 E]) ∧ ∃ q, w' = w1.drewN q) := by
    cases hE : endB lo hi with
    | false =>
      have e : askV (oddF b) lo hi = (0, 0, 1) := by unfold askV; rw [if_neg (by rw [hE]; simp)]
      rw [e] at hV
      injection hV with e1 e2
      injection e2 with e2 e3
      subst e1 e2 e3
      exact (root_bad _ _ lo hi w1 hl hh hE).mono fun _ _ ⟨a, b⟩ => ⟨a, 0, b⟩
    | true =>
      have e : askV (oddF b) lo hi = rootV (oddF b) lo hi := by unfold askV; rw [if_pos hE]
      rw [e] at hV
      refine root_ok _ _ (oddF b) (fun _ wr => ∃ q, wr = w1.drewN q) lo hi X N 0 E w1 (by omega) enter_odd hl hh hE ?_ ⟨0, rfl⟩ hV
      intro a r k wr _ ga _ _ hI
      obtain ⟨q, rfl⟩ := hI
      refine (oddLit_any a w.heap.size b (w1.drewN q) ga.u hb hcell).mono ?_
      rintro e w' ⟨rfl, q2, rfl⟩
      exact ⟨_, rfl, oddV_word _ _, rfl, q + q2, drewN_add _ _ _⟩
  have HIs : Hid (∀ w, Calls Try.prog 13 #[.float .f64 X, .int .u64 (X : Int)] w fun e w' => e = .returned (.bool true) ∧ w = w') := fun w => isA X X w hword hword (sameB_refl _)
  have HBl := hideS (bits_any lo)
  have HBh := hideS (bits_any hi)
  have HB := hideS hB0
  have H1 := hideS (And.intro hb1 (And.intro hs1 hcell))
  have HP := hideS hP0
  have HE := hideS hE0
  have HW := hideS (And.intro hl (And.intro hh hb))
  have hmf := make_fnP
  clear hl hh hb hb1 hs1 hcell hword hB0 hP0 hE0 hV
  go_enter Try.func6, Try.ntmps6
  go_wp2_with fail
  refine HRt.out.mono ?_
  rintro e w2 ⟨rfl, hq⟩
  have H2 : Hid (Below w.heap.size w w2 ∧ w.heap.size < w2.heap.size ∧ w2.cell? ⟨w.heap.size, 0, none⟩ = some (.int .u64 b)) := by
    obtain ⟨q, rfl⟩ := hq
    exact ⟨below_drawn H1.out.1 q, H1.out.2.1, H1.out.2.2⟩
  clear hq HRt H1 hw1
  go_wp2_with fail
  refine (turned (HBl.out _)).mono ?_
  rintro e w' ⟨rfl, rfl⟩
  go_wp2_with fail
  refine (turned (HBh.out _)).mono ?_
  rintro e w' ⟨rfl, rfl⟩
  go_wp2_with fail
  refine (HB.out _).mono ?_
  rintro r w3 ⟨rfl, hb3⟩
  have HL0 : Hid (∀ o, (o = Obj.cells #[.int .u64 (lo : Int), .int .u64 (hi : Int), .bool false, .int .i64 0, .int .u64 (lo : Int), .int .u64 0, .bool d0, .int .u64 0, .int .i64 e0] 30) → SrO (oddF b) lo hi X N E w b w3.heap.size (w3.alloc o) lo hi false 0 lo 0 d0 0 e0) := by
    intro o ho
    have ba : Below w3.heap.size w3 (w3.alloc o) := (Below.refl _ _).alloc (Nat.le_refl _) _
    have bw := H2.out.1.trans (hb3.mono H2.out.1.size)
    have l3 := Nat.lt_of_lt_of_le H2.out.2.1 hb3.size
    refine ⟨⟨?_⟩, (ba.cell (p := ⟨w.heap.size, 0, none⟩) l3).trans ((hb3.cell (p := ⟨w.heap.size, 0, none⟩) H2.out.2.1).trans H2.out.2.2), bw.trans (ba.mono bw.size), Nat.lt_of_lt_of_le l3 ba.size, HP.out, HE.out⟩
    rw [ho]; exact heap_alloc_new _ _
  have hB : w.heap.size < w3.heap.size := Nat.lt_of_lt_of_le H2.out.2.1 hb3.size
  have HLt := hideS hB
  clear hb3 hB HP H2 HB
  go_wp2_with fail
  have HL1 := hideS (HL0.out _ rfl)
  clear HL0
  generalize w3.heap.size = B at *
  go_loopw [] (fun wr => ∃ (l h : Nat) (ng : Bool) (n : Int) (a f : Nat) (d : Bool) (x : Nat) (e : Int), Hid (SrO (oddF b) lo hi X N E w b B wr l h ng n a f d x e)) (fun wr => 70 - srN wr B)
  case atStart => exact ⟨_, _, _, _, _, _, _, _, _, HL1⟩
  case round =>
    clear HL1
    obtain ⟨l, h, ng, m, a, f, d, x, e, HL⟩ := hrel
    obtain ⟨c0, c1, c2, c3, c4, c5, c6, c7, c8, f0, f1, f2, f3, f4, f5, f6, f7, f8⟩ := HL.out.box.nine
    have cb := HL.out.by0
    cases d with
    | true =>
      have HPh : Hid (x = X ∧ m = N ∧ e = E) := by
        rcases HL.out.ph with ⟨_, p1, p2, p3⟩ | ⟨p, _⟩ | ⟨p, _⟩ | ⟨p, _⟩
        · exact ⟨p1, p2, p3⟩
        · simp at p
        · simp at p
        · simp at p
      have HBz := hideS HL.out.bl
      clear HL
      obtain ⟨rfl, rfl, rfl⟩ := HPh.out
      clear HPh
      go_wp2_with fail
      refine (HIs.out _).mono ?_
      rintro e w' ⟨rfl, rfl⟩
      go_wp2_with fail
      refine (awake12 _).mono ?_
      rintro e w5 ⟨rfl, hb5⟩
      have HB5 := hideS (HBz.out.trans (hb5.mono HBz.out.size))
      clear hb5
      go_wp2_with fail
      go_ret
      exact ⟨rfl, HB5.out⟩
    | false =>
      have hE := HL.out.en rfl
      obtain ⟨hm0, hm1⟩ := srP_few HL.out.ph
      have HA := hideS (srP_word HW.out.1 HW.out.2.1 HL.out.ph)
      have HOd := hideS fun wx => odd_any (a : Int) b wx HA.out HW.out.2.2
      have HBo := hideS (bits_any (oddV (a : Int) b))
      obtain ⟨r0, r1, r2, r3, r4, r5, r6, r7, r8, hP2, hr3, hC⟩ := told_phase HW.out.1 HW.out.2.1 hE HL.out.ph (oddV (a : Int) b) (oddV_word _ _) rfl
      have HT := hideS hC
      have HP2 := hideS hP2
      have HR3 := hideS hr3
      have HMs := hideS (HL.out.box.cnt)
      have HPut := hideS fun w4 (h2 : Below wr.heap.size wr.drew w4) => (SrO.put (wr := wr.drew) ⟨HL.out.box.drewN 1, HL.out.by0, HL.out.bl.drew, HL.out.lt, HL.out.ph, HL.out.en⟩ HLt.out h2 HP2.out hE)
      generalize oddV (a : Int) b = u at *
      clear hE hC hP2 hr3 HL HA HE
      go_wp2_with fail
      go_region_with (first | ((go_at_call 19; (with_reducible refine (turned (HOd.out _)).mono ?_); rintro r w4 ⟨rfl, rfl⟩)) | ((go_at_call 12; (with_reducible refine (turned (HBo.out _)).mono ?_); rintro r w4 ⟨rfl, rfl⟩)) | ((go_at_call 21; (with_reducible refine (HT.out _).mono ?_); rintro r w4 ⟨rfl, hb4⟩; obtain ⟨⟨k0, k1, k2, k3, k4, k5, k6, k7, k8, j0, j1, j2, j3, j4, j5, j6, j7, j8⟩, wz, hz, hLz⟩ := HPut.out w4 hb4; have HZ := hideS hz; have HLz := hideS hLz; clear hz hLz hb4)))
      all_goals
        have hz := HZ.out
        unfold put9 at hz
        rw [hz]
        go_wp2_with fail
        go_roundw
        case rel => exact ⟨_, _, _, _, _, _, _, _, _, HLz⟩
        case measure => rw [HLz.out.box.cnt, HMs.out, HR3.out]; omega
end Go.Proofs.Ytoeifjnknhjchaa
