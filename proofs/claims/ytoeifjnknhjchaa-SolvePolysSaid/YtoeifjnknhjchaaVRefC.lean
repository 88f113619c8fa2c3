/- The contracts of the document's Begin and Poly. -/
import Derived.Test.YtoeifjnknhjchaaVRefB
import Derived.Test.YtoeifjnknhjchaaHah
import Derived.Test.YtoeifjnknhjchaaHal
import Derived.Deep.RegionHeld3
namespace Go.Proofs.Ytoeifjnknhjchaa
open Go.RowKit

set_option maxRecDepth 20000 in
set_option maxHeartbeats 1600000 in
theorem ref12Begin_ok (lo hi : Nat) (w : World) (hl : U64 (lo : Int)) (hh : U64 (hi : Int)) (hE : endB lo hi = true) :
    Calls Try.prog 20 #[.int .u64 lo, .int .u64 hi] w fun e w' => e = .returned (.agg #[.int .u64 lo, .int .u64 hi, .bool false, .int .i64 0, .int .u64 lo, .int .u64 0, .bool false, .int .u64 0, .int .i64 0]) ∧ Below w.heap.size w w' := by
  have H1 := hideS fun w => refNum_any (lo : Int) w hl
  have H2 := hideS fun w => refNum_any (hi : Int) w hh
  have H3 := hideS fun w => refLt_any (lo : Int) (hi : Int) w hl hh
  obtain ⟨gl, gh, hlt⟩ := endB_gd hl hh hE
  unfold endB at hE
  rw [Bool.and_eq_true, Bool.and_eq_true] at hE
  rw [hE.1.1] at H1
  rw [hE.1.2] at H2
  have e3 : ltB (lo : Int) (hi : Int) = true := by unfold ltB; rw [gl.n, gh.n, hE.2]; rfl
  rw [e3] at H3
  clear gl gh hlt hE e3 hl hh
  generalize (lo : Int) = l at *
  generalize (hi : Int) = h at *
  go_enter Try.func20, Try.ntmps20
  go_wp2_with fail
  refine (H1.out _).mono ?_
  rintro e w' ⟨rfl, rfl⟩
  go_wp2_with fail
  refine (H2.out _).mono ?_
  rintro e w' ⟨rfl, rfl⟩
  go_wp2_with fail
  refine (H3.out _).mono ?_
  rintro e w' ⟨rfl, rfl⟩
  go_wp2_with fail
  refine bodyPost_ret (v := .agg #[.int .u64 l, .int .u64 h, .bool false, .int .i64 0, .int .u64 l, .int .u64 0, .bool false, .int .u64 0, .int .i64 0]) (by simp [results, Try.results20, go_sem]) rfl ⟨rfl, ?_⟩
  exact ((Below.refl w.heap.size w).alloc (Nat.le_refl _) _).alloc (by simp) _

theorem box_first (w : World) (o : Obj) : SrBox ((w.alloc (.cells #[.int .u64 0, .int .u64 0, .bool false, .int .i64 0, .int .u64 0, .int .u64 0, .bool false, .int .u64 0, .int .i64 0] 30)).alloc o) w.heap.size 0 0 false 0 0 0 false 0 0 ∧ Below w.heap.size w ((w.alloc (.cells #[.int .u64 0, .int .u64 0, .bool false, .int .i64 0, .int .u64 0, .int .u64 0, .bool false, .int .u64 0, .int .i64 0] 30)).alloc o) := by
  refine ⟨⟨?_⟩, ((Below.refl w.heap.size w).alloc (Nat.le_refl _) _).alloc (by simp) _⟩
  have hb : Below (w.alloc (.cells #[.int .u64 0, .int .u64 0, .bool false, .int .i64 0, .int .u64 0, .int .u64 0, .bool false, .int .u64 0, .int .i64 0] 30)).heap.size (w.alloc (.cells #[.int .u64 0, .int .u64 0, .bool false, .int .i64 0, .int .u64 0, .int .u64 0, .bool false, .int .u64 0, .int .i64 0] 30)) _ := (Below.refl _ _).alloc (Nat.le_refl _) o
  rw [hb.block w.heap.size (by simp)]
  exact heap_alloc_new _ _
set_option maxRecDepth 20000 in
set_option maxHeartbeats 1600000 in
theorem ref12Begin_bad (lo hi : Nat) (w : World) (hl : U64 (lo : Int)) (hh : U64 (hi : Int)) (hE : endB lo hi = false) :
    Calls Try.prog 20 #[.int .u64 lo, .int .u64 hi] w fun e w' => e = .returned (.agg #[.int .u64 lo, .int .u64 hi, .bool false, .int .i64 0, .int .u64 lo, .int .u64 0, .bool true, .int .u64 0, .int .i64 1]) ∧ Below w.heap.size w w' := by
  have H1 := hideS fun w => refNum_any (lo : Int) w hl
  have H2 := hideS fun w => refNum_any (hi : Int) w hh
  have H3 := hideS fun w => refLt_any (lo : Int) (hi : Int) w hl hh
  have HE := hideS fun w => ref12Ended_any (lo : Int) (hi : Int) (lo : Int) 0 0 0 false false 0 0 1 w
  unfold endB at hE
  cases b1 : finB (lo : Int) with
  | false =>
    rw [b1] at H1
    clear hE b1 H2 H3 hl hh
    generalize (lo : Int) = l at *
    generalize (hi : Int) = h at *
    go_enter Try.func20, Try.ntmps20
    go_wp2_with fail
    refine (H1.out _).mono ?_
    rintro e w' ⟨rfl, rfl⟩
    go_wp2_with fail
    refine (HE.out _).mono ?_
    rintro e w2 ⟨rfl, hb2⟩
    obtain ⟨⟨c0, c1, c2, c3, c4, c5, c6, c7, c8, f0, f1, f2, f3, f4, f5, f6, f7, f8⟩, wz, hz, hd, hbz⟩ := put9_end l h false 0 l 0 true 0 1 (box_first w _).1 (box_first w _).2 (Nat.le_refl _) hb2
    clear hb2
    go_wp2_with fail
    unfold put9 at hz
    rw [hz]
    refine bodyPost_ret (v := .agg #[.int .u64 l, .int .u64 h, .bool false, .int .i64 0, .int .u64 l, .int .u64 0, .bool true, .int .u64 0, .int .i64 1]) (by simp [results, Try.results20, go_sem, hd.c0, hd.c1, hd.c2, hd.c3, hd.c4, hd.c5, hd.c6, hd.c7, hd.c8]) rfl ⟨rfl, hbz⟩
  | true =>
    cases b2 : finB (hi : Int) with
    | false =>
      rw [b1] at H1
      rw [b2] at H2
      clear hE b1 b2 H3 hl hh
      generalize (lo : Int) = l at *
      generalize (hi : Int) = h at *
      go_enter Try.func20, Try.ntmps20
      go_wp2_with fail
      refine (H1.out _).mono ?_
      rintro e w' ⟨rfl, rfl⟩
      go_wp2_with fail
      refine (H2.out _).mono ?_
      rintro e w' ⟨rfl, rfl⟩
      go_wp2_with fail
      refine (HE.out _).mono ?_
      rintro e w2 ⟨rfl, hb2⟩
      obtain ⟨⟨c0, c1, c2, c3, c4, c5, c6, c7, c8, f0, f1, f2, f3, f4, f5, f6, f7, f8⟩, wz, hz, hd, hbz⟩ := put9_end l h false 0 l 0 true 0 1 (box_first w _).1 (box_first w _).2 (Nat.le_refl _) hb2
      clear hb2
      go_wp2_with fail
      unfold put9 at hz
      rw [hz]
      refine bodyPost_ret (v := .agg #[.int .u64 l, .int .u64 h, .bool false, .int .i64 0, .int .u64 l, .int .u64 0, .bool true, .int .u64 0, .int .i64 1]) (by simp [results, Try.results20, go_sem, hd.c0, hd.c1, hd.c2, hd.c3, hd.c4, hd.c5, hd.c6, hd.c7, hd.c8]) rfl ⟨rfl, hbz⟩
    | true =>
      rw [b1, b2] at hE
      have hb' : decide (rankI (lo : Int) < rankI (hi : Int)) = false := hE
      have e3 : ltB (lo : Int) (hi : Int) = false := by unfold ltB; rw [hb']; simp
      rw [b1] at H1
      rw [b2] at H2
      rw [e3] at H3
      clear hE hb' e3 b1 b2 hl hh
      generalize (lo : Int) = l at *
      generalize (hi : Int) = h at *
      go_enter Try.func20, Try.ntmps20
      go_wp2_with fail
      refine (H1.out _).mono ?_
      rintro e w' ⟨rfl, rfl⟩
      go_wp2_with fail
      refine (H2.out _).mono ?_
      rintro e w' ⟨rfl, rfl⟩
      go_wp2_with fail
      refine (H3.out _).mono ?_
      rintro e w' ⟨rfl, rfl⟩
      go_wp2_with fail
      refine (HE.out _).mono ?_
      rintro e w2 ⟨rfl, hb2⟩
      obtain ⟨⟨c0, c1, c2, c3, c4, c5, c6, c7, c8, f0, f1, f2, f3, f4, f5, f6, f7, f8⟩, wz, hz, hd, hbz⟩ := put9_end l h false 0 l 0 true 0 1 (box_first w _).1 (box_first w _).2 (Nat.le_refl _) hb2
      clear hb2
      go_wp2_with fail
      unfold put9 at hz
      rw [hz]
      refine bodyPost_ret (v := .agg #[.int .u64 l, .int .u64 h, .bool false, .int .i64 0, .int .u64 l, .int .u64 0, .bool true, .int .u64 0, .int .i64 1]) (by simp [results, Try.results20, go_sem, hd.c0, hd.c1, hd.c2, hd.c3, hd.c4, hd.c5, hd.c6, hd.c7, hd.c8]) rfl ⟨rfl, hbz⟩

/-- Begin, whatever the ends are: a search that is under way or ended. -/
theorem begin_phase (F : Nat → Option Int) (lo hi : Nat) (hl : U64 (lo : Int)) (hh : U64 (hi : Int)) :
    ∃ (d : Bool) (e : Int), SrP F lo hi (askV F lo hi).1 (askV F lo hi).2.1 (askV F lo hi).2.2 lo hi false 0 lo 0 d 0 e ∧ (d = false → endB lo hi = true) ∧
      ∀ w, Calls Try.prog 20 #[.int .u64 lo, .int .u64 hi] w fun r w' => r = .returned (.agg #[.int .u64 lo, .int .u64 hi, .bool false, .int .i64 0, .int .u64 lo, .int .u64 0, .bool d, .int .u64 0, .int .i64 e]) ∧ Below w.heap.size w w' := by
  cases hE : endB lo hi with
  | true => exact ⟨false, 0, Or.inr (Or.inl ⟨rfl, rfl, rfl, rfl, rfl, by unfold askV; rw [if_pos hE]⟩), fun _ => rfl, fun w => ref12Begin_ok lo hi w hl hh hE⟩
  | false =>
    have e : askV F lo hi = (0, 0, 1) := by unfold askV; rw [if_neg (by rw [hE]; simp)]
    rw [e]
    exact ⟨true, 1, Or.inl ⟨rfl, rfl, rfl, rfl⟩, fun h => by simp at h, fun w => ref12Begin_bad lo hi w hl hh hE⟩
end Go.Proofs.Ytoeifjnknhjchaa
