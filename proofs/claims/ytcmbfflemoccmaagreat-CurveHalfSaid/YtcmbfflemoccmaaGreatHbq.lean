/- Rates, counts and curves together. The law's awake: the document's example. -/
import Derived.Test.YtcmbfflemoccmaaGreatHbp
import Derived.Test.YtcmbfflemoccmaaGreatHbe
import Derived.Test.YtcmbfflemoccmaaGreatHbb
import Derived.Test.YtcmbfflemoccmaaGreatFCal
import Derived.Test.YtcmbfflemoccmaaGreatHar
namespace Go.Proofs.YtcmbfflemoccmaaGreat
open Go.RowKit
end Go.Proofs.YtcmbfflemoccmaaGreat
namespace Go.Proofs.YtcmbfflemoccmaaGreat
open Go.RowKit

def avD : List Int := [100, 200]
def avF : List Nat := [4602678819172646912, 4598175219545276416]
theorem av_ok : OkV 0 2 avD avF := ⟨by decide, by decide, by decide, by decide, by decide, by decide, rfl, fun i hi => by
  have hi' : i < 2 := hi
  rcases (show i = 0 ∨ i = 1 by omega) with rfl | rfl <;> decide +kernel⟩
theorem av_lin : linV (ctY avF) 0 100 50 = 4604930618986332160 := by decide +kernel
theorem av_at : FacO 0 2 avD avF 50 4604930618986332160 0 := by
  have hI : Inside (ctX 0 avD) 50 0 100 50 := ⟨by decide, by decide, by decide, by decide, by decide⟩
  have hk : FindR (ctX 0 avD) 50 0 := ⟨by decide, by decide, fun _ => by decide⟩
  have := AtO.piece (kind := 2) (xs := ctX 0 avD) (ys := ctY avF) (x := 50) 0 100 50 av_ok.table (.at_ av_ok.table (by decide) (by decide) 0 hk (fun j hj => by omega)) hk (by decide) hI
  unfold pieV at this
  rw [if_neg (by decide), if_pos rfl, av_lin] at this
  exact .ok av_ok _ _ this
theorem av_at0 : FacO 0 2 avD avF 0 4607182418800017408 0 := .ok av_ok _ _ (cur_node av_ok (i := 0) (by decide))
theorem av_at1 : FacO 0 2 avD avF 100 4602678819172646912 0 := .ok av_ok _ _ (cur_node av_ok (i := 1) (by decide))
theorem av_fall : fallB avF = true := by decide +kernel
theorem av_year : yW (fracS (fun _ => false) 1 0 100) (fracQ 1) = 4598675619503873138 := by decide +kernel
theorem av_fwd : fwdO 4607182418800017408 4602678819172646912 4598675619503873138 = some 4615288898129284300 := by decide +kernel
def avOX : Obj := .cells #[.int .i64 100, .int .i64 200] 3
def avOY : Obj := .cells #[.float .f64 4602678819172646912, .float .f64 4598175219545276416] 38
def avOT : Obj := .cells #[.int .i64 0, .int .i64 0, .slice none 0 0, .slice none 0 0] 25
def av3 (w : World) : World := ((w.alloc avOX).alloc avOY).alloc avOT
def av4 (w w3 : World) : World := (((w3.setCell ⟨w.heap.size + 1 + 1, 0, none⟩ (.int .i64 0)).setCell ⟨w.heap.size + 1 + 1, 1, none⟩ (.int .i64 2)).setCell ⟨w.heap.size + 1 + 1, 2, none⟩ (.slice (some ⟨w.heap.size, 0, none⟩) 2 2)).setCell ⟨w.heap.size + 1 + 1, 3, none⟩ (.slice (some ⟨w.heap.size + 1, 0, none⟩) 2 2)
structure AvB (w wr : World) : Prop where
  t0 : wr.cell? ⟨w.heap.size + 1 + 1, 0, none⟩ = some (.int .i64 0)
  t1 : wr.cell? ⟨w.heap.size + 1 + 1, 1, none⟩ = some (.int .i64 2)
  t2 : wr.cell? ⟨w.heap.size + 1 + 1, 2, none⟩ = some (.slice (some ⟨w.heap.size, 0, none⟩) 2 2)
  t3 : wr.cell? ⟨w.heap.size + 1 + 1, 3, none⟩ = some (.slice (some ⟨w.heap.size + 1, 0, none⟩) 2 2)
  src : TFl wr (some ⟨w.heap.size, 0, none⟩) (some ⟨w.heap.size + 1, 0, none⟩) w.heap.size 0 (w.heap.size + 1) 0 avD avF
  bl : Below w.heap.size w wr
  lt : w.heap.size + 1 + 1 < wr.heap.size
theorem AvB.step {w wr w' : World} (h : AvB w wr) (hb : Below wr.heap.size wr w') : AvB w w' :=
  ⟨(hb.cell (p := ⟨w.heap.size + 1 + 1, 0, none⟩) h.lt).trans h.t0, (hb.cell (p := ⟨w.heap.size + 1 + 1, 1, none⟩) h.lt).trans h.t1, (hb.cell (p := ⟨w.heap.size + 1 + 1, 2, none⟩) h.lt).trans h.t2, (hb.cell (p := ⟨w.heap.size + 1 + 1, 3, none⟩) h.lt).trans h.t3, h.src.below hb, h.bl.trans (hb.mono h.bl.size), Nat.lt_of_lt_of_le h.lt hb.size⟩
theorem av3_facts (w : World) : ((av3 w).heap.size = w.heap.size + 3 ∧ (av3 w).heap[w.heap.size]? = some avOX ∧ (av3 w).heap[w.heap.size + 1]? = some avOY ∧ (av3 w).heap[w.heap.size + 1 + 1]? = some avOT) ∧ Below w.heap.size w (av3 w) := by
  have s1 : (w.alloc avOX).heap.size = w.heap.size + 1 := by simp
  have s2 : ((w.alloc avOX).alloc avOY).heap.size = w.heap.size + 1 + 1 := by simp
  have b1 := (Below.refl (w.heap.size + 1) (w.alloc avOX)).alloc (by omega) avOY
  have b2 := (Below.refl (w.heap.size + 1 + 1) ((w.alloc avOX).alloc avOY)).alloc (by omega) avOT
  unfold av3
  refine ⟨⟨by simp, ?_, ?_, ?_⟩, (((Below.refl _ _).alloc (Nat.le_refl _) _).alloc (by omega) _).alloc (by omega) _⟩
  · rw [b2.block _ (by omega), b1.block _ (by omega)]; exact heap_alloc_new _ _
  · rw [b2.block _ (by omega), ← s1]; exact heap_alloc_new _ _
  · rw [← s2]; exact heap_alloc_new _ _
theorem av3_cells (w : World) : ((av3 w).cell? ⟨w.heap.size + 1 + 1, 0, none⟩ = some (.int .i64 0) ∧ (av3 w).cell? ⟨w.heap.size + 1 + 1, 1, none⟩ = some (.int .i64 0) ∧ (av3 w).cell? ⟨w.heap.size + 1 + 1, 2, none⟩ = some (.slice none 0 0) ∧ (av3 w).cell? ⟨w.heap.size + 1 + 1, 3, none⟩ = some (.slice none 0 0)) ∧ ∀ i, (av3 w).frozen? ⟨w.heap.size + 1 + 1, i, none⟩ = false := by
  have h := (av3_facts w).1.2.2.2
  unfold avOT at h
  refine ⟨⟨?_, ?_, ?_, ?_⟩, fun i => frozen_of_row _ _ i _ _ h⟩
  all_goals
    simp only [World.cell?, h, Option.isSome_none, Bool.false_eq_true, if_false]
    rfl
theorem av4_at (w : World) : AvB w (av4 w (av3 w)) := by
  obtain ⟨⟨hz, hx, hy, ht⟩, hb⟩ := av3_facts w
  have B2 : Below (w.heap.size + 1 + 1) (av3 w) (av4 w (av3 w)) := ((((Below.refl _ (av3 w)).setCell (p := ⟨w.heap.size + 1 + 1, 0, none⟩) (Nat.le_refl _) _).setCell (p := ⟨w.heap.size + 1 + 1, 1, none⟩) (Nat.le_refl _) _).setCell (p := ⟨w.heap.size + 1 + 1, 2, none⟩) (Nat.le_refl _) _).setCell (p := ⟨w.heap.size + 1 + 1, 3, none⟩) (Nat.le_refl _) _
  unfold avOT at ht
  have h4 : (av4 w (av3 w)).heap[w.heap.size + 1 + 1]? = some (.cells #[.int .i64 0, .int .i64 2, .slice (some ⟨w.heap.size, 0, none⟩) 2 2, .slice (some ⟨w.heap.size + 1, 0, none⟩) 2 2] 25) := set_blockF _ (set_blockF _ (set_blockF _ (set_blockF _ ht)))
  have hx' : (av4 w (av3 w)).heap[w.heap.size]? = some avOX := by rw [B2.block _ (by omega)]; exact hx
  have hy' : (av4 w (av3 w)).heap[w.heap.size + 1]? = some avOY := by rw [B2.block _ (by omega)]; exact hy
  have l4 := (Array.getElem?_eq_some_iff.1 h4).1
  unfold avOX at hx'
  unfold avOY at hy'
  refine ⟨?_, ?_, ?_, ?_, ⟨⟨fun _ => rfl, fun _ => by omega, fun j hj => ?_⟩, ⟨fun _ => rfl, fun _ => by omega, fun j hj => ?_⟩, fun i hi => ?_⟩, hb.trans (B2.mono (by omega)), l4⟩
  · simp only [World.cell?, h4, Option.isSome_none, Bool.false_eq_true, if_false]; rfl
  · simp only [World.cell?, h4, Option.isSome_none, Bool.false_eq_true, if_false]; rfl
  · simp only [World.cell?, h4, Option.isSome_none, Bool.false_eq_true, if_false]; rfl
  · simp only [World.cell?, h4, Option.isSome_none, Bool.false_eq_true, if_false]; rfl
  · have hj' : j < 2 := hj
    rcases (show j = 0 ∨ j = 1 by omega) with rfl | rfl
    all_goals
      simp only [World.cell?, hx', Option.isSome_none, Bool.false_eq_true, if_false]
      rfl
  · have hj' : j < 2 := hj
    rcases (show j = 0 ∨ j = 1 by omega) with rfl | rfl
    all_goals
      simp only [World.cell?, hy', Option.isSome_none, Bool.false_eq_true, if_false]
      rfl
  · have hi' : i < 2 := hi
    rcases (show i = 0 ∨ i = 1 by omega) with rfl | rfl <;> decide

set_option maxRecDepth 40000 in
set_option maxHeartbeats 6400000 in
theorem awake11 (w : World) : Calls Tryz.prog 9 #[] w fun e w' => e = .returned (.bool true) ∧ Below w.heap.size w w' := by
  obtain ⟨⟨c0, c1, c2, c3⟩, fz⟩ := av3_cells w
  have z0 := fz 0
  have z1 := fz 1
  have z2 := fz 2
  have z3 := fz 3
  have HS := hideS (av3_facts w).1.1
  have HB := hideS (av4_at w)
  clear fz
  obtain ⟨w3, hw3⟩ : ∃ w3, av3 w = w3 := ⟨_, rfl⟩
  rw [hw3] at c0 c1 c2 c3 z0 z1 z2 z3 HB HS
  obtain ⟨w4, hw4⟩ : ∃ w4, av4 w w3 = w4 := ⟨_, rfl⟩
  rw [hw4] at HB
  unfold av3 avOX avOY avOT at hw3
  unfold av4 at hw4
  have q1 : (FloatKind.f64.format.order 4604930618986332160 4604930618986332160 == some .eq) = true := by kernel_rfl
  have q2 : (FloatKind.f64.format.order 4615288898129284300 4615266380131147448 == some .gt) = true := by kernel_rfl
  have q3 : (FloatKind.f64.format.order 4615288898129284300 4615311416127421153 == some .lt) = true := by kernel_rfl
  have HFa : ∀ x V wx, AvB w wx → FacO 0 2 avD avF x V 0 → Calls Tryz.prog 15 #[.agg #[.int .i64 0, .int .i64 2, .slice (some ⟨w.heap.size, 0, none⟩) 2 2, .slice (some ⟨w.heap.size + 1, 0, none⟩) 2 2], .int .i64 x] wx fun e w' => e = .returned (.tuple #[.float .f64 V, .int .i64 0]) ∧ Below wx.heap.size wx w' := fun x V wx hb h => curFactor_any 0 2 x 0 V _ _ _ _ 2 _ _ 2 avD avF wx hb.src h
  have HAt : Hid (∀ wx, AvB w wx → Calls Tryz.prog 15 #[.agg #[.int .i64 0, .int .i64 2, .slice (some ⟨w.heap.size, 0, none⟩) 2 2, .slice (some ⟨w.heap.size + 1, 0, none⟩) 2 2], .int .i64 50] wx fun e w' => e = .returned (.tuple #[.float .f64 4604930618986332160, .int .i64 0]) ∧ Below wx.heap.size wx w') := fun wx hb => HFa 50 _ wx hb av_at
  have HFl : Hid (∀ wx, AvB w wx → Calls Tryz.prog 18 #[.agg #[.int .i64 0, .int .i64 2, .slice (some ⟨w.heap.size, 0, none⟩) 2 2, .slice (some ⟨w.heap.size + 1, 0, none⟩) 2 2]] wx fun e w' => e = .returned (.tuple #[.bool true, .int .i64 0]) ∧ Below wx.heap.size wx w') := fun wx hb => by
    have := curFalls_any 0 2 _ _ _ _ 2 _ _ 2 avD avF wx hb.src (.ok av_ok)
    rw [av_fall] at this
    exact this
  have HLa : Hid (∀ wx, AvB w wx → Calls Tryz.prog 13 #[.agg #[.int .i64 0, .int .i64 2, .slice (some ⟨w.heap.size, 0, none⟩) 2 2, .slice (some ⟨w.heap.size + 1, 0, none⟩) 2 2]] wx fun e w' => e = .returned (.tuple #[.int .i64 200, .int .i64 0]) ∧ Below wx.heap.size wx w') := fun wx hb => curLast_any 0 2 _ _ _ _ 2 _ _ 2 avD avF wx hb.src (.ok av_ok)
  have HFo : Hid (∀ wx, AvB w wx → Calls Tryz.prog 16 #[.agg #[.int .i64 0, .int .i64 2, .slice (some ⟨w.heap.size, 0, none⟩) 2 2, .slice (some ⟨w.heap.size + 1, 0, none⟩) 2 2], .int .i64 1, .agg #[.int .i64 0, .slice none 0 0], .int .i64 0, .int .i64 100] wx fun e w' => e = .returned (.tuple #[.float .f64 4615288898129284300, .int .i64 0]) ∧ Below wx.heap.size wx w') := fun wx hb =>
    curForward_4 0 2 1 0 0 100 _ _ _ 0 4607182418800017408 4602678819172646912 4598675619503873138 4615288898129284300 wx (fun wy hy => HFa 0 _ wy (hb.step hy) av_at0) (fun wy hy => HFa 100 _ wy (hb.step hy) av_at1)
      (fun wy hy => by
        have := yearP_ok 1 0 0 100 (fracS (fun _ => false) 1 0 100) (fracQ 1) (.slice none 0 0) wy (by decide) (by decide) (by decide) (by decide) (fracH_ok (fun _ => false) 1 0 0 100 (.slice none 0 0) wy (by decide) (by decide) ⟨by decide, by decide⟩ ⟨by decide, by decide⟩)
        rw [av_year] at this
        exact this)
      (fun wy hy => by
        have := forward_ok 4607182418800017408 4602678819172646912 4598675619503873138 4615288898129284300 wy (by decide) (by decide) (by decide) (by decide) (by rw [av_fwd]; exact rfl)
        rw [show enyN 4615288898129284300 = 4615288898129284300 by decide, show enyE ((4615288898129284300 : Nat) : Int) = 0 by decide] at this
        exact this)
  clear HFa
  have t0 := HB.out.t0
  have t1 := HB.out.t1
  have t2 := HB.out.t2
  have t3 := HB.out.t3
  go_enter Tryz.func9, Tryz.ntmps9
  go_wp2_with fail
  clear hw3 hw4 c0 c1 c2 c3 z0 z1 z2 z3 t0 t1 t2 t3
  refine (HAt.out _ HB.out).mono ?_
  rintro e w5 ⟨rfl, hb5⟩
  have HB5 := hideS (HB.out.step hb5)
  clear hb5 HAt HB
  have t0 := HB5.out.t0
  have t1 := HB5.out.t1
  have t2 := HB5.out.t2
  have t3 := HB5.out.t3
  go_wp2_with fail
  clear t0 t1 t2 t3
  refine (HFl.out _ HB5.out).mono ?_
  rintro e w6 ⟨rfl, hb6⟩
  have HB6 := hideS (HB5.out.step hb6)
  clear hb6 HFl HB5
  have t0 := HB6.out.t0
  have t1 := HB6.out.t1
  have t2 := HB6.out.t2
  have t3 := HB6.out.t3
  go_wp2_with fail
  clear t0 t1 t2 t3
  refine (HLa.out _ HB6.out).mono ?_
  rintro e w7 ⟨rfl, hb7⟩
  have HB7 := hideS (HB6.out.step hb7)
  clear hb7 HLa HB6
  have t0 := HB7.out.t0
  have t1 := HB7.out.t1
  have t2 := HB7.out.t2
  have t3 := HB7.out.t3
  go_wp2_with fail
  clear t0 t1 t2 t3
  refine (HFo.out _ HB7.out).mono ?_
  rintro e w8 ⟨rfl, hb8⟩
  have HB8 := hideS (HB7.out.step hb8)
  clear hb8 HFo HB7
  have t0 := HB8.out.t0
  have t1 := HB8.out.t1
  have t2 := HB8.out.t2
  have t3 := HB8.out.t3
  go_wp2_with fail
  clear t0 t1 t2 t3
  go_ret
  exact ⟨rfl, HB8.out.bl⟩
end Go.Proofs.YtcmbfflemoccmaaGreat
