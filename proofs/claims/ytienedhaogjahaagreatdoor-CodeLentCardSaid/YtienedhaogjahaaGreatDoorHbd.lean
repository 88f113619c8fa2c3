/- The document's side of an op: the term that has its fields. The document's ops and terms are compared. The document's side: whether a term's fields may be. -/
import Derived.Test.YtienedhaogjahaaGreatDoorHbc
namespace Go.Proofs.YtienedhaogjahaaGreatDoor
open Go.RowKit

theorem oTm_is {k j : Int} (h1 : 1 ≤ j) (h8 : j ≤ 8) (h0 : k ≠ 0) : tOp j = k ↔ oTm k = j := by
  unfold tOp oTm
  constructor
  · intro h
    split at h
    · rw [if_pos (by omega)]; omega
    split at h
    · rw [if_neg (by omega), if_pos (by omega)]; omega
    · omega
  · intro h
    split at h
    · rw [if_pos (by omega)]; omega
    split at h
    · rw [if_neg (by omega), if_pos (by omega)]; omega
    · omega
def cuO (k : Int) (j : Nat) : Int := if oTm k < j ∧ k ≠ 0 then oTm k else 0
theorem cuO_1 (k : Int) : cuO k 1 = 0 := by
  unfold cuO oTm; split <;> (try split) <;> (try split) <;> omega
theorem cuO_9 (k : Int) : cuO k 9 = oTm k := by
  unfold cuO oTm; split <;> (try split) <;> (try split) <;> omega
theorem cuO_hit {k : Int} {j : Nat} (h0 : k ≠ 0) (h1 : 1 ≤ j) (h8 : j ≤ 8) (h : tOp j = k) : cuO k (j + 1) = j := by
  have := (oTm_is (by omega) (by omega) h0).1 h
  unfold cuO; rw [this, if_pos ⟨by omega, h0⟩]
theorem cuO_miss {k : Int} {j : Nat} (h1 : 1 ≤ j) (h8 : j ≤ 8) (h : tOp j ≠ k ∨ k = 0) : cuO k (j + 1) = cuO k j := by
  unfold cuO
  by_cases h0 : k = 0
  · rw [if_neg (fun e => e.2 h0), if_neg (fun e => e.2 h0)]
  · have n : oTm k ≠ j := fun e => by
      rcases h with h | h
      · exact h ((oTm_is (by omega) (by omega) h0).2 e)
      · exact h0 h
    by_cases hl : oTm k < j
    · rw [if_pos ⟨by omega, h0⟩, if_pos ⟨hl, h0⟩]
    · rw [if_neg (fun e => by omega), if_neg (fun e => hl e.1)]
structure TmX (w : World) (g r t : Nat) (o : Opr) (k : Int) : Prop where
  g : w.heap[g]? = some (.cells #[.int .i64 o.kind, .int .u64 o.x, .int .u64 o.y, .int .i64 o.day, .int .i64 o.to, .int .i64 o.cur, .int .i64 o.count, .int .i64 o.n, .int .i64 o.months] 66)
  r : w.heap[r]? = some (.cells #[.int .i64 0, .int .i64 0, .int .i64 0, .int .u64 0, .int .u64 0, .int .i64 0, .int .i64 0, .int .i64 0, .int .i64 0, .int .i64 0, .int .i64 0] 64)
  t : w.heap[t]? = some (.cells #[.int .i64 k, .int .i64 0, .int .i64 0, .int .u64 o.x, .int .u64 o.y, .int .i64 o.day, .int .i64 o.to, .int .i64 o.cur, .int .i64 o.count, .int .i64 o.n, .int .i64 o.months] 64)
theorem TmX.set {w : World} {g r t : Nat} {o : Opr} {k : Int} (h : TmX w g r t o k) (hg : g ≠ t) (hr : r ≠ t) (j : Int) : TmX (w.setCell ⟨t, 0, none⟩ (.int .i64 j)) g r t o j :=
  ⟨(heap_setCell_other w ⟨t, 0, none⟩ g _ (fun h => hg h)).trans h.g, (heap_setCell_other w ⟨t, 0, none⟩ r _ (fun h => hr h)).trans h.r, (heap_setCell_same w t 0 _ _ _ h.t).trans rfl⟩
theorem TmX.drewN {w : World} {g r t : Nat} {o : Opr} {k : Int} (h : TmX w g r t o k) (n : Nat) : TmX (w.drewN n) g r t o k := ⟨h.g, h.r, h.t⟩
set_option maxRecDepth 20000 in
set_option maxHeartbeats 6400000 in
theorem r18Term_any (o : Opr) (w : World) : Calls Tryz.prog 28 #[.agg (opD o)] w fun e w' => e = .returned (.agg (trD (tmO o))) ∧ Below w.heap.size w w' := by
  unfold opD
  have HB0 : Hid (Below w.heap.size w (((w.alloc (.cells #[.int .i64 o.kind, .int .u64 o.x, .int .u64 o.y, .int .i64 o.day, .int .i64 o.to, .int .i64 o.cur, .int .i64 o.count, .int .i64 o.n, .int .i64 o.months] 66)).alloc (.cells #[.int .i64 0, .int .i64 0, .int .i64 0, .int .u64 0, .int .u64 0, .int .i64 0, .int .i64 0, .int .i64 0, .int .i64 0, .int .i64 0, .int .i64 0] 64)).alloc (.cells #[.int .i64 0, .int .i64 0, .int .i64 0, .int .u64 o.x, .int .u64 o.y, .int .i64 o.day, .int .i64 o.to, .int .i64 o.cur, .int .i64 o.count, .int .i64 o.n, .int .i64 o.months] 64))) := (((Below.refl _ _).alloc (Nat.le_refl _) _).alloc (by simp) _).alloc (by simp; omega) _
  have HX0 : Hid (TmX (((w.alloc (.cells #[.int .i64 o.kind, .int .u64 o.x, .int .u64 o.y, .int .i64 o.day, .int .i64 o.to, .int .i64 o.cur, .int .i64 o.count, .int .i64 o.n, .int .i64 o.months] 66)).alloc (.cells #[.int .i64 0, .int .i64 0, .int .i64 0, .int .u64 0, .int .u64 0, .int .i64 0, .int .i64 0, .int .i64 0, .int .i64 0, .int .i64 0, .int .i64 0] 64)).alloc (.cells #[.int .i64 0, .int .i64 0, .int .i64 0, .int .u64 o.x, .int .u64 o.y, .int .i64 o.day, .int .i64 o.to, .int .i64 o.cur, .int .i64 o.count, .int .i64 o.n, .int .i64 o.months] 64)) w.heap.size (w.heap.size + 1) (w.heap.size + 1 + 1) o 0) := by
    refine ⟨?_, ?_, ?_⟩
    · rw [al_at, sz_al, sz_al, if_neg (by omega), al_at, sz_al, if_neg (by omega), al_at, if_pos rfl]
    · rw [al_at, sz_al, sz_al, if_neg (by omega), al_at, sz_al, if_pos rfl]
    · rw [al_at, sz_al, sz_al, if_pos rfl]
  go_enter Tryz.func28, Tryz.ntmps28
  go_wp2_with fail
  obtain ⟨w1, hw1⟩ : ∃ w1, ((w.alloc (.cells #[.int .i64 o.kind, .int .u64 o.x, .int .u64 o.y, .int .i64 o.day, .int .i64 o.to, .int .i64 o.cur, .int .i64 o.count, .int .i64 o.n, .int .i64 o.months] 66)).alloc (.cells #[.int .i64 0, .int .i64 0, .int .i64 0, .int .u64 0, .int .u64 0, .int .i64 0, .int .i64 0, .int .i64 0, .int .i64 0, .int .i64 0, .int .i64 0] 64)).alloc (.cells #[.int .i64 0, .int .i64 0, .int .i64 0, .int .u64 o.x, .int .u64 o.y, .int .i64 o.day, .int .i64 o.to, .int .i64 o.cur, .int .i64 o.count, .int .i64 o.n, .int .i64 o.months] 64) = w1 := ⟨_, rfl⟩
  rw [hw1] at HB0 HX0 ⊢
  clear hw1
  obtain ⟨T, hT⟩ : ∃ T, w.heap.size + 1 + 1 = T := ⟨_, rfl⟩
  obtain ⟨R, hR⟩ : ∃ R, w.heap.size + 1 = R := ⟨_, rfl⟩
  obtain ⟨G, hG⟩ : ∃ G, w.heap.size = G := ⟨_, rfl⟩
  have hGT : G ≠ T := by omega
  have hRT : R ≠ T := by omega
  have hGR : G ≠ R := by omega
  have HL : Hid (w.heap.size ≤ T ∧ w.heap.size ≤ R) := ⟨by omega, by omega⟩
  rw [hT] at HX0 ⊢
  rw [hR] at HX0 ⊢
  have HB1 : Hid (Below w.heap.size w w1) := HB0
  clear HB0
  have HG := hidD hG
  rw [hG] at HX0
  simp only [hG]
  clear hT hR hG
  go_loopw [4] (fun i wr => ∃ j : Nat, 1 ≤ j ∧ j ≤ 9 ∧ i = .int .i64 j ∧ Hid (TmX wr G R T o (cuO o.kind j)) ∧ Hid (Below w.heap.size w wr)) (fun i _ => 9 - (intOf i).toNat)
  case atStart => exact ⟨1, by omega, by omega, rfl, by rw [cuO_1]; exact HX0, HB1⟩
  case round =>
    obtain ⟨j, hj1, hj9, rfl, HX, HB⟩ := hrel
    have c0 := (opx_cells HX.out.g 0 rfl).1
    have t0 := (opx_cells HX.out.t 0 rfl).1
    have f0 := (opx_cells HX.out.t 0 rfl).2
    by_cases hlt : j ≤ 8
    · have i1 : (j : Int) ≤ 8 := by omega
      have HK := hidD (r18Kind_any j)
      by_cases ho : o.kind = 0
      · have hm : cuO o.kind (j + 1) = cuO o.kind j := cuO_miss hj1 hlt (.inr ho)
        have HX2 : Hid (∀ n, TmX (wr.drewN n) G R T o (cuO o.kind (j + 1))) := fun n => by rw [hm]; exact HX.out.drewN n
        have HBn : Hid (∀ n, Below w.heap.size w (wr.drewN n)) := fun n => below_drewN HB.out n
        have o1 : (o.kind != 0) = false := by rw [ho]; rfl
        clear ho hm
        cases hq : (tOp j == o.kind)
        all_goals
          go_wp2_with fail
          go_quiet ((go_at_call 53; exact Calls.quiet_of_same (HK.out _)))
          go_wp2_with fail
          go_roundw
          case rel => exact ⟨j + 1, by omega, by omega, by simp, HX2.out _, HBn.out _⟩
          case measure => simp [intOf]; omega
      · have o1 : (o.kind != 0) = true := bne_iff_ne.2 ho
        cases hq : (tOp j == o.kind)
        · have hm : cuO o.kind (j + 1) = cuO o.kind j := cuO_miss hj1 hlt (.inl (by simpa using hq))
          have HX2 : Hid (∀ n, TmX (wr.drewN n) G R T o (cuO o.kind (j + 1))) := fun n => by rw [hm]; exact HX.out.drewN n
          have HBn : Hid (∀ n, Below w.heap.size w (wr.drewN n)) := fun n => below_drewN HB.out n
          clear ho hm
          go_wp2_with fail
          go_quiet ((go_at_call 53; exact Calls.quiet_of_same (HK.out _)))
          go_wp2_with fail
          go_roundw
          case rel => exact ⟨j + 1, by omega, by omega, by simp, HX2.out _, HBn.out _⟩
          case measure => simp [intOf]; omega
        · have hm : cuO o.kind (j + 1) = j := cuO_hit ho hj1 hlt (by simpa using hq)
          have HX2 : Hid (∀ n, TmX ((wr.drewN n).setCell ⟨T, 0, none⟩ (.int .i64 j)) G R T o (cuO o.kind (j + 1))) := fun n => by rw [hm]; exact (HX.out.drewN n).set hGT hRT j
          have HBn : Hid (∀ n, Below w.heap.size w ((wr.drewN n).setCell ⟨T, 0, none⟩ (.int .i64 j))) := fun n => Below.setCell (below_drewN HB.out n) (p := ⟨T, 0, none⟩) HL.out.1 _
          clear ho hm
          go_wp2_with fail
          go_quiet ((go_at_call 53; exact Calls.quiet_of_same (HK.out _)))
          go_wp2_with fail
          go_roundw
          case rel => exact ⟨j + 1, by omega, by omega, by simp, HX2.out _, HBn.out _⟩
          case measure => simp [intOf]; omega
    · have e9 : j = 9 := by omega
      subst e9
      rw [cuO_9] at HX t0
      have t1 := (opx_cells HX.out.t 1 rfl).1
      have t2 := (opx_cells HX.out.t 2 rfl).1
      have t3 := (opx_cells HX.out.t 3 rfl).1
      have t4 := (opx_cells HX.out.t 4 rfl).1
      have t5 := (opx_cells HX.out.t 5 rfl).1
      have t6 := (opx_cells HX.out.t 6 rfl).1
      have t7 := (opx_cells HX.out.t 7 rfl).1
      have t8 := (opx_cells HX.out.t 8 rfl).1
      have t9 := (opx_cells HX.out.t 9 rfl).1
      have t10 := (opx_cells HX.out.t 10 rfl).1
      have r0 := (opx_cells HX.out.r 0 rfl).1
      have y0 := (opx_cells HX.out.r 0 rfl).2
      have r1 := (opx_cells HX.out.r 1 rfl).1
      have y1 := (opx_cells HX.out.r 1 rfl).2
      have r2 := (opx_cells HX.out.r 2 rfl).1
      have y2 := (opx_cells HX.out.r 2 rfl).2
      have r3 := (opx_cells HX.out.r 3 rfl).1
      have y3 := (opx_cells HX.out.r 3 rfl).2
      have r4 := (opx_cells HX.out.r 4 rfl).1
      have y4 := (opx_cells HX.out.r 4 rfl).2
      have r5 := (opx_cells HX.out.r 5 rfl).1
      have y5 := (opx_cells HX.out.r 5 rfl).2
      have r6 := (opx_cells HX.out.r 6 rfl).1
      have y6 := (opx_cells HX.out.r 6 rfl).2
      have r7 := (opx_cells HX.out.r 7 rfl).1
      have y7 := (opx_cells HX.out.r 7 rfl).2
      have r8 := (opx_cells HX.out.r 8 rfl).1
      have y8 := (opx_cells HX.out.r 8 rfl).2
      have r9 := (opx_cells HX.out.r 9 rfl).1
      have y9 := (opx_cells HX.out.r 9 rfl).2
      have r10 := (opx_cells HX.out.r 10 rfl).1
      have y10 := (opx_cells HX.out.r 10 rfl).2
      go_wp2_with fail
      obtain ⟨v0, hv0⟩ : ∃ v, World.setCell wr ⟨R, 0, none⟩ (.int .i64 (oTm o.kind)) = v := ⟨_, rfl⟩
      have g0 : (World.heap v0)[R]? = some (.cells #[.int .i64 (oTm o.kind), .int .i64 0, .int .i64 0, .int .u64 0, .int .u64 0, .int .i64 0, .int .i64 0, .int .i64 0, .int .i64 0, .int .i64 0, .int .i64 0] 64) := by rw [← hv0]; exact (heap_setCell_same _ R 0 _ _ _ HX.out.r).trans rfl
      have B0 : Below w.heap.size w v0 := by rw [← hv0]; exact Below.setCell HB.out (p := ⟨R, 0, none⟩) HL.out.2 _
      rw [hv0]
      obtain ⟨v1, hv1⟩ : ∃ v, World.setCell v0 ⟨R, 1, none⟩ (.int .i64 0) = v := ⟨_, rfl⟩
      have g1 : (World.heap v1)[R]? = some (.cells #[.int .i64 (oTm o.kind), .int .i64 0, .int .i64 0, .int .u64 0, .int .u64 0, .int .i64 0, .int .i64 0, .int .i64 0, .int .i64 0, .int .i64 0, .int .i64 0] 64) := by rw [← hv1]; exact (heap_setCell_same _ R 1 _ _ _ g0).trans rfl
      have B1 : Below w.heap.size w v1 := by rw [← hv1]; exact Below.setCell B0 (p := ⟨R, 1, none⟩) HL.out.2 _
      rw [hv1]
      obtain ⟨v2, hv2⟩ : ∃ v, World.setCell v1 ⟨R, 2, none⟩ (.int .i64 0) = v := ⟨_, rfl⟩
      have g2 : (World.heap v2)[R]? = some (.cells #[.int .i64 (oTm o.kind), .int .i64 0, .int .i64 0, .int .u64 0, .int .u64 0, .int .i64 0, .int .i64 0, .int .i64 0, .int .i64 0, .int .i64 0, .int .i64 0] 64) := by rw [← hv2]; exact (heap_setCell_same _ R 2 _ _ _ g1).trans rfl
      have B2 : Below w.heap.size w v2 := by rw [← hv2]; exact Below.setCell B1 (p := ⟨R, 2, none⟩) HL.out.2 _
      rw [hv2]
      obtain ⟨v3, hv3⟩ : ∃ v, World.setCell v2 ⟨R, 3, none⟩ (.int .u64 o.x) = v := ⟨_, rfl⟩
      have g3 : (World.heap v3)[R]? = some (.cells #[.int .i64 (oTm o.kind), .int .i64 0, .int .i64 0, .int .u64 o.x, .int .u64 0, .int .i64 0, .int .i64 0, .int .i64 0, .int .i64 0, .int .i64 0, .int .i64 0] 64) := by rw [← hv3]; exact (heap_setCell_same _ R 3 _ _ _ g2).trans rfl
      have B3 : Below w.heap.size w v3 := by rw [← hv3]; exact Below.setCell B2 (p := ⟨R, 3, none⟩) HL.out.2 _
      rw [hv3]
      obtain ⟨v4, hv4⟩ : ∃ v, World.setCell v3 ⟨R, 4, none⟩ (.int .u64 o.y) = v := ⟨_, rfl⟩
      have g4 : (World.heap v4)[R]? = some (.cells #[.int .i64 (oTm o.kind), .int .i64 0, .int .i64 0, .int .u64 o.x, .int .u64 o.y, .int .i64 0, .int .i64 0, .int .i64 0, .int .i64 0, .int .i64 0, .int .i64 0] 64) := by rw [← hv4]; exact (heap_setCell_same _ R 4 _ _ _ g3).trans rfl
      have B4 : Below w.heap.size w v4 := by rw [← hv4]; exact Below.setCell B3 (p := ⟨R, 4, none⟩) HL.out.2 _
      rw [hv4]
      obtain ⟨v5, hv5⟩ : ∃ v, World.setCell v4 ⟨R, 5, none⟩ (.int .i64 o.day) = v := ⟨_, rfl⟩
      have g5 : (World.heap v5)[R]? = some (.cells #[.int .i64 (oTm o.kind), .int .i64 0, .int .i64 0, .int .u64 o.x, .int .u64 o.y, .int .i64 o.day, .int .i64 0, .int .i64 0, .int .i64 0, .int .i64 0, .int .i64 0] 64) := by rw [← hv5]; exact (heap_setCell_same _ R 5 _ _ _ g4).trans rfl
      have B5 : Below w.heap.size w v5 := by rw [← hv5]; exact Below.setCell B4 (p := ⟨R, 5, none⟩) HL.out.2 _
      rw [hv5]
      obtain ⟨v6, hv6⟩ : ∃ v, World.setCell v5 ⟨R, 6, none⟩ (.int .i64 o.to) = v := ⟨_, rfl⟩
      have g6 : (World.heap v6)[R]? = some (.cells #[.int .i64 (oTm o.kind), .int .i64 0, .int .i64 0, .int .u64 o.x, .int .u64 o.y, .int .i64 o.day, .int .i64 o.to, .int .i64 0, .int .i64 0, .int .i64 0, .int .i64 0] 64) := by rw [← hv6]; exact (heap_setCell_same _ R 6 _ _ _ g5).trans rfl
      have B6 : Below w.heap.size w v6 := by rw [← hv6]; exact Below.setCell B5 (p := ⟨R, 6, none⟩) HL.out.2 _
      rw [hv6]
      obtain ⟨v7, hv7⟩ : ∃ v, World.setCell v6 ⟨R, 7, none⟩ (.int .i64 o.cur) = v := ⟨_, rfl⟩
      have g7 : (World.heap v7)[R]? = some (.cells #[.int .i64 (oTm o.kind), .int .i64 0, .int .i64 0, .int .u64 o.x, .int .u64 o.y, .int .i64 o.day, .int .i64 o.to, .int .i64 o.cur, .int .i64 0, .int .i64 0, .int .i64 0] 64) := by rw [← hv7]; exact (heap_setCell_same _ R 7 _ _ _ g6).trans rfl
      have B7 : Below w.heap.size w v7 := by rw [← hv7]; exact Below.setCell B6 (p := ⟨R, 7, none⟩) HL.out.2 _
      rw [hv7]
      obtain ⟨v8, hv8⟩ : ∃ v, World.setCell v7 ⟨R, 8, none⟩ (.int .i64 o.count) = v := ⟨_, rfl⟩
      have g8 : (World.heap v8)[R]? = some (.cells #[.int .i64 (oTm o.kind), .int .i64 0, .int .i64 0, .int .u64 o.x, .int .u64 o.y, .int .i64 o.day, .int .i64 o.to, .int .i64 o.cur, .int .i64 o.count, .int .i64 0, .int .i64 0] 64) := by rw [← hv8]; exact (heap_setCell_same _ R 8 _ _ _ g7).trans rfl
      have B8 : Below w.heap.size w v8 := by rw [← hv8]; exact Below.setCell B7 (p := ⟨R, 8, none⟩) HL.out.2 _
      rw [hv8]
      obtain ⟨v9, hv9⟩ : ∃ v, World.setCell v8 ⟨R, 9, none⟩ (.int .i64 o.n) = v := ⟨_, rfl⟩
      have g9 : (World.heap v9)[R]? = some (.cells #[.int .i64 (oTm o.kind), .int .i64 0, .int .i64 0, .int .u64 o.x, .int .u64 o.y, .int .i64 o.day, .int .i64 o.to, .int .i64 o.cur, .int .i64 o.count, .int .i64 o.n, .int .i64 0] 64) := by rw [← hv9]; exact (heap_setCell_same _ R 9 _ _ _ g8).trans rfl
      have B9 : Below w.heap.size w v9 := by rw [← hv9]; exact Below.setCell B8 (p := ⟨R, 9, none⟩) HL.out.2 _
      rw [hv9]
      obtain ⟨v10, hv10⟩ : ∃ v, World.setCell v9 ⟨R, 10, none⟩ (.int .i64 o.months) = v := ⟨_, rfl⟩
      have g10 : (World.heap v10)[R]? = some (.cells #[.int .i64 (oTm o.kind), .int .i64 0, .int .i64 0, .int .u64 o.x, .int .u64 o.y, .int .i64 o.day, .int .i64 o.to, .int .i64 o.cur, .int .i64 o.count, .int .i64 o.n, .int .i64 o.months] 64) := by rw [← hv10]; exact (heap_setCell_same _ R 10 _ _ _ g9).trans rfl
      have B10 : Below w.heap.size w v10 := by rw [← hv10]; exact Below.setCell B9 (p := ⟨R, 10, none⟩) HL.out.2 _
      rw [hv10]
      have HE := hidD (And.intro g10 B10)
      have z0 := (opx_cells g10 0 rfl).1
      have z1 := (opx_cells g10 1 rfl).1
      have z2 := (opx_cells g10 2 rfl).1
      have z3 := (opx_cells g10 3 rfl).1
      have z4 := (opx_cells g10 4 rfl).1
      have z5 := (opx_cells g10 5 rfl).1
      have z6 := (opx_cells g10 6 rfl).1
      have z7 := (opx_cells g10 7 rfl).1
      have z8 := (opx_cells g10 8 rfl).1
      have z9 := (opx_cells g10 9 rfl).1
      have z10 := (opx_cells g10 10 rfl).1
      clear hv0 g0 B0 r0 y0 t0 hv1 g1 B1 r1 y1 t1 hv2 g2 B2 r2 y2 t2 hv3 g3 B3 r3 y3 t3 hv4 g4 B4 r4 y4 t4 hv5 g5 B5 r5 y5 t5 hv6 g6 B6 r6 y6 t6 hv7 g7 B7 r7 y7 t7 hv8 g8 B8 r8 y8 t8 hv9 g9 B9 r9 y9 t9 hv10 g10 B10 r10 y10 t10
      exact bodyPost_ret (v := .agg (trD (tmO o))) (by simp [results, Tryz.results28, go_sem, trD, tmO, *]) rfl ⟨rfl, HE.out.2⟩
end Go.Proofs.YtienedhaogjahaaGreatDoor
namespace Go.Proofs.YtienedhaogjahaaGreatDoor
open Go.RowKit

theorem od_h1 : Tryz.prog.stoodInHeld 66 = false := by kernel_rfl
theorem od_h2 : Tryz.prog.underlying 66 = some (.struct (Tryz.prog.fieldsOf 66)) := by kernel_rfl
theorem od_hf : (Tryz.prog.fieldsOf 66).toList = [(Tryz.prog.fieldsOf 66)[0]!, (Tryz.prog.fieldsOf 66)[1]!, (Tryz.prog.fieldsOf 66)[2]!, (Tryz.prog.fieldsOf 66)[3]!, (Tryz.prog.fieldsOf 66)[4]!, (Tryz.prog.fieldsOf 66)[5]!, (Tryz.prog.fieldsOf 66)[6]!, (Tryz.prog.fieldsOf 66)[7]!, (Tryz.prog.fieldsOf 66)[8]!] := by kernel_rfl
theorem od_n0 : ((Tryz.prog.fieldsOf 66)[0]!.name != "_") = true := by kernel_rfl
theorem od_t0 : (Tryz.prog.fieldsOf 66)[0]!.type = 3 := by kernel_rfl
theorem od_p0 (p0 : Int) (p1 : Int) (p2 : Int) (p3 : Int) (p4 : Int) (p5 : Int) (p6 : Int) (p7 : Int) (p8 : Int) (w : World) : (part (Tryz.prog.fieldsOf 66)[0]!.type #[.int .i64 p0, .int .u64 p1, .int .u64 p2, .int .i64 p3, .int .i64 p4, .int .i64 p5, .int .i64 p6, .int .i64 p7, .int .i64 p8] (Tryz.prog.fieldsOf 66)[0]!.offset).run Tryz.prog w = .ok (.int .i64 p0) w := by kernel_rfl
theorem od_e0 (a b : Int) (w : World) : (Op.equalIn 9999 (Tryz.prog.fieldsOf 66)[0]!.type (.int .i64 a) (.int .i64 b)).run Tryz.prog w = .ok (a == b) w := by
  rw [show (9999 : Nat) = 9998 + 1 from rfl, od_t0, run_equalIn_int w 9998 3 .i64 .i64 a b (by kernel_rfl)]
theorem od_n1 : ((Tryz.prog.fieldsOf 66)[1]!.name != "_") = true := by kernel_rfl
theorem od_t1 : (Tryz.prog.fieldsOf 66)[1]!.type = 61 := by kernel_rfl
theorem od_p1 (p0 : Int) (p1 : Int) (p2 : Int) (p3 : Int) (p4 : Int) (p5 : Int) (p6 : Int) (p7 : Int) (p8 : Int) (w : World) : (part (Tryz.prog.fieldsOf 66)[1]!.type #[.int .i64 p0, .int .u64 p1, .int .u64 p2, .int .i64 p3, .int .i64 p4, .int .i64 p5, .int .i64 p6, .int .i64 p7, .int .i64 p8] (Tryz.prog.fieldsOf 66)[1]!.offset).run Tryz.prog w = .ok (.int .u64 p1) w := by kernel_rfl
theorem od_e1 (a b : Int) (w : World) : (Op.equalIn 9999 (Tryz.prog.fieldsOf 66)[1]!.type (.int .u64 a) (.int .u64 b)).run Tryz.prog w = .ok (a == b) w := by
  rw [show (9999 : Nat) = 9998 + 1 from rfl, od_t1, run_equalIn_int w 9998 61 .u64 .u64 a b (by kernel_rfl)]
theorem od_n2 : ((Tryz.prog.fieldsOf 66)[2]!.name != "_") = true := by kernel_rfl
theorem od_t2 : (Tryz.prog.fieldsOf 66)[2]!.type = 61 := by kernel_rfl
theorem od_p2 (p0 : Int) (p1 : Int) (p2 : Int) (p3 : Int) (p4 : Int) (p5 : Int) (p6 : Int) (p7 : Int) (p8 : Int) (w : World) : (part (Tryz.prog.fieldsOf 66)[2]!.type #[.int .i64 p0, .int .u64 p1, .int .u64 p2, .int .i64 p3, .int .i64 p4, .int .i64 p5, .int .i64 p6, .int .i64 p7, .int .i64 p8] (Tryz.prog.fieldsOf 66)[2]!.offset).run Tryz.prog w = .ok (.int .u64 p2) w := by kernel_rfl
theorem od_e2 (a b : Int) (w : World) : (Op.equalIn 9999 (Tryz.prog.fieldsOf 66)[2]!.type (.int .u64 a) (.int .u64 b)).run Tryz.prog w = .ok (a == b) w := by
  rw [show (9999 : Nat) = 9998 + 1 from rfl, od_t2, run_equalIn_int w 9998 61 .u64 .u64 a b (by kernel_rfl)]
theorem od_n3 : ((Tryz.prog.fieldsOf 66)[3]!.name != "_") = true := by kernel_rfl
theorem od_t3 : (Tryz.prog.fieldsOf 66)[3]!.type = 3 := by kernel_rfl
theorem od_p3 (p0 : Int) (p1 : Int) (p2 : Int) (p3 : Int) (p4 : Int) (p5 : Int) (p6 : Int) (p7 : Int) (p8 : Int) (w : World) : (part (Tryz.prog.fieldsOf 66)[3]!.type #[.int .i64 p0, .int .u64 p1, .int .u64 p2, .int .i64 p3, .int .i64 p4, .int .i64 p5, .int .i64 p6, .int .i64 p7, .int .i64 p8] (Tryz.prog.fieldsOf 66)[3]!.offset).run Tryz.prog w = .ok (.int .i64 p3) w := by kernel_rfl
theorem od_e3 (a b : Int) (w : World) : (Op.equalIn 9999 (Tryz.prog.fieldsOf 66)[3]!.type (.int .i64 a) (.int .i64 b)).run Tryz.prog w = .ok (a == b) w := by
  rw [show (9999 : Nat) = 9998 + 1 from rfl, od_t3, run_equalIn_int w 9998 3 .i64 .i64 a b (by kernel_rfl)]
theorem od_n4 : ((Tryz.prog.fieldsOf 66)[4]!.name != "_") = true := by kernel_rfl
theorem od_t4 : (Tryz.prog.fieldsOf 66)[4]!.type = 3 := by kernel_rfl
theorem od_p4 (p0 : Int) (p1 : Int) (p2 : Int) (p3 : Int) (p4 : Int) (p5 : Int) (p6 : Int) (p7 : Int) (p8 : Int) (w : World) : (part (Tryz.prog.fieldsOf 66)[4]!.type #[.int .i64 p0, .int .u64 p1, .int .u64 p2, .int .i64 p3, .int .i64 p4, .int .i64 p5, .int .i64 p6, .int .i64 p7, .int .i64 p8] (Tryz.prog.fieldsOf 66)[4]!.offset).run Tryz.prog w = .ok (.int .i64 p4) w := by kernel_rfl
theorem od_e4 (a b : Int) (w : World) : (Op.equalIn 9999 (Tryz.prog.fieldsOf 66)[4]!.type (.int .i64 a) (.int .i64 b)).run Tryz.prog w = .ok (a == b) w := by
  rw [show (9999 : Nat) = 9998 + 1 from rfl, od_t4, run_equalIn_int w 9998 3 .i64 .i64 a b (by kernel_rfl)]
theorem od_n5 : ((Tryz.prog.fieldsOf 66)[5]!.name != "_") = true := by kernel_rfl
theorem od_t5 : (Tryz.prog.fieldsOf 66)[5]!.type = 3 := by kernel_rfl
theorem od_p5 (p0 : Int) (p1 : Int) (p2 : Int) (p3 : Int) (p4 : Int) (p5 : Int) (p6 : Int) (p7 : Int) (p8 : Int) (w : World) : (part (Tryz.prog.fieldsOf 66)[5]!.type #[.int .i64 p0, .int .u64 p1, .int .u64 p2, .int .i64 p3, .int .i64 p4, .int .i64 p5, .int .i64 p6, .int .i64 p7, .int .i64 p8] (Tryz.prog.fieldsOf 66)[5]!.offset).run Tryz.prog w = .ok (.int .i64 p5) w := by kernel_rfl
theorem od_e5 (a b : Int) (w : World) : (Op.equalIn 9999 (Tryz.prog.fieldsOf 66)[5]!.type (.int .i64 a) (.int .i64 b)).run Tryz.prog w = .ok (a == b) w := by
  rw [show (9999 : Nat) = 9998 + 1 from rfl, od_t5, run_equalIn_int w 9998 3 .i64 .i64 a b (by kernel_rfl)]
theorem od_n6 : ((Tryz.prog.fieldsOf 66)[6]!.name != "_") = true := by kernel_rfl
theorem od_t6 : (Tryz.prog.fieldsOf 66)[6]!.type = 3 := by kernel_rfl
theorem od_p6 (p0 : Int) (p1 : Int) (p2 : Int) (p3 : Int) (p4 : Int) (p5 : Int) (p6 : Int) (p7 : Int) (p8 : Int) (w : World) : (part (Tryz.prog.fieldsOf 66)[6]!.type #[.int .i64 p0, .int .u64 p1, .int .u64 p2, .int .i64 p3, .int .i64 p4, .int .i64 p5, .int .i64 p6, .int .i64 p7, .int .i64 p8] (Tryz.prog.fieldsOf 66)[6]!.offset).run Tryz.prog w = .ok (.int .i64 p6) w := by kernel_rfl
theorem od_e6 (a b : Int) (w : World) : (Op.equalIn 9999 (Tryz.prog.fieldsOf 66)[6]!.type (.int .i64 a) (.int .i64 b)).run Tryz.prog w = .ok (a == b) w := by
  rw [show (9999 : Nat) = 9998 + 1 from rfl, od_t6, run_equalIn_int w 9998 3 .i64 .i64 a b (by kernel_rfl)]
theorem od_n7 : ((Tryz.prog.fieldsOf 66)[7]!.name != "_") = true := by kernel_rfl
theorem od_t7 : (Tryz.prog.fieldsOf 66)[7]!.type = 3 := by kernel_rfl
theorem od_p7 (p0 : Int) (p1 : Int) (p2 : Int) (p3 : Int) (p4 : Int) (p5 : Int) (p6 : Int) (p7 : Int) (p8 : Int) (w : World) : (part (Tryz.prog.fieldsOf 66)[7]!.type #[.int .i64 p0, .int .u64 p1, .int .u64 p2, .int .i64 p3, .int .i64 p4, .int .i64 p5, .int .i64 p6, .int .i64 p7, .int .i64 p8] (Tryz.prog.fieldsOf 66)[7]!.offset).run Tryz.prog w = .ok (.int .i64 p7) w := by kernel_rfl
theorem od_e7 (a b : Int) (w : World) : (Op.equalIn 9999 (Tryz.prog.fieldsOf 66)[7]!.type (.int .i64 a) (.int .i64 b)).run Tryz.prog w = .ok (a == b) w := by
  rw [show (9999 : Nat) = 9998 + 1 from rfl, od_t7, run_equalIn_int w 9998 3 .i64 .i64 a b (by kernel_rfl)]
theorem od_n8 : ((Tryz.prog.fieldsOf 66)[8]!.name != "_") = true := by kernel_rfl
theorem od_t8 : (Tryz.prog.fieldsOf 66)[8]!.type = 3 := by kernel_rfl
theorem od_p8 (p0 : Int) (p1 : Int) (p2 : Int) (p3 : Int) (p4 : Int) (p5 : Int) (p6 : Int) (p7 : Int) (p8 : Int) (w : World) : (part (Tryz.prog.fieldsOf 66)[8]!.type #[.int .i64 p0, .int .u64 p1, .int .u64 p2, .int .i64 p3, .int .i64 p4, .int .i64 p5, .int .i64 p6, .int .i64 p7, .int .i64 p8] (Tryz.prog.fieldsOf 66)[8]!.offset).run Tryz.prog w = .ok (.int .i64 p8) w := by kernel_rfl
theorem od_e8 (a b : Int) (w : World) : (Op.equalIn 9999 (Tryz.prog.fieldsOf 66)[8]!.type (.int .i64 a) (.int .i64 b)).run Tryz.prog w = .ok (a == b) w := by
  rw [show (9999 : Nat) = 9998 + 1 from rfl, od_t8, run_equalIn_int w 9998 3 .i64 .i64 a b (by kernel_rfl)]
theorem od_eql (p0 : Int) (p1 : Int) (p2 : Int) (p3 : Int) (p4 : Int) (p5 : Int) (p6 : Int) (p7 : Int) (p8 : Int) (q0 : Int) (q1 : Int) (q2 : Int) (q3 : Int) (q4 : Int) (q5 : Int) (q6 : Int) (q7 : Int) (q8 : Int) (w : World) : (binOp .eql 66 (.agg #[.int .i64 p0, .int .u64 p1, .int .u64 p2, .int .i64 p3, .int .i64 p4, .int .i64 p5, .int .i64 p6, .int .i64 p7, .int .i64 p8]) (.agg #[.int .i64 q0, .int .u64 q1, .int .u64 q2, .int .i64 q3, .int .i64 q4, .int .i64 q5, .int .i64 q6, .int .i64 q7, .int .i64 q8])).run Tryz.prog w = .ok (.bool ((p0 == q0) && ((p1 == q1) && ((p2 == q2) && ((p3 == q3) && ((p4 == q4) && ((p5 == q5) && ((p6 == q6) && ((p7 == q7) && ((p8 == q8) && true)))))))))) w := by
  rw [run_eql_struct, show (10000 : Nat) = 9999 + 1 from rfl, run_equalIn_agg w 9999 66 _ _ od_h2 od_h1, od_hf, (eqf_cons od_n0 (od_p0 p0 p1 p2 p3 p4 p5 p6 p7 p8 w) (od_p0 q0 q1 q2 q3 q4 q5 q6 q7 q8 w) (od_e0 p0 q0 w) (eqf_cons od_n1 (od_p1 p0 p1 p2 p3 p4 p5 p6 p7 p8 w) (od_p1 q0 q1 q2 q3 q4 q5 q6 q7 q8 w) (od_e1 p1 q1 w) (eqf_cons od_n2 (od_p2 p0 p1 p2 p3 p4 p5 p6 p7 p8 w) (od_p2 q0 q1 q2 q3 q4 q5 q6 q7 q8 w) (od_e2 p2 q2 w) (eqf_cons od_n3 (od_p3 p0 p1 p2 p3 p4 p5 p6 p7 p8 w) (od_p3 q0 q1 q2 q3 q4 q5 q6 q7 q8 w) (od_e3 p3 q3 w) (eqf_cons od_n4 (od_p4 p0 p1 p2 p3 p4 p5 p6 p7 p8 w) (od_p4 q0 q1 q2 q3 q4 q5 q6 q7 q8 w) (od_e4 p4 q4 w) (eqf_cons od_n5 (od_p5 p0 p1 p2 p3 p4 p5 p6 p7 p8 w) (od_p5 q0 q1 q2 q3 q4 q5 q6 q7 q8 w) (od_e5 p5 q5 w) (eqf_cons od_n6 (od_p6 p0 p1 p2 p3 p4 p5 p6 p7 p8 w) (od_p6 q0 q1 q2 q3 q4 q5 q6 q7 q8 w) (od_e6 p6 q6 w) (eqf_cons od_n7 (od_p7 p0 p1 p2 p3 p4 p5 p6 p7 p8 w) (od_p7 q0 q1 q2 q3 q4 q5 q6 q7 q8 w) (od_e7 p7 q7 w) (eqf_cons od_n8 (od_p8 p0 p1 p2 p3 p4 p5 p6 p7 p8 w) (od_p8 q0 q1 q2 q3 q4 q5 q6 q7 q8 w) (od_e8 p8 q8 w) eqf_nil)))))))))]
  rfl
theorem td_h1 : Tryz.prog.stoodInHeld 64 = false := by kernel_rfl
theorem td_h2 : Tryz.prog.underlying 64 = some (.struct (Tryz.prog.fieldsOf 64)) := by kernel_rfl
theorem td_hf : (Tryz.prog.fieldsOf 64).toList = [(Tryz.prog.fieldsOf 64)[0]!, (Tryz.prog.fieldsOf 64)[1]!, (Tryz.prog.fieldsOf 64)[2]!, (Tryz.prog.fieldsOf 64)[3]!, (Tryz.prog.fieldsOf 64)[4]!, (Tryz.prog.fieldsOf 64)[5]!, (Tryz.prog.fieldsOf 64)[6]!, (Tryz.prog.fieldsOf 64)[7]!, (Tryz.prog.fieldsOf 64)[8]!, (Tryz.prog.fieldsOf 64)[9]!, (Tryz.prog.fieldsOf 64)[10]!] := by kernel_rfl
theorem td_n0 : ((Tryz.prog.fieldsOf 64)[0]!.name != "_") = true := by kernel_rfl
theorem td_t0 : (Tryz.prog.fieldsOf 64)[0]!.type = 3 := by kernel_rfl
theorem td_p0 (p0 : Int) (p1 : Int) (p2 : Int) (p3 : Int) (p4 : Int) (p5 : Int) (p6 : Int) (p7 : Int) (p8 : Int) (p9 : Int) (p10 : Int) (w : World) : (part (Tryz.prog.fieldsOf 64)[0]!.type #[.int .i64 p0, .int .i64 p1, .int .i64 p2, .int .u64 p3, .int .u64 p4, .int .i64 p5, .int .i64 p6, .int .i64 p7, .int .i64 p8, .int .i64 p9, .int .i64 p10] (Tryz.prog.fieldsOf 64)[0]!.offset).run Tryz.prog w = .ok (.int .i64 p0) w := by kernel_rfl
theorem td_e0 (a b : Int) (w : World) : (Op.equalIn 9999 (Tryz.prog.fieldsOf 64)[0]!.type (.int .i64 a) (.int .i64 b)).run Tryz.prog w = .ok (a == b) w := by
  rw [show (9999 : Nat) = 9998 + 1 from rfl, td_t0, run_equalIn_int w 9998 3 .i64 .i64 a b (by kernel_rfl)]
theorem td_n1 : ((Tryz.prog.fieldsOf 64)[1]!.name != "_") = true := by kernel_rfl
theorem td_t1 : (Tryz.prog.fieldsOf 64)[1]!.type = 3 := by kernel_rfl
theorem td_p1 (p0 : Int) (p1 : Int) (p2 : Int) (p3 : Int) (p4 : Int) (p5 : Int) (p6 : Int) (p7 : Int) (p8 : Int) (p9 : Int) (p10 : Int) (w : World) : (part (Tryz.prog.fieldsOf 64)[1]!.type #[.int .i64 p0, .int .i64 p1, .int .i64 p2, .int .u64 p3, .int .u64 p4, .int .i64 p5, .int .i64 p6, .int .i64 p7, .int .i64 p8, .int .i64 p9, .int .i64 p10] (Tryz.prog.fieldsOf 64)[1]!.offset).run Tryz.prog w = .ok (.int .i64 p1) w := by kernel_rfl
theorem td_e1 (a b : Int) (w : World) : (Op.equalIn 9999 (Tryz.prog.fieldsOf 64)[1]!.type (.int .i64 a) (.int .i64 b)).run Tryz.prog w = .ok (a == b) w := by
  rw [show (9999 : Nat) = 9998 + 1 from rfl, td_t1, run_equalIn_int w 9998 3 .i64 .i64 a b (by kernel_rfl)]
theorem td_n2 : ((Tryz.prog.fieldsOf 64)[2]!.name != "_") = true := by kernel_rfl
theorem td_t2 : (Tryz.prog.fieldsOf 64)[2]!.type = 3 := by kernel_rfl
theorem td_p2 (p0 : Int) (p1 : Int) (p2 : Int) (p3 : Int) (p4 : Int) (p5 : Int) (p6 : Int) (p7 : Int) (p8 : Int) (p9 : Int) (p10 : Int) (w : World) : (part (Tryz.prog.fieldsOf 64)[2]!.type #[.int .i64 p0, .int .i64 p1, .int .i64 p2, .int .u64 p3, .int .u64 p4, .int .i64 p5, .int .i64 p6, .int .i64 p7, .int .i64 p8, .int .i64 p9, .int .i64 p10] (Tryz.prog.fieldsOf 64)[2]!.offset).run Tryz.prog w = .ok (.int .i64 p2) w := by kernel_rfl
theorem td_e2 (a b : Int) (w : World) : (Op.equalIn 9999 (Tryz.prog.fieldsOf 64)[2]!.type (.int .i64 a) (.int .i64 b)).run Tryz.prog w = .ok (a == b) w := by
  rw [show (9999 : Nat) = 9998 + 1 from rfl, td_t2, run_equalIn_int w 9998 3 .i64 .i64 a b (by kernel_rfl)]
theorem td_n3 : ((Tryz.prog.fieldsOf 64)[3]!.name != "_") = true := by kernel_rfl
theorem td_t3 : (Tryz.prog.fieldsOf 64)[3]!.type = 61 := by kernel_rfl
theorem td_p3 (p0 : Int) (p1 : Int) (p2 : Int) (p3 : Int) (p4 : Int) (p5 : Int) (p6 : Int) (p7 : Int) (p8 : Int) (p9 : Int) (p10 : Int) (w : World) : (part (Tryz.prog.fieldsOf 64)[3]!.type #[.int .i64 p0, .int .i64 p1, .int .i64 p2, .int .u64 p3, .int .u64 p4, .int .i64 p5, .int .i64 p6, .int .i64 p7, .int .i64 p8, .int .i64 p9, .int .i64 p10] (Tryz.prog.fieldsOf 64)[3]!.offset).run Tryz.prog w = .ok (.int .u64 p3) w := by kernel_rfl
theorem td_e3 (a b : Int) (w : World) : (Op.equalIn 9999 (Tryz.prog.fieldsOf 64)[3]!.type (.int .u64 a) (.int .u64 b)).run Tryz.prog w = .ok (a == b) w := by
  rw [show (9999 : Nat) = 9998 + 1 from rfl, td_t3, run_equalIn_int w 9998 61 .u64 .u64 a b (by kernel_rfl)]
theorem td_n4 : ((Tryz.prog.fieldsOf 64)[4]!.name != "_") = true := by kernel_rfl
theorem td_t4 : (Tryz.prog.fieldsOf 64)[4]!.type = 61 := by kernel_rfl
theorem td_p4 (p0 : Int) (p1 : Int) (p2 : Int) (p3 : Int) (p4 : Int) (p5 : Int) (p6 : Int) (p7 : Int) (p8 : Int) (p9 : Int) (p10 : Int) (w : World) : (part (Tryz.prog.fieldsOf 64)[4]!.type #[.int .i64 p0, .int .i64 p1, .int .i64 p2, .int .u64 p3, .int .u64 p4, .int .i64 p5, .int .i64 p6, .int .i64 p7, .int .i64 p8, .int .i64 p9, .int .i64 p10] (Tryz.prog.fieldsOf 64)[4]!.offset).run Tryz.prog w = .ok (.int .u64 p4) w := by kernel_rfl
theorem td_e4 (a b : Int) (w : World) : (Op.equalIn 9999 (Tryz.prog.fieldsOf 64)[4]!.type (.int .u64 a) (.int .u64 b)).run Tryz.prog w = .ok (a == b) w := by
  rw [show (9999 : Nat) = 9998 + 1 from rfl, td_t4, run_equalIn_int w 9998 61 .u64 .u64 a b (by kernel_rfl)]
theorem td_n5 : ((Tryz.prog.fieldsOf 64)[5]!.name != "_") = true := by kernel_rfl
theorem td_t5 : (Tryz.prog.fieldsOf 64)[5]!.type = 3 := by kernel_rfl
theorem td_p5 (p0 : Int) (p1 : Int) (p2 : Int) (p3 : Int) (p4 : Int) (p5 : Int) (p6 : Int) (p7 : Int) (p8 : Int) (p9 : Int) (p10 : Int) (w : World) : (part (Tryz.prog.fieldsOf 64)[5]!.type #[.int .i64 p0, .int .i64 p1, .int .i64 p2, .int .u64 p3, .int .u64 p4, .int .i64 p5, .int .i64 p6, .int .i64 p7, .int .i64 p8, .int .i64 p9, .int .i64 p10] (Tryz.prog.fieldsOf 64)[5]!.offset).run Tryz.prog w = .ok (.int .i64 p5) w := by kernel_rfl
theorem td_e5 (a b : Int) (w : World) : (Op.equalIn 9999 (Tryz.prog.fieldsOf 64)[5]!.type (.int .i64 a) (.int .i64 b)).run Tryz.prog w = .ok (a == b) w := by
  rw [show (9999 : Nat) = 9998 + 1 from rfl, td_t5, run_equalIn_int w 9998 3 .i64 .i64 a b (by kernel_rfl)]
theorem td_n6 : ((Tryz.prog.fieldsOf 64)[6]!.name != "_") = true := by kernel_rfl
theorem td_t6 : (Tryz.prog.fieldsOf 64)[6]!.type = 3 := by kernel_rfl
theorem td_p6 (p0 : Int) (p1 : Int) (p2 : Int) (p3 : Int) (p4 : Int) (p5 : Int) (p6 : Int) (p7 : Int) (p8 : Int) (p9 : Int) (p10 : Int) (w : World) : (part (Tryz.prog.fieldsOf 64)[6]!.type #[.int .i64 p0, .int .i64 p1, .int .i64 p2, .int .u64 p3, .int .u64 p4, .int .i64 p5, .int .i64 p6, .int .i64 p7, .int .i64 p8, .int .i64 p9, .int .i64 p10] (Tryz.prog.fieldsOf 64)[6]!.offset).run Tryz.prog w = .ok (.int .i64 p6) w := by kernel_rfl
theorem td_e6 (a b : Int) (w : World) : (Op.equalIn 9999 (Tryz.prog.fieldsOf 64)[6]!.type (.int .i64 a) (.int .i64 b)).run Tryz.prog w = .ok (a == b) w := by
  rw [show (9999 : Nat) = 9998 + 1 from rfl, td_t6, run_equalIn_int w 9998 3 .i64 .i64 a b (by kernel_rfl)]
theorem td_n7 : ((Tryz.prog.fieldsOf 64)[7]!.name != "_") = true := by kernel_rfl
theorem td_t7 : (Tryz.prog.fieldsOf 64)[7]!.type = 3 := by kernel_rfl
theorem td_p7 (p0 : Int) (p1 : Int) (p2 : Int) (p3 : Int) (p4 : Int) (p5 : Int) (p6 : Int) (p7 : Int) (p8 : Int) (p9 : Int) (p10 : Int) (w : World) : (part (Tryz.prog.fieldsOf 64)[7]!.type #[.int .i64 p0, .int .i64 p1, .int .i64 p2, .int .u64 p3, .int .u64 p4, .int .i64 p5, .int .i64 p6, .int .i64 p7, .int .i64 p8, .int .i64 p9, .int .i64 p10] (Tryz.prog.fieldsOf 64)[7]!.offset).run Tryz.prog w = .ok (.int .i64 p7) w := by kernel_rfl
theorem td_e7 (a b : Int) (w : World) : (Op.equalIn 9999 (Tryz.prog.fieldsOf 64)[7]!.type (.int .i64 a) (.int .i64 b)).run Tryz.prog w = .ok (a == b) w := by
  rw [show (9999 : Nat) = 9998 + 1 from rfl, td_t7, run_equalIn_int w 9998 3 .i64 .i64 a b (by kernel_rfl)]
theorem td_n8 : ((Tryz.prog.fieldsOf 64)[8]!.name != "_") = true := by kernel_rfl
theorem td_t8 : (Tryz.prog.fieldsOf 64)[8]!.type = 3 := by kernel_rfl
theorem td_p8 (p0 : Int) (p1 : Int) (p2 : Int) (p3 : Int) (p4 : Int) (p5 : Int) (p6 : Int) (p7 : Int) (p8 : Int) (p9 : Int) (p10 : Int) (w : World) : (part (Tryz.prog.fieldsOf 64)[8]!.type #[.int .i64 p0, .int .i64 p1, .int .i64 p2, .int .u64 p3, .int .u64 p4, .int .i64 p5, .int .i64 p6, .int .i64 p7, .int .i64 p8, .int .i64 p9, .int .i64 p10] (Tryz.prog.fieldsOf 64)[8]!.offset).run Tryz.prog w = .ok (.int .i64 p8) w := by kernel_rfl
theorem td_e8 (a b : Int) (w : World) : (Op.equalIn 9999 (Tryz.prog.fieldsOf 64)[8]!.type (.int .i64 a) (.int .i64 b)).run Tryz.prog w = .ok (a == b) w := by
  rw [show (9999 : Nat) = 9998 + 1 from rfl, td_t8, run_equalIn_int w 9998 3 .i64 .i64 a b (by kernel_rfl)]
theorem td_n9 : ((Tryz.prog.fieldsOf 64)[9]!.name != "_") = true := by kernel_rfl
theorem td_t9 : (Tryz.prog.fieldsOf 64)[9]!.type = 3 := by kernel_rfl
theorem td_p9 (p0 : Int) (p1 : Int) (p2 : Int) (p3 : Int) (p4 : Int) (p5 : Int) (p6 : Int) (p7 : Int) (p8 : Int) (p9 : Int) (p10 : Int) (w : World) : (part (Tryz.prog.fieldsOf 64)[9]!.type #[.int .i64 p0, .int .i64 p1, .int .i64 p2, .int .u64 p3, .int .u64 p4, .int .i64 p5, .int .i64 p6, .int .i64 p7, .int .i64 p8, .int .i64 p9, .int .i64 p10] (Tryz.prog.fieldsOf 64)[9]!.offset).run Tryz.prog w = .ok (.int .i64 p9) w := by kernel_rfl
theorem td_e9 (a b : Int) (w : World) : (Op.equalIn 9999 (Tryz.prog.fieldsOf 64)[9]!.type (.int .i64 a) (.int .i64 b)).run Tryz.prog w = .ok (a == b) w := by
  rw [show (9999 : Nat) = 9998 + 1 from rfl, td_t9, run_equalIn_int w 9998 3 .i64 .i64 a b (by kernel_rfl)]
theorem td_n10 : ((Tryz.prog.fieldsOf 64)[10]!.name != "_") = true := by kernel_rfl
theorem td_t10 : (Tryz.prog.fieldsOf 64)[10]!.type = 3 := by kernel_rfl
theorem td_p10 (p0 : Int) (p1 : Int) (p2 : Int) (p3 : Int) (p4 : Int) (p5 : Int) (p6 : Int) (p7 : Int) (p8 : Int) (p9 : Int) (p10 : Int) (w : World) : (part (Tryz.prog.fieldsOf 64)[10]!.type #[.int .i64 p0, .int .i64 p1, .int .i64 p2, .int .u64 p3, .int .u64 p4, .int .i64 p5, .int .i64 p6, .int .i64 p7, .int .i64 p8, .int .i64 p9, .int .i64 p10] (Tryz.prog.fieldsOf 64)[10]!.offset).run Tryz.prog w = .ok (.int .i64 p10) w := by kernel_rfl
theorem td_e10 (a b : Int) (w : World) : (Op.equalIn 9999 (Tryz.prog.fieldsOf 64)[10]!.type (.int .i64 a) (.int .i64 b)).run Tryz.prog w = .ok (a == b) w := by
  rw [show (9999 : Nat) = 9998 + 1 from rfl, td_t10, run_equalIn_int w 9998 3 .i64 .i64 a b (by kernel_rfl)]
theorem td_eql (p0 : Int) (p1 : Int) (p2 : Int) (p3 : Int) (p4 : Int) (p5 : Int) (p6 : Int) (p7 : Int) (p8 : Int) (p9 : Int) (p10 : Int) (q0 : Int) (q1 : Int) (q2 : Int) (q3 : Int) (q4 : Int) (q5 : Int) (q6 : Int) (q7 : Int) (q8 : Int) (q9 : Int) (q10 : Int) (w : World) : (binOp .eql 64 (.agg #[.int .i64 p0, .int .i64 p1, .int .i64 p2, .int .u64 p3, .int .u64 p4, .int .i64 p5, .int .i64 p6, .int .i64 p7, .int .i64 p8, .int .i64 p9, .int .i64 p10]) (.agg #[.int .i64 q0, .int .i64 q1, .int .i64 q2, .int .u64 q3, .int .u64 q4, .int .i64 q5, .int .i64 q6, .int .i64 q7, .int .i64 q8, .int .i64 q9, .int .i64 q10])).run Tryz.prog w = .ok (.bool ((p0 == q0) && ((p1 == q1) && ((p2 == q2) && ((p3 == q3) && ((p4 == q4) && ((p5 == q5) && ((p6 == q6) && ((p7 == q7) && ((p8 == q8) && ((p9 == q9) && ((p10 == q10) && true)))))))))))) w := by
  rw [run_eql_struct, show (10000 : Nat) = 9999 + 1 from rfl, run_equalIn_agg w 9999 64 _ _ td_h2 td_h1, td_hf, (eqf_cons td_n0 (td_p0 p0 p1 p2 p3 p4 p5 p6 p7 p8 p9 p10 w) (td_p0 q0 q1 q2 q3 q4 q5 q6 q7 q8 q9 q10 w) (td_e0 p0 q0 w) (eqf_cons td_n1 (td_p1 p0 p1 p2 p3 p4 p5 p6 p7 p8 p9 p10 w) (td_p1 q0 q1 q2 q3 q4 q5 q6 q7 q8 q9 q10 w) (td_e1 p1 q1 w) (eqf_cons td_n2 (td_p2 p0 p1 p2 p3 p4 p5 p6 p7 p8 p9 p10 w) (td_p2 q0 q1 q2 q3 q4 q5 q6 q7 q8 q9 q10 w) (td_e2 p2 q2 w) (eqf_cons td_n3 (td_p3 p0 p1 p2 p3 p4 p5 p6 p7 p8 p9 p10 w) (td_p3 q0 q1 q2 q3 q4 q5 q6 q7 q8 q9 q10 w) (td_e3 p3 q3 w) (eqf_cons td_n4 (td_p4 p0 p1 p2 p3 p4 p5 p6 p7 p8 p9 p10 w) (td_p4 q0 q1 q2 q3 q4 q5 q6 q7 q8 q9 q10 w) (td_e4 p4 q4 w) (eqf_cons td_n5 (td_p5 p0 p1 p2 p3 p4 p5 p6 p7 p8 p9 p10 w) (td_p5 q0 q1 q2 q3 q4 q5 q6 q7 q8 q9 q10 w) (td_e5 p5 q5 w) (eqf_cons td_n6 (td_p6 p0 p1 p2 p3 p4 p5 p6 p7 p8 p9 p10 w) (td_p6 q0 q1 q2 q3 q4 q5 q6 q7 q8 q9 q10 w) (td_e6 p6 q6 w) (eqf_cons td_n7 (td_p7 p0 p1 p2 p3 p4 p5 p6 p7 p8 p9 p10 w) (td_p7 q0 q1 q2 q3 q4 q5 q6 q7 q8 q9 q10 w) (td_e7 p7 q7 w) (eqf_cons td_n8 (td_p8 p0 p1 p2 p3 p4 p5 p6 p7 p8 p9 p10 w) (td_p8 q0 q1 q2 q3 q4 q5 q6 q7 q8 q9 q10 w) (td_e8 p8 q8 w) (eqf_cons td_n9 (td_p9 p0 p1 p2 p3 p4 p5 p6 p7 p8 p9 p10 w) (td_p9 q0 q1 q2 q3 q4 q5 q6 q7 q8 q9 q10 w) (td_e9 p9 q9 w) (eqf_cons td_n10 (td_p10 p0 p1 p2 p3 p4 p5 p6 p7 p8 p9 p10 w) (td_p10 q0 q1 q2 q3 q4 q5 q6 q7 q8 q9 q10 w) (td_e10 p10 q10 w) eqf_nil)))))))))))]
  rfl
def eqP (p q : Opr) : Bool := (((p.kind : Int) == (q.kind : Int)) && (((p.x : Int) == (q.x : Int)) && (((p.y : Int) == (q.y : Int)) && (((p.day : Int) == (q.day : Int)) && (((p.to : Int) == (q.to : Int)) && (((p.cur : Int) == (q.cur : Int)) && (((p.count : Int) == (q.count : Int)) && (((p.n : Int) == (q.n : Int)) && (((p.months : Int) == (q.months : Int)) && true)))))))))
def eqT (p q : Trm) : Bool := (((p.kind : Int) == (q.kind : Int)) && (((p.a : Int) == (q.a : Int)) && (((p.b : Int) == (q.b : Int)) && (((p.x : Int) == (q.x : Int)) && (((p.y : Int) == (q.y : Int)) && (((p.day : Int) == (q.day : Int)) && (((p.to : Int) == (q.to : Int)) && (((p.cur : Int) == (q.cur : Int)) && (((p.count : Int) == (q.count : Int)) && (((p.n : Int) == (q.n : Int)) && (((p.months : Int) == (q.months : Int)) && true)))))))))))
theorem eqP_run (p q : Opr) (w : World) : (binOp .eql 66 (.agg (opD p)) (.agg (opD q))).run Tryz.prog w = .ok (.bool (eqP p q)) w := od_eql p.kind p.x p.y p.day p.to p.cur p.count p.n p.months q.kind q.x q.y q.day q.to q.cur q.count q.n q.months w
theorem eqT_run (p q : Trm) (w : World) : (binOp .eql 64 (.agg (trD p)) (.agg (trD q))).run Tryz.prog w = .ok (.bool (eqT p q)) w := td_eql p.kind p.a p.b p.x p.y p.day p.to p.cur p.count p.n p.months q.kind q.a q.b q.x q.y q.day q.to q.cur q.count q.n q.months w
end Go.Proofs.YtienedhaogjahaaGreatDoor
namespace Go.Proofs.YtienedhaogjahaaGreatDoor
open Go.RowKit

theorem r1Num_any (u : Int) (w : World) (h : U64 u) : Calls Tryz.prog 127 #[.int .u64 u] w fun e w' => e = .returned (.bool (finB u)) ∧ w' = w := by
  have hz := andNot_sz h
  unfold finB
  go_enter Tryz.func127, Tryz.ntmps127
  go_wp2
  go_ret
  exact ⟨rfl, rfl⟩
def tn1 (t : Trm) : Trm := ⟨t.kind, t.a, t.b, 0, 0, 0, 0, 0, 0, 0, 0⟩
set_option maxRecDepth 20000 in
set_option maxHeartbeats 12800000 in
theorem flds_1 (t : Trm) (hk : t.kind = 1) (w : World) : Calls Tryz.prog 87 #[.agg (trD t)] w fun e w' => e = .returned (.bool (eqT t (tn1 t))) ∧ Below w.heap.size w w' := by
  have heq0 := eqT_run t (tn1 t)
  obtain ⟨E, hE⟩ : ∃ E, eqT t (tn1 t) = E := ⟨_, rfl⟩
  rw [hE] at heq0 ⊢
  unfold trD tn1 at heq0
  simp only at heq0
  unfold trD
  rw [hk] at heq0 ⊢
  have heq : ∀ w, (binOp .eql 64 (.agg #[.int .i64 1, .int .i64 t.a, .int .i64 t.b, .int .u64 t.x, .int .u64 t.y, .int .i64 t.day, .int .i64 t.to, .int .i64 t.cur, .int .i64 t.count, .int .i64 t.n, .int .i64 t.months]) (.agg #[.int .i64 1, .int .i64 t.a, .int .i64 t.b, .int .u64 0, .int .u64 0, .int .i64 0, .int .i64 0, .int .i64 0, .int .i64 0, .int .i64 0, .int .i64 0])).run Tryz.prog w = .ok (.bool E) w := heq0
  clear heq0
  clear hE
  have HB : Hid (Below w.heap.size w ((w.alloc (.cells #[.int .i64 1, .int .i64 t.a, .int .i64 t.b, .int .u64 t.x, .int .u64 t.y, .int .i64 t.day, .int .i64 t.to, .int .i64 t.cur, .int .i64 t.count, .int .i64 t.n, .int .i64 t.months] 64)).alloc (.cells #[.int .i64 1, .int .i64 t.a, .int .i64 t.b, .int .u64 0, .int .u64 0, .int .i64 0, .int .i64 0, .int .i64 0, .int .i64 0, .int .i64 0, .int .i64 0] 64))) := ((Below.refl _ _).alloc (Nat.le_refl _) _).alloc (by simp) _
  go_enter Tryz.func87, Tryz.ntmps87
  go_wp2_with fail
  go_ret
  exact ⟨rfl, HB.out⟩
def tn4 (t : Trm) : Trm := ⟨t.kind, t.a, t.b, 0, 0, 0, 0, 0, 0, 0, 0⟩
set_option maxRecDepth 20000 in
set_option maxHeartbeats 12800000 in
theorem flds_4 (t : Trm) (hk : t.kind = 4) (w : World) : Calls Tryz.prog 87 #[.agg (trD t)] w fun e w' => e = .returned (.bool (eqT t (tn4 t))) ∧ Below w.heap.size w w' := by
  have heq0 := eqT_run t (tn4 t)
  obtain ⟨E, hE⟩ : ∃ E, eqT t (tn4 t) = E := ⟨_, rfl⟩
  rw [hE] at heq0 ⊢
  unfold trD tn4 at heq0
  simp only at heq0
  unfold trD
  rw [hk] at heq0 ⊢
  have heq : ∀ w, (binOp .eql 64 (.agg #[.int .i64 4, .int .i64 t.a, .int .i64 t.b, .int .u64 t.x, .int .u64 t.y, .int .i64 t.day, .int .i64 t.to, .int .i64 t.cur, .int .i64 t.count, .int .i64 t.n, .int .i64 t.months]) (.agg #[.int .i64 4, .int .i64 t.a, .int .i64 t.b, .int .u64 0, .int .u64 0, .int .i64 0, .int .i64 0, .int .i64 0, .int .i64 0, .int .i64 0, .int .i64 0])).run Tryz.prog w = .ok (.bool E) w := heq0
  clear heq0
  clear hE
  have HB : Hid (Below w.heap.size w ((w.alloc (.cells #[.int .i64 4, .int .i64 t.a, .int .i64 t.b, .int .u64 t.x, .int .u64 t.y, .int .i64 t.day, .int .i64 t.to, .int .i64 t.cur, .int .i64 t.count, .int .i64 t.n, .int .i64 t.months] 64)).alloc (.cells #[.int .i64 4, .int .i64 t.a, .int .i64 t.b, .int .u64 0, .int .u64 0, .int .i64 0, .int .i64 0, .int .i64 0, .int .i64 0, .int .i64 0, .int .i64 0] 64))) := ((Below.refl _ _).alloc (Nat.le_refl _) _).alloc (by simp) _
  go_enter Tryz.func87, Tryz.ntmps87
  go_wp2_with fail
  go_ret
  exact ⟨rfl, HB.out⟩
def tn5 (t : Trm) : Trm := ⟨t.kind, t.a, t.b, 0, 0, 0, 0, 0, 0, 0, 0⟩
set_option maxRecDepth 20000 in
set_option maxHeartbeats 12800000 in
theorem flds_5 (t : Trm) (hk : t.kind = 5) (w : World) : Calls Tryz.prog 87 #[.agg (trD t)] w fun e w' => e = .returned (.bool (eqT t (tn5 t))) ∧ Below w.heap.size w w' := by
  have heq0 := eqT_run t (tn5 t)
  obtain ⟨E, hE⟩ : ∃ E, eqT t (tn5 t) = E := ⟨_, rfl⟩
  rw [hE] at heq0 ⊢
  unfold trD tn5 at heq0
  simp only at heq0
  unfold trD
  rw [hk] at heq0 ⊢
  have heq : ∀ w, (binOp .eql 64 (.agg #[.int .i64 5, .int .i64 t.a, .int .i64 t.b, .int .u64 t.x, .int .u64 t.y, .int .i64 t.day, .int .i64 t.to, .int .i64 t.cur, .int .i64 t.count, .int .i64 t.n, .int .i64 t.months]) (.agg #[.int .i64 5, .int .i64 t.a, .int .i64 t.b, .int .u64 0, .int .u64 0, .int .i64 0, .int .i64 0, .int .i64 0, .int .i64 0, .int .i64 0, .int .i64 0])).run Tryz.prog w = .ok (.bool E) w := heq0
  clear heq0
  clear hE
  have HB : Hid (Below w.heap.size w ((w.alloc (.cells #[.int .i64 5, .int .i64 t.a, .int .i64 t.b, .int .u64 t.x, .int .u64 t.y, .int .i64 t.day, .int .i64 t.to, .int .i64 t.cur, .int .i64 t.count, .int .i64 t.n, .int .i64 t.months] 64)).alloc (.cells #[.int .i64 5, .int .i64 t.a, .int .i64 t.b, .int .u64 0, .int .u64 0, .int .i64 0, .int .i64 0, .int .i64 0, .int .i64 0, .int .i64 0, .int .i64 0] 64))) := ((Below.refl _ _).alloc (Nat.le_refl _) _).alloc (by simp) _
  go_enter Tryz.func87, Tryz.ntmps87
  go_wp2_with fail
  go_ret
  exact ⟨rfl, HB.out⟩
def tn2 (t : Trm) : Trm := ⟨t.kind, t.a, t.b, t.x, 0, t.day, 0, t.cur, 0, 0, 0⟩
set_option maxRecDepth 20000 in
set_option maxHeartbeats 12800000 in
theorem flds_2 (t : Trm) (hk : t.kind = 2) (hux : U64 t.x) (w : World) : Calls Tryz.prog 87 #[.agg (trD t)] w fun e w' => e = .returned (.bool (eqT t (tn2 t) && finB t.x && (decide (1 ≤ t.cur) && decide (t.cur ≤ 8)) && (decide (0 ≤ t.day) && decide (t.day ≤ 109572)))) ∧ Below w.heap.size w w' := by
  have heq0 := eqT_run t (tn2 t)
  have H0 := hidD (fun w => r1Num_any t.x w hux)
  obtain ⟨B0, hB0⟩ : ∃ B, finB t.x = B := ⟨_, rfl⟩
  rw [hB0]
  rw [hB0] at H0
  clear hB0
  have H1 := hidD (r14Cur_any t.cur)
  obtain ⟨B1, hB1⟩ : ∃ B, (decide (1 ≤ t.cur) && decide (t.cur ≤ 8)) = B := ⟨_, rfl⟩
  rw [hB1]
  rw [hB1] at H1
  clear hB1
  have H2 := hidD (r17Day_any t.day)
  obtain ⟨B2, hB2⟩ : ∃ B, (decide (0 ≤ t.day) && decide (t.day ≤ 109572)) = B := ⟨_, rfl⟩
  rw [hB2]
  rw [hB2] at H2
  clear hB2
  obtain ⟨E, hE⟩ : ∃ E, eqT t (tn2 t) = E := ⟨_, rfl⟩
  rw [hE] at heq0 ⊢
  unfold trD tn2 at heq0
  simp only at heq0
  unfold trD
  rw [hk] at heq0 ⊢
  have heq : ∀ w, (binOp .eql 64 (.agg #[.int .i64 2, .int .i64 t.a, .int .i64 t.b, .int .u64 t.x, .int .u64 t.y, .int .i64 t.day, .int .i64 t.to, .int .i64 t.cur, .int .i64 t.count, .int .i64 t.n, .int .i64 t.months]) (.agg #[.int .i64 2, .int .i64 t.a, .int .i64 t.b, .int .u64 t.x, .int .u64 0, .int .i64 t.day, .int .i64 0, .int .i64 t.cur, .int .i64 0, .int .i64 0, .int .i64 0])).run Tryz.prog w = .ok (.bool E) w := heq0
  clear heq0
  clear hE hux
  have HB : Hid (Below w.heap.size w ((w.alloc (.cells #[.int .i64 2, .int .i64 t.a, .int .i64 t.b, .int .u64 t.x, .int .u64 t.y, .int .i64 t.day, .int .i64 t.to, .int .i64 t.cur, .int .i64 t.count, .int .i64 t.n, .int .i64 t.months] 64)).alloc (.cells #[.int .i64 2, .int .i64 t.a, .int .i64 t.b, .int .u64 t.x, .int .u64 0, .int .i64 t.day, .int .i64 0, .int .i64 t.cur, .int .i64 0, .int .i64 0, .int .i64 0] 64))) := ((Below.refl _ _).alloc (Nat.le_refl _) _).alloc (by simp) _
  cases E
  · go_enter Tryz.func87, Tryz.ntmps87
    go_wp2_with fail
    go_ret
    exact ⟨rfl, HB.out⟩
  cases B0
  · go_enter Tryz.func87, Tryz.ntmps87
    go_wp2_with fail
    refine (H0.out _).mono ?_
    rintro e w' ⟨rfl, rfl⟩
    go_wp2_with fail
    go_ret
    exact ⟨rfl, HB.out⟩
  cases B1
  · go_enter Tryz.func87, Tryz.ntmps87
    go_wp2_with fail
    refine (H0.out _).mono ?_
    rintro e w' ⟨rfl, rfl⟩
    go_wp2_with fail
    refine (H1.out _).mono ?_
    rintro e w' ⟨rfl, rfl⟩
    go_wp2_with fail
    go_ret
    exact ⟨rfl, HB.out⟩
  go_enter Tryz.func87, Tryz.ntmps87
  go_wp2_with fail
  refine (H0.out _).mono ?_
  rintro e w' ⟨rfl, rfl⟩
  go_wp2_with fail
  refine (H1.out _).mono ?_
  rintro e w' ⟨rfl, rfl⟩
  go_wp2_with fail
  refine (H2.out _).mono ?_
  rintro e w' ⟨rfl, rfl⟩
  go_wp2_with fail
  go_ret
  exact ⟨rfl, HB.out⟩
def tn6 (t : Trm) : Trm := ⟨t.kind, t.a, t.b, t.x, 0, 0, 0, 0, 0, 0, 0⟩
set_option maxRecDepth 20000 in
set_option maxHeartbeats 12800000 in
theorem flds_6 (t : Trm) (hk : t.kind = 6) (hux : U64 t.x) (w : World) : Calls Tryz.prog 87 #[.agg (trD t)] w fun e w' => e = .returned (.bool (eqT t (tn6 t) && finB t.x)) ∧ Below w.heap.size w w' := by
  have heq0 := eqT_run t (tn6 t)
  have H0 := hidD (fun w => r1Num_any t.x w hux)
  obtain ⟨B0, hB0⟩ : ∃ B, finB t.x = B := ⟨_, rfl⟩
  rw [hB0]
  rw [hB0] at H0
  clear hB0
  obtain ⟨E, hE⟩ : ∃ E, eqT t (tn6 t) = E := ⟨_, rfl⟩
  rw [hE] at heq0 ⊢
  unfold trD tn6 at heq0
  simp only at heq0
  unfold trD
  rw [hk] at heq0 ⊢
  have heq : ∀ w, (binOp .eql 64 (.agg #[.int .i64 6, .int .i64 t.a, .int .i64 t.b, .int .u64 t.x, .int .u64 t.y, .int .i64 t.day, .int .i64 t.to, .int .i64 t.cur, .int .i64 t.count, .int .i64 t.n, .int .i64 t.months]) (.agg #[.int .i64 6, .int .i64 t.a, .int .i64 t.b, .int .u64 t.x, .int .u64 0, .int .i64 0, .int .i64 0, .int .i64 0, .int .i64 0, .int .i64 0, .int .i64 0])).run Tryz.prog w = .ok (.bool E) w := heq0
  clear heq0
  clear hE hux
  have HB : Hid (Below w.heap.size w ((w.alloc (.cells #[.int .i64 6, .int .i64 t.a, .int .i64 t.b, .int .u64 t.x, .int .u64 t.y, .int .i64 t.day, .int .i64 t.to, .int .i64 t.cur, .int .i64 t.count, .int .i64 t.n, .int .i64 t.months] 64)).alloc (.cells #[.int .i64 6, .int .i64 t.a, .int .i64 t.b, .int .u64 t.x, .int .u64 0, .int .i64 0, .int .i64 0, .int .i64 0, .int .i64 0, .int .i64 0, .int .i64 0] 64))) := ((Below.refl _ _).alloc (Nat.le_refl _) _).alloc (by simp) _
  cases E
  · go_enter Tryz.func87, Tryz.ntmps87
    go_wp2_with fail
    go_ret
    exact ⟨rfl, HB.out⟩
  go_enter Tryz.func87, Tryz.ntmps87
  go_wp2_with fail
  refine (H0.out _).mono ?_
  rintro e w' ⟨rfl, rfl⟩
  go_wp2_with fail
  go_ret
  exact ⟨rfl, HB.out⟩
def tn7 (t : Trm) : Trm := ⟨t.kind, t.a, t.b, 0, 0, t.day, t.to, 0, 0, 0, 0⟩
set_option maxRecDepth 20000 in
set_option maxHeartbeats 12800000 in
theorem flds_7 (t : Trm) (hk : t.kind = 7) (w : World) : Calls Tryz.prog 87 #[.agg (trD t)] w fun e w' => e = .returned (.bool (eqT t (tn7 t) && (decide (0 ≤ t.day) && decide (t.day ≤ 109572)) && (decide (0 ≤ t.to) && decide (t.to ≤ 109572)))) ∧ Below w.heap.size w w' := by
  have heq0 := eqT_run t (tn7 t)
  have H0 := hidD (r17Day_any t.day)
  obtain ⟨B0, hB0⟩ : ∃ B, (decide (0 ≤ t.day) && decide (t.day ≤ 109572)) = B := ⟨_, rfl⟩
  rw [hB0]
  rw [hB0] at H0
  clear hB0
  have H1 := hidD (r17Day_any t.to)
  obtain ⟨B1, hB1⟩ : ∃ B, (decide (0 ≤ t.to) && decide (t.to ≤ 109572)) = B := ⟨_, rfl⟩
  rw [hB1]
  rw [hB1] at H1
  clear hB1
  obtain ⟨E, hE⟩ : ∃ E, eqT t (tn7 t) = E := ⟨_, rfl⟩
  rw [hE] at heq0 ⊢
  unfold trD tn7 at heq0
  simp only at heq0
  unfold trD
  rw [hk] at heq0 ⊢
  have heq : ∀ w, (binOp .eql 64 (.agg #[.int .i64 7, .int .i64 t.a, .int .i64 t.b, .int .u64 t.x, .int .u64 t.y, .int .i64 t.day, .int .i64 t.to, .int .i64 t.cur, .int .i64 t.count, .int .i64 t.n, .int .i64 t.months]) (.agg #[.int .i64 7, .int .i64 t.a, .int .i64 t.b, .int .u64 0, .int .u64 0, .int .i64 t.day, .int .i64 t.to, .int .i64 0, .int .i64 0, .int .i64 0, .int .i64 0])).run Tryz.prog w = .ok (.bool E) w := heq0
  clear heq0
  clear hE
  have HB : Hid (Below w.heap.size w ((w.alloc (.cells #[.int .i64 7, .int .i64 t.a, .int .i64 t.b, .int .u64 t.x, .int .u64 t.y, .int .i64 t.day, .int .i64 t.to, .int .i64 t.cur, .int .i64 t.count, .int .i64 t.n, .int .i64 t.months] 64)).alloc (.cells #[.int .i64 7, .int .i64 t.a, .int .i64 t.b, .int .u64 0, .int .u64 0, .int .i64 t.day, .int .i64 t.to, .int .i64 0, .int .i64 0, .int .i64 0, .int .i64 0] 64))) := ((Below.refl _ _).alloc (Nat.le_refl _) _).alloc (by simp) _
  cases E
  · go_enter Tryz.func87, Tryz.ntmps87
    go_wp2_with fail
    go_ret
    exact ⟨rfl, HB.out⟩
  cases B0
  · go_enter Tryz.func87, Tryz.ntmps87
    go_wp2_with fail
    refine (H0.out _).mono ?_
    rintro e w' ⟨rfl, rfl⟩
    go_wp2_with fail
    go_ret
    exact ⟨rfl, HB.out⟩
  go_enter Tryz.func87, Tryz.ntmps87
  go_wp2_with fail
  refine (H0.out _).mono ?_
  rintro e w' ⟨rfl, rfl⟩
  go_wp2_with fail
  refine (H1.out _).mono ?_
  rintro e w' ⟨rfl, rfl⟩
  go_wp2_with fail
  go_ret
  exact ⟨rfl, HB.out⟩
def tn8 (t : Trm) : Trm := ⟨t.kind, t.a, t.b, 0, 0, 0, 0, 0, 0, t.n, t.months⟩
set_option maxRecDepth 20000 in
set_option maxHeartbeats 12800000 in
theorem flds_8 (t : Trm) (hk : t.kind = 8) (w : World) : Calls Tryz.prog 87 #[.agg (trD t)] w fun e w' => e = .returned (.bool (eqT t (tn8 t) && (decide (1 ≤ t.n) && decide (t.n ≤ 4096)) && (decide (1 ≤ t.months) && decide (t.months ≤ 1200)))) ∧ Below w.heap.size w w' := by
  have heq0 := eqT_run t (tn8 t)
  have H0 := hidD (r17In_any t.n 1 4096)
  obtain ⟨B0, hB0⟩ : ∃ B, (decide (1 ≤ t.n) && decide (t.n ≤ 4096)) = B := ⟨_, rfl⟩
  rw [hB0]
  rw [hB0] at H0
  clear hB0
  have H1 := hidD (r17In_any t.months 1 1200)
  obtain ⟨B1, hB1⟩ : ∃ B, (decide (1 ≤ t.months) && decide (t.months ≤ 1200)) = B := ⟨_, rfl⟩
  rw [hB1]
  rw [hB1] at H1
  clear hB1
  obtain ⟨E, hE⟩ : ∃ E, eqT t (tn8 t) = E := ⟨_, rfl⟩
  rw [hE] at heq0 ⊢
  unfold trD tn8 at heq0
  simp only at heq0
  unfold trD
  rw [hk] at heq0 ⊢
  have heq : ∀ w, (binOp .eql 64 (.agg #[.int .i64 8, .int .i64 t.a, .int .i64 t.b, .int .u64 t.x, .int .u64 t.y, .int .i64 t.day, .int .i64 t.to, .int .i64 t.cur, .int .i64 t.count, .int .i64 t.n, .int .i64 t.months]) (.agg #[.int .i64 8, .int .i64 t.a, .int .i64 t.b, .int .u64 0, .int .u64 0, .int .i64 0, .int .i64 0, .int .i64 0, .int .i64 0, .int .i64 t.n, .int .i64 t.months])).run Tryz.prog w = .ok (.bool E) w := heq0
  clear heq0
  clear hE
  have HB : Hid (Below w.heap.size w ((w.alloc (.cells #[.int .i64 8, .int .i64 t.a, .int .i64 t.b, .int .u64 t.x, .int .u64 t.y, .int .i64 t.day, .int .i64 t.to, .int .i64 t.cur, .int .i64 t.count, .int .i64 t.n, .int .i64 t.months] 64)).alloc (.cells #[.int .i64 8, .int .i64 t.a, .int .i64 t.b, .int .u64 0, .int .u64 0, .int .i64 0, .int .i64 0, .int .i64 0, .int .i64 0, .int .i64 t.n, .int .i64 t.months] 64))) := ((Below.refl _ _).alloc (Nat.le_refl _) _).alloc (by simp) _
  cases E
  · go_enter Tryz.func87, Tryz.ntmps87
    go_wp2_with fail
    go_ret
    exact ⟨rfl, HB.out⟩
  cases B0
  · go_enter Tryz.func87, Tryz.ntmps87
    go_wp2_with fail
    refine (H0.out _).mono ?_
    rintro e w' ⟨rfl, rfl⟩
    go_wp2_with fail
    go_ret
    exact ⟨rfl, HB.out⟩
  go_enter Tryz.func87, Tryz.ntmps87
  go_wp2_with fail
  refine (H0.out _).mono ?_
  rintro e w' ⟨rfl, rfl⟩
  go_wp2_with fail
  refine (H1.out _).mono ?_
  rintro e w' ⟨rfl, rfl⟩
  go_wp2_with fail
  go_ret
  exact ⟨rfl, HB.out⟩
set_option maxRecDepth 20000 in
set_option maxHeartbeats 6400000 in
theorem flds_no (t : Trm) (hk : t.kind < 1 ∨ 8 < t.kind) (w : World) : Calls Tryz.prog 87 #[.agg (trD t)] w fun e w' => e = .returned (.bool false) ∧ Below w.heap.size w w' := by
  have n1 : (t.kind == 1) = false := beq_eq_false_iff_ne.2 (by omega)
  have n2 : (t.kind == 2) = false := beq_eq_false_iff_ne.2 (by omega)
  have n3 : (t.kind == 3) = false := beq_eq_false_iff_ne.2 (by omega)
  have n4 : (t.kind == 4) = false := beq_eq_false_iff_ne.2 (by omega)
  have n5 : (t.kind == 5) = false := beq_eq_false_iff_ne.2 (by omega)
  have n6 : (t.kind == 6) = false := beq_eq_false_iff_ne.2 (by omega)
  have n7 : (t.kind == 7) = false := beq_eq_false_iff_ne.2 (by omega)
  have n8 : (t.kind == 8) = false := beq_eq_false_iff_ne.2 (by omega)
  have HB : Hid (Below w.heap.size w ((w.alloc (.cells #[.int .i64 t.kind, .int .i64 t.a, .int .i64 t.b, .int .u64 t.x, .int .u64 t.y, .int .i64 t.day, .int .i64 t.to, .int .i64 t.cur, .int .i64 t.count, .int .i64 t.n, .int .i64 t.months] 64)).alloc (.cells #[.int .i64 t.kind, .int .i64 t.a, .int .i64 t.b, .int .u64 0, .int .u64 0, .int .i64 0, .int .i64 0, .int .i64 0, .int .i64 0, .int .i64 0, .int .i64 0] 64))) := ((Below.refl _ _).alloc (Nat.le_refl _) _).alloc (by simp) _
  clear hk
  unfold trD
  go_enter Tryz.func87, Tryz.ntmps87
  go_wp2_with fail
  go_ret
  exact ⟨rfl, HB.out⟩
end Go.Proofs.YtienedhaogjahaaGreatDoor
