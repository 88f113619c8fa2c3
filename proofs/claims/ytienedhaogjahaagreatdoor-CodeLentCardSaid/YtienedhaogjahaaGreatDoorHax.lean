/- Package code: whether a fixed leg's op may be. Package code: code is measured. Package code: measure, whatever code. Package code: Check and Marks, whatever code. -/
import Derived.Test.YtienedhaogjahaaGreatDoorHaw
import Derived.Lib.MinMax
namespace Go.Proofs.YtienedhaogjahaaGreatDoor
open Go.RowKit

def nm3 (o : Opr) : Opr := ⟨o.kind, o.x, o.y, o.day, o.to, o.cur, o.count, o.n, 0⟩
set_option maxRecDepth 20000 in
set_option maxHeartbeats 12800000 in
theorem fits_3 (o : Opr) (hk : o.kind = 3) (hux : U64 o.x) (huy : U64 o.y) (w : World) : Calls Tryz.prog 54 #[.agg (opC o)] w fun e w' => e = .returned (.bool ((finB o.x && finB o.y && (decide (1 ≤ o.count) && decide (o.count ≤ 5)) && (decide (0 ≤ o.day) && decide (o.day ≤ 109572)) && (decide (0 ≤ o.to) && decide (o.to ≤ 109572)) && decide (o.day < o.to) && (decide (1 ≤ o.n) && decide (o.n ≤ 1200)) && (decide (1 ≤ o.cur) && decide (o.cur ≤ 8))) && eqO o (nm3 o))) ∧ Below w.heap.size w w' := by
  have heq := eqO_run o (nm3 o)
  have H0 := hidD (fun w => cNum_any o.x w hux)
  have H1 := hidD (fun w => cNum_any o.y w huy)
  have H2 := hidD (cIn_any o.count 1 5)
  have H3 := hidD (cDay_any o.day)
  have H4 := hidD (cDay_any o.to)
  have H6 := hidD (cIn_any o.n 1 1200)
  have H7 := hidD (cCur_any o.cur)
  obtain ⟨B0, hB0⟩ : ∃ B, finB o.x = B := ⟨_, rfl⟩
  rw [hB0]
  rw [hB0] at H0
  obtain ⟨B1, hB1⟩ : ∃ B, finB o.y = B := ⟨_, rfl⟩
  rw [hB1]
  rw [hB1] at H1
  obtain ⟨B2, hB2⟩ : ∃ B, (decide (1 ≤ o.count) && decide (o.count ≤ 5)) = B := ⟨_, rfl⟩
  rw [hB2]
  rw [hB2] at H2
  obtain ⟨B3, hB3⟩ : ∃ B, (decide (0 ≤ o.day) && decide (o.day ≤ 109572)) = B := ⟨_, rfl⟩
  rw [hB3]
  rw [hB3] at H3
  obtain ⟨B4, hB4⟩ : ∃ B, (decide (0 ≤ o.to) && decide (o.to ≤ 109572)) = B := ⟨_, rfl⟩
  rw [hB4]
  rw [hB4] at H4
  obtain ⟨B5, hB5⟩ : ∃ B, decide (o.day < o.to) = B := ⟨_, rfl⟩
  rw [hB5]
  obtain ⟨B6, hB6⟩ : ∃ B, (decide (1 ≤ o.n) && decide (o.n ≤ 1200)) = B := ⟨_, rfl⟩
  rw [hB6]
  rw [hB6] at H6
  obtain ⟨B7, hB7⟩ : ∃ B, (decide (1 ≤ o.cur) && decide (o.cur ≤ 8)) = B := ⟨_, rfl⟩
  rw [hB7]
  rw [hB7] at H7
  obtain ⟨E, hE⟩ : ∃ E, eqO o (nm3 o) = E := ⟨_, rfl⟩
  rw [hE] at heq ⊢
  unfold opC nm3 at heq
  simp only at heq
  unfold opC
  rw [hk] at heq ⊢
  have hst := store_fltD
  clear hE hB0 hB1 hB2 hB3 hB4 hB6 hB7
  have HO : Hid (((w.alloc (.cells #[.int .i64 3, .float .f64 o.x, .float .f64 o.y, .int .i64 o.day, .int .i64 o.to, .int .i64 o.cur, .int .i64 o.count, .int .i64 o.n, .int .i64 o.months] 47)).alloc (.cells #[.int .i64 3, .float .f64 0, .float .f64 0, .int .i64 0, .int .i64 0, .int .i64 0, .int .i64 0, .int .i64 0, .int .i64 0] 47)).heap[w.heap.size]? = some (.cells #[.int .i64 3, .float .f64 o.x, .float .f64 o.y, .int .i64 o.day, .int .i64 o.to, .int .i64 o.cur, .int .i64 o.count, .int .i64 o.n, .int .i64 o.months] 47)) := by
    show _ = _
    rw [al_at, sz_al, if_neg (by omega)]; exact heap_alloc_new _ _
  have HN : Hid (((w.alloc (.cells #[.int .i64 3, .float .f64 o.x, .float .f64 o.y, .int .i64 o.day, .int .i64 o.to, .int .i64 o.cur, .int .i64 o.count, .int .i64 o.n, .int .i64 o.months] 47)).alloc (.cells #[.int .i64 3, .float .f64 0, .float .f64 0, .int .i64 0, .int .i64 0, .int .i64 0, .int .i64 0, .int .i64 0, .int .i64 0] 47)).heap[w.heap.size + 1]? = some (.cells #[.int .i64 3, .float .f64 0, .float .f64 0, .int .i64 0, .int .i64 0, .int .i64 0, .int .i64 0, .int .i64 0, .int .i64 0] 47)) := by
    show _ = _
    rw [al_at, sz_al, if_pos rfl]
  have HB : Hid (Below w.heap.size w ((w.alloc (.cells #[.int .i64 3, .float .f64 o.x, .float .f64 o.y, .int .i64 o.day, .int .i64 o.to, .int .i64 o.cur, .int .i64 o.count, .int .i64 o.n, .int .i64 o.months] 47)).alloc (.cells #[.int .i64 3, .float .f64 0, .float .f64 0, .int .i64 0, .int .i64 0, .int .i64 0, .int .i64 0, .int .i64 0, .int .i64 0] 47))) := ((Below.refl _ _).alloc (Nat.le_refl _) _).alloc (by simp) _
  go_enter Tryz.func54, Tryz.ntmps54
  go_wp2_with fail
  obtain ⟨w2, hw2⟩ : ∃ w2, (w.alloc (.cells #[.int .i64 3, .float .f64 o.x, .float .f64 o.y, .int .i64 o.day, .int .i64 o.to, .int .i64 o.cur, .int .i64 o.count, .int .i64 o.n, .int .i64 o.months] 47)).alloc (.cells #[.int .i64 3, .float .f64 0, .float .f64 0, .int .i64 0, .int .i64 0, .int .i64 0, .int .i64 0, .int .i64 0, .int .i64 0] 47) = w2 := ⟨_, rfl⟩
  rw [hw2] at HO HN HB
  rw [hw2]
  clear hw2
  obtain ⟨N, hN⟩ : ∃ N, w.heap.size + 1 = N := ⟨_, rfl⟩
  obtain ⟨M, hM⟩ : ∃ M, w.heap.size = M := ⟨_, rfl⟩
  have hMN : M ≠ N := by omega
  have hMle : w.heap.size ≤ N := by omega
  rw [hN] at HN ⊢
  rw [hM] at HO ⊢
  clear hN hM
  have v0 := (opx_cells HN.out 1 rfl).1
  have y0 := (opx_cells HN.out 1 rfl).2
  obtain ⟨u0, hu0⟩ : ∃ u, World.setCell w2 ⟨N, 1, none⟩ (.float .f64 o.x) = u := ⟨_, rfl⟩
  have HN0 : Hid ((World.heap u0)[N]? = some (.cells #[.int .i64 3, .float .f64 o.x, .float .f64 0, .int .i64 0, .int .i64 0, .int .i64 0, .int .i64 0, .int .i64 0, .int .i64 0] 47)) := by show _ = _; rw [← hu0]; exact (heap_setCell_same _ N 1 _ _ _ HN.out).trans rfl
  have HO0 : Hid ((World.heap u0)[M]? = some (.cells #[.int .i64 3, .float .f64 o.x, .float .f64 o.y, .int .i64 o.day, .int .i64 o.to, .int .i64 o.cur, .int .i64 o.count, .int .i64 o.n, .int .i64 o.months] 47)) := by show _ = _; rw [← hu0]; exact (blkF_far _ _ _ _ hMN).trans HO.out
  have HB0 : Hid (Below w.heap.size w u0) := by show Below _ _ _; rw [← hu0]; exact HB.out.setCell (p := ⟨N, 1, none⟩) hMle _
  have v1 := (opx_cells HN0.out 2 rfl).1
  have y1 := (opx_cells HN0.out 2 rfl).2
  obtain ⟨u1, hu1⟩ : ∃ u, World.setCell u0 ⟨N, 2, none⟩ (.float .f64 o.y) = u := ⟨_, rfl⟩
  have HN1 : Hid ((World.heap u1)[N]? = some (.cells #[.int .i64 3, .float .f64 o.x, .float .f64 o.y, .int .i64 0, .int .i64 0, .int .i64 0, .int .i64 0, .int .i64 0, .int .i64 0] 47)) := by show _ = _; rw [← hu1]; exact (heap_setCell_same _ N 2 _ _ _ HN0.out).trans rfl
  have HO1 : Hid ((World.heap u1)[M]? = some (.cells #[.int .i64 3, .float .f64 o.x, .float .f64 o.y, .int .i64 o.day, .int .i64 o.to, .int .i64 o.cur, .int .i64 o.count, .int .i64 o.n, .int .i64 o.months] 47)) := by show _ = _; rw [← hu1]; exact (blkF_far _ _ _ _ hMN).trans HO0.out
  have HB1 : Hid (Below w.heap.size w u1) := by show Below _ _ _; rw [← hu1]; exact HB0.out.setCell (p := ⟨N, 2, none⟩) hMle _
  have v2 := (opx_cells HN1.out 6 rfl).1
  have y2 := (opx_cells HN1.out 6 rfl).2
  obtain ⟨u2, hu2⟩ : ∃ u, World.setCell u1 ⟨N, 6, none⟩ (.int .i64 o.count) = u := ⟨_, rfl⟩
  have HN2 : Hid ((World.heap u2)[N]? = some (.cells #[.int .i64 3, .float .f64 o.x, .float .f64 o.y, .int .i64 0, .int .i64 0, .int .i64 0, .int .i64 o.count, .int .i64 0, .int .i64 0] 47)) := by show _ = _; rw [← hu2]; exact (heap_setCell_same _ N 6 _ _ _ HN1.out).trans rfl
  have HO2 : Hid ((World.heap u2)[M]? = some (.cells #[.int .i64 3, .float .f64 o.x, .float .f64 o.y, .int .i64 o.day, .int .i64 o.to, .int .i64 o.cur, .int .i64 o.count, .int .i64 o.n, .int .i64 o.months] 47)) := by show _ = _; rw [← hu2]; exact (blkF_far _ _ _ _ hMN).trans HO1.out
  have HB2 : Hid (Below w.heap.size w u2) := by show Below _ _ _; rw [← hu2]; exact HB1.out.setCell (p := ⟨N, 6, none⟩) hMle _
  have v3 := (opx_cells HN2.out 3 rfl).1
  have y3 := (opx_cells HN2.out 3 rfl).2
  obtain ⟨u3, hu3⟩ : ∃ u, World.setCell u2 ⟨N, 3, none⟩ (.int .i64 o.day) = u := ⟨_, rfl⟩
  have HN3 : Hid ((World.heap u3)[N]? = some (.cells #[.int .i64 3, .float .f64 o.x, .float .f64 o.y, .int .i64 o.day, .int .i64 0, .int .i64 0, .int .i64 o.count, .int .i64 0, .int .i64 0] 47)) := by show _ = _; rw [← hu3]; exact (heap_setCell_same _ N 3 _ _ _ HN2.out).trans rfl
  have HO3 : Hid ((World.heap u3)[M]? = some (.cells #[.int .i64 3, .float .f64 o.x, .float .f64 o.y, .int .i64 o.day, .int .i64 o.to, .int .i64 o.cur, .int .i64 o.count, .int .i64 o.n, .int .i64 o.months] 47)) := by show _ = _; rw [← hu3]; exact (blkF_far _ _ _ _ hMN).trans HO2.out
  have HB3 : Hid (Below w.heap.size w u3) := by show Below _ _ _; rw [← hu3]; exact HB2.out.setCell (p := ⟨N, 3, none⟩) hMle _
  have v4 := (opx_cells HN3.out 4 rfl).1
  have y4 := (opx_cells HN3.out 4 rfl).2
  obtain ⟨u4, hu4⟩ : ∃ u, World.setCell u3 ⟨N, 4, none⟩ (.int .i64 o.to) = u := ⟨_, rfl⟩
  have HN4 : Hid ((World.heap u4)[N]? = some (.cells #[.int .i64 3, .float .f64 o.x, .float .f64 o.y, .int .i64 o.day, .int .i64 o.to, .int .i64 0, .int .i64 o.count, .int .i64 0, .int .i64 0] 47)) := by show _ = _; rw [← hu4]; exact (heap_setCell_same _ N 4 _ _ _ HN3.out).trans rfl
  have HO4 : Hid ((World.heap u4)[M]? = some (.cells #[.int .i64 3, .float .f64 o.x, .float .f64 o.y, .int .i64 o.day, .int .i64 o.to, .int .i64 o.cur, .int .i64 o.count, .int .i64 o.n, .int .i64 o.months] 47)) := by show _ = _; rw [← hu4]; exact (blkF_far _ _ _ _ hMN).trans HO3.out
  have HB4 : Hid (Below w.heap.size w u4) := by show Below _ _ _; rw [← hu4]; exact HB3.out.setCell (p := ⟨N, 4, none⟩) hMle _
  have v5 := (opx_cells HN4.out 7 rfl).1
  have y5 := (opx_cells HN4.out 7 rfl).2
  obtain ⟨u5, hu5⟩ : ∃ u, World.setCell u4 ⟨N, 7, none⟩ (.int .i64 o.n) = u := ⟨_, rfl⟩
  have HN5 : Hid ((World.heap u5)[N]? = some (.cells #[.int .i64 3, .float .f64 o.x, .float .f64 o.y, .int .i64 o.day, .int .i64 o.to, .int .i64 0, .int .i64 o.count, .int .i64 o.n, .int .i64 0] 47)) := by show _ = _; rw [← hu5]; exact (heap_setCell_same _ N 7 _ _ _ HN4.out).trans rfl
  have HO5 : Hid ((World.heap u5)[M]? = some (.cells #[.int .i64 3, .float .f64 o.x, .float .f64 o.y, .int .i64 o.day, .int .i64 o.to, .int .i64 o.cur, .int .i64 o.count, .int .i64 o.n, .int .i64 o.months] 47)) := by show _ = _; rw [← hu5]; exact (blkF_far _ _ _ _ hMN).trans HO4.out
  have HB5 : Hid (Below w.heap.size w u5) := by show Below _ _ _; rw [← hu5]; exact HB4.out.setCell (p := ⟨N, 7, none⟩) hMle _
  have v6 := (opx_cells HN5.out 5 rfl).1
  have y6 := (opx_cells HN5.out 5 rfl).2
  obtain ⟨u6, hu6⟩ : ∃ u, World.setCell u5 ⟨N, 5, none⟩ (.int .i64 o.cur) = u := ⟨_, rfl⟩
  have HN6 : Hid ((World.heap u6)[N]? = some (.cells #[.int .i64 3, .float .f64 o.x, .float .f64 o.y, .int .i64 o.day, .int .i64 o.to, .int .i64 o.cur, .int .i64 o.count, .int .i64 o.n, .int .i64 0] 47)) := by show _ = _; rw [← hu6]; exact (heap_setCell_same _ N 5 _ _ _ HN5.out).trans rfl
  have HO6 : Hid ((World.heap u6)[M]? = some (.cells #[.int .i64 3, .float .f64 o.x, .float .f64 o.y, .int .i64 o.day, .int .i64 o.to, .int .i64 o.cur, .int .i64 o.count, .int .i64 o.n, .int .i64 o.months] 47)) := by show _ = _; rw [← hu6]; exact (blkF_far _ _ _ _ hMN).trans HO5.out
  have HB6 : Hid (Below w.heap.size w u6) := by show Below _ _ _; rw [← hu6]; exact HB5.out.setCell (p := ⟨N, 5, none⟩) hMle _
  have c_x := (opx_cells HO.out 1 rfl).1
  have c_y := (opx_cells HO.out 2 rfl).1
  have c_count := (opx_cells HO.out 6 rfl).1
  have c_day := (opx_cells HO.out 3 rfl).1
  have c_to := (opx_cells HO.out 4 rfl).1
  have c_n := (opx_cells HO.out 7 rfl).1
  have c_cur := (opx_cells HO.out 5 rfl).1
  have k0_x := (opx_cells HO0.out 1 rfl).1
  have k0_y := (opx_cells HO0.out 2 rfl).1
  have k0_count := (opx_cells HO0.out 6 rfl).1
  have k0_day := (opx_cells HO0.out 3 rfl).1
  have k0_to := (opx_cells HO0.out 4 rfl).1
  have k0_n := (opx_cells HO0.out 7 rfl).1
  have k0_cur := (opx_cells HO0.out 5 rfl).1
  have k1_x := (opx_cells HO1.out 1 rfl).1
  have k1_y := (opx_cells HO1.out 2 rfl).1
  have k1_count := (opx_cells HO1.out 6 rfl).1
  have k1_day := (opx_cells HO1.out 3 rfl).1
  have k1_to := (opx_cells HO1.out 4 rfl).1
  have k1_n := (opx_cells HO1.out 7 rfl).1
  have k1_cur := (opx_cells HO1.out 5 rfl).1
  have k2_x := (opx_cells HO2.out 1 rfl).1
  have k2_y := (opx_cells HO2.out 2 rfl).1
  have k2_count := (opx_cells HO2.out 6 rfl).1
  have k2_day := (opx_cells HO2.out 3 rfl).1
  have k2_to := (opx_cells HO2.out 4 rfl).1
  have k2_n := (opx_cells HO2.out 7 rfl).1
  have k2_cur := (opx_cells HO2.out 5 rfl).1
  have k3_x := (opx_cells HO3.out 1 rfl).1
  have k3_y := (opx_cells HO3.out 2 rfl).1
  have k3_count := (opx_cells HO3.out 6 rfl).1
  have k3_day := (opx_cells HO3.out 3 rfl).1
  have k3_to := (opx_cells HO3.out 4 rfl).1
  have k3_n := (opx_cells HO3.out 7 rfl).1
  have k3_cur := (opx_cells HO3.out 5 rfl).1
  have k4_x := (opx_cells HO4.out 1 rfl).1
  have k4_y := (opx_cells HO4.out 2 rfl).1
  have k4_count := (opx_cells HO4.out 6 rfl).1
  have k4_day := (opx_cells HO4.out 3 rfl).1
  have k4_to := (opx_cells HO4.out 4 rfl).1
  have k4_n := (opx_cells HO4.out 7 rfl).1
  have k4_cur := (opx_cells HO4.out 5 rfl).1
  have k5_x := (opx_cells HO5.out 1 rfl).1
  have k5_y := (opx_cells HO5.out 2 rfl).1
  have k5_count := (opx_cells HO5.out 6 rfl).1
  have k5_day := (opx_cells HO5.out 3 rfl).1
  have k5_to := (opx_cells HO5.out 4 rfl).1
  have k5_n := (opx_cells HO5.out 7 rfl).1
  have k5_cur := (opx_cells HO5.out 5 rfl).1
  have k6_x := (opx_cells HO6.out 1 rfl).1
  have k6_y := (opx_cells HO6.out 2 rfl).1
  have k6_count := (opx_cells HO6.out 6 rfl).1
  have k6_day := (opx_cells HO6.out 3 rfl).1
  have k6_to := (opx_cells HO6.out 4 rfl).1
  have k6_n := (opx_cells HO6.out 7 rfl).1
  have k6_cur := (opx_cells HO6.out 5 rfl).1
  go_region_held3 (fun x => x.cell? ⟨M, 1, none⟩ = some (.float .f64 o.x) ∧ x.cell? ⟨M, 2, none⟩ = some (.float .f64 o.y) ∧ x.cell? ⟨M, 6, none⟩ = some (.int .i64 o.count) ∧ x.cell? ⟨M, 3, none⟩ = some (.int .i64 o.day) ∧ x.cell? ⟨M, 4, none⟩ = some (.int .i64 o.to) ∧ x.cell? ⟨M, 7, none⟩ = some (.int .i64 o.n) ∧ x.cell? ⟨M, 5, none⟩ = some (.int .i64 o.cur)) (first | go_keep | (with_reducible exact ⟨c_x, c_y, c_count, c_day, c_to, c_n, c_cur⟩) | (simp only [World.cell?_drew]; first | (with_reducible exact ⟨k0_x, k0_y, k0_count, k0_day, k0_to, k0_n, k0_cur⟩) | (with_reducible exact ⟨k1_x, k1_y, k1_count, k1_day, k1_to, k1_n, k1_cur⟩) | (with_reducible exact ⟨k2_x, k2_y, k2_count, k2_day, k2_to, k2_n, k2_cur⟩) | (with_reducible exact ⟨k3_x, k3_y, k3_count, k3_day, k3_to, k3_n, k3_cur⟩) | (with_reducible exact ⟨k4_x, k4_y, k4_count, k4_day, k4_to, k4_n, k4_cur⟩) | (with_reducible exact ⟨k5_x, k5_y, k5_count, k5_day, k5_to, k5_n, k5_cur⟩) | (with_reducible exact ⟨k6_x, k6_y, k6_count, k6_day, k6_to, k6_n, k6_cur⟩)) | (simp [go_sem, *])) (fail)
  obtain ⟨wf, hwf⟩ : ∃ wf, World.drew u6 = wf := ⟨_, rfl⟩
  have HNf : Hid (wf.heap[N]? = some (.cells #[.int .i64 3, .float .f64 o.x, .float .f64 o.y, .int .i64 o.day, .int .i64 o.to, .int .i64 o.cur, .int .i64 o.count, .int .i64 o.n, .int .i64 0] 47)) := by show _ = _; rw [← hwf]; exact HN6.out
  have HOf : Hid (wf.heap[M]? = some (.cells #[.int .i64 3, .float .f64 o.x, .float .f64 o.y, .int .i64 o.day, .int .i64 o.to, .int .i64 o.cur, .int .i64 o.count, .int .i64 o.n, .int .i64 o.months] 47)) := by show _ = _; rw [← hwf]; exact HO6.out
  have HBf : Hid (Below w.heap.size w wf) := by show Below _ _ _; rw [← hwf]; exact ⟨HB6.out.os, HB6.out.tape, HB6.out.output, HB6.out.size, HB6.out.block⟩
  rw [hwf]
  clear hwf c_x c_y c_count c_day c_to c_n c_cur k0_x k0_y k0_count k0_day k0_to k0_n k0_cur k1_x k1_y k1_count k1_day k1_to k1_n k1_cur k2_x k2_y k2_count k2_day k2_to k2_n k2_cur k3_x k3_y k3_count k3_day k3_to k3_n k3_cur k4_x k4_y k4_count k4_day k4_to k4_n k4_cur k5_x k5_y k5_count k5_day k5_to k5_n k5_cur k6_x k6_y k6_count k6_day k6_to k6_n k6_cur v0 y0 hu0 HN0 HO0 HB0 v1 y1 hu1 HN1 HO1 HB1 v2 y2 hu2 HN2 HO2 HB2 v3 y3 hu3 HN3 HO3 HB3 v4 y4 hu4 HN4 HO4 HB4 v5 y5 hu5 HN5 HO5 HB5 v6 y6 hu6 HN6 HO6 HB6 HN HO HB
  have a0 := (opx_cells HOf.out 0 rfl).1
  have b0 := (opx_cells HNf.out 0 rfl).1
  have a1 := (opx_cells HOf.out 1 rfl).1
  have b1 := (opx_cells HNf.out 1 rfl).1
  have a2 := (opx_cells HOf.out 2 rfl).1
  have b2 := (opx_cells HNf.out 2 rfl).1
  have a3 := (opx_cells HOf.out 3 rfl).1
  have b3 := (opx_cells HNf.out 3 rfl).1
  have a4 := (opx_cells HOf.out 4 rfl).1
  have b4 := (opx_cells HNf.out 4 rfl).1
  have a5 := (opx_cells HOf.out 5 rfl).1
  have b5 := (opx_cells HNf.out 5 rfl).1
  have a6 := (opx_cells HOf.out 6 rfl).1
  have b6 := (opx_cells HNf.out 6 rfl).1
  have a7 := (opx_cells HOf.out 7 rfl).1
  have b7 := (opx_cells HNf.out 7 rfl).1
  have a8 := (opx_cells HOf.out 8 rfl).1
  have b8 := (opx_cells HNf.out 8 rfl).1
  cases B0
  · go_wp2_with (first | (go_at_call 89; (with_reducible refine (H0.out _).mono ?_); rintro e wq ⟨rfl, rfl⟩) | (go_at_call 89; (with_reducible refine (H1.out _).mono ?_); rintro e wq ⟨rfl, rfl⟩) | (go_at_call 92; (with_reducible refine (H2.out _).mono ?_); rintro e wq ⟨rfl, rfl⟩) | (go_at_call 91; (with_reducible refine (H3.out _).mono ?_); rintro e wq ⟨rfl, rfl⟩) | (go_at_call 91; (with_reducible refine (H4.out _).mono ?_); rintro e wq ⟨rfl, rfl⟩) | (go_at_call 92; (with_reducible refine (H6.out _).mono ?_); rintro e wq ⟨rfl, rfl⟩) | (go_at_call 90; (with_reducible refine (H7.out _).mono ?_); rintro e wq ⟨rfl, rfl⟩))
    go_quiet ((go_at_call 25; exact Calls.quiet_of_same (bits_any _ _)))
    go_wp2_with fail
    go_ret
    exact ⟨rfl, ⟨HBf.out.os, HBf.out.tape, HBf.out.output, HBf.out.size, HBf.out.block⟩⟩
  · skip
    cases B1
    · go_wp2_with (first | (go_at_call 89; (with_reducible refine (H0.out _).mono ?_); rintro e wq ⟨rfl, rfl⟩) | (go_at_call 89; (with_reducible refine (H1.out _).mono ?_); rintro e wq ⟨rfl, rfl⟩) | (go_at_call 92; (with_reducible refine (H2.out _).mono ?_); rintro e wq ⟨rfl, rfl⟩) | (go_at_call 91; (with_reducible refine (H3.out _).mono ?_); rintro e wq ⟨rfl, rfl⟩) | (go_at_call 91; (with_reducible refine (H4.out _).mono ?_); rintro e wq ⟨rfl, rfl⟩) | (go_at_call 92; (with_reducible refine (H6.out _).mono ?_); rintro e wq ⟨rfl, rfl⟩) | (go_at_call 90; (with_reducible refine (H7.out _).mono ?_); rintro e wq ⟨rfl, rfl⟩))
      go_quiet ((go_at_call 25; exact Calls.quiet_of_same (bits_any _ _)))
      go_wp2_with fail
      go_ret
      exact ⟨rfl, ⟨HBf.out.os, HBf.out.tape, HBf.out.output, HBf.out.size, HBf.out.block⟩⟩
    · skip
      cases B2
      · go_wp2_with (first | (go_at_call 89; (with_reducible refine (H0.out _).mono ?_); rintro e wq ⟨rfl, rfl⟩) | (go_at_call 89; (with_reducible refine (H1.out _).mono ?_); rintro e wq ⟨rfl, rfl⟩) | (go_at_call 92; (with_reducible refine (H2.out _).mono ?_); rintro e wq ⟨rfl, rfl⟩) | (go_at_call 91; (with_reducible refine (H3.out _).mono ?_); rintro e wq ⟨rfl, rfl⟩) | (go_at_call 91; (with_reducible refine (H4.out _).mono ?_); rintro e wq ⟨rfl, rfl⟩) | (go_at_call 92; (with_reducible refine (H6.out _).mono ?_); rintro e wq ⟨rfl, rfl⟩) | (go_at_call 90; (with_reducible refine (H7.out _).mono ?_); rintro e wq ⟨rfl, rfl⟩))
        go_quiet ((go_at_call 25; exact Calls.quiet_of_same (bits_any _ _)))
        go_wp2_with fail
        go_ret
        exact ⟨rfl, ⟨HBf.out.os, HBf.out.tape, HBf.out.output, HBf.out.size, HBf.out.block⟩⟩
      · skip
        cases B3
        · go_wp2_with (first | (go_at_call 89; (with_reducible refine (H0.out _).mono ?_); rintro e wq ⟨rfl, rfl⟩) | (go_at_call 89; (with_reducible refine (H1.out _).mono ?_); rintro e wq ⟨rfl, rfl⟩) | (go_at_call 92; (with_reducible refine (H2.out _).mono ?_); rintro e wq ⟨rfl, rfl⟩) | (go_at_call 91; (with_reducible refine (H3.out _).mono ?_); rintro e wq ⟨rfl, rfl⟩) | (go_at_call 91; (with_reducible refine (H4.out _).mono ?_); rintro e wq ⟨rfl, rfl⟩) | (go_at_call 92; (with_reducible refine (H6.out _).mono ?_); rintro e wq ⟨rfl, rfl⟩) | (go_at_call 90; (with_reducible refine (H7.out _).mono ?_); rintro e wq ⟨rfl, rfl⟩))
          go_quiet ((go_at_call 25; exact Calls.quiet_of_same (bits_any _ _)))
          go_wp2_with fail
          go_ret
          exact ⟨rfl, ⟨HBf.out.os, HBf.out.tape, HBf.out.output, HBf.out.size, HBf.out.block⟩⟩
        · skip
          cases B4
          · go_wp2_with (first | (go_at_call 89; (with_reducible refine (H0.out _).mono ?_); rintro e wq ⟨rfl, rfl⟩) | (go_at_call 89; (with_reducible refine (H1.out _).mono ?_); rintro e wq ⟨rfl, rfl⟩) | (go_at_call 92; (with_reducible refine (H2.out _).mono ?_); rintro e wq ⟨rfl, rfl⟩) | (go_at_call 91; (with_reducible refine (H3.out _).mono ?_); rintro e wq ⟨rfl, rfl⟩) | (go_at_call 91; (with_reducible refine (H4.out _).mono ?_); rintro e wq ⟨rfl, rfl⟩) | (go_at_call 92; (with_reducible refine (H6.out _).mono ?_); rintro e wq ⟨rfl, rfl⟩) | (go_at_call 90; (with_reducible refine (H7.out _).mono ?_); rintro e wq ⟨rfl, rfl⟩))
            go_quiet ((go_at_call 25; exact Calls.quiet_of_same (bits_any _ _)))
            go_wp2_with fail
            go_ret
            exact ⟨rfl, ⟨HBf.out.os, HBf.out.tape, HBf.out.output, HBf.out.size, HBf.out.block⟩⟩
          · skip
            cases B5
            · go_wp2_with (first | (go_at_call 89; (with_reducible refine (H0.out _).mono ?_); rintro e wq ⟨rfl, rfl⟩) | (go_at_call 89; (with_reducible refine (H1.out _).mono ?_); rintro e wq ⟨rfl, rfl⟩) | (go_at_call 92; (with_reducible refine (H2.out _).mono ?_); rintro e wq ⟨rfl, rfl⟩) | (go_at_call 91; (with_reducible refine (H3.out _).mono ?_); rintro e wq ⟨rfl, rfl⟩) | (go_at_call 91; (with_reducible refine (H4.out _).mono ?_); rintro e wq ⟨rfl, rfl⟩) | (go_at_call 92; (with_reducible refine (H6.out _).mono ?_); rintro e wq ⟨rfl, rfl⟩) | (go_at_call 90; (with_reducible refine (H7.out _).mono ?_); rintro e wq ⟨rfl, rfl⟩))
              go_quiet ((go_at_call 25; exact Calls.quiet_of_same (bits_any _ _)))
              go_wp2_with fail
              go_ret
              exact ⟨rfl, ⟨HBf.out.os, HBf.out.tape, HBf.out.output, HBf.out.size, HBf.out.block⟩⟩
            · skip
              cases B6
              · go_wp2_with (first | (go_at_call 89; (with_reducible refine (H0.out _).mono ?_); rintro e wq ⟨rfl, rfl⟩) | (go_at_call 89; (with_reducible refine (H1.out _).mono ?_); rintro e wq ⟨rfl, rfl⟩) | (go_at_call 92; (with_reducible refine (H2.out _).mono ?_); rintro e wq ⟨rfl, rfl⟩) | (go_at_call 91; (with_reducible refine (H3.out _).mono ?_); rintro e wq ⟨rfl, rfl⟩) | (go_at_call 91; (with_reducible refine (H4.out _).mono ?_); rintro e wq ⟨rfl, rfl⟩) | (go_at_call 92; (with_reducible refine (H6.out _).mono ?_); rintro e wq ⟨rfl, rfl⟩) | (go_at_call 90; (with_reducible refine (H7.out _).mono ?_); rintro e wq ⟨rfl, rfl⟩))
                go_quiet ((go_at_call 25; exact Calls.quiet_of_same (bits_any _ _)))
                go_wp2_with fail
                go_ret
                exact ⟨rfl, ⟨HBf.out.os, HBf.out.tape, HBf.out.output, HBf.out.size, HBf.out.block⟩⟩
              · skip
                cases B7
                · go_wp2_with (first | (go_at_call 89; (with_reducible refine (H0.out _).mono ?_); rintro e wq ⟨rfl, rfl⟩) | (go_at_call 89; (with_reducible refine (H1.out _).mono ?_); rintro e wq ⟨rfl, rfl⟩) | (go_at_call 92; (with_reducible refine (H2.out _).mono ?_); rintro e wq ⟨rfl, rfl⟩) | (go_at_call 91; (with_reducible refine (H3.out _).mono ?_); rintro e wq ⟨rfl, rfl⟩) | (go_at_call 91; (with_reducible refine (H4.out _).mono ?_); rintro e wq ⟨rfl, rfl⟩) | (go_at_call 92; (with_reducible refine (H6.out _).mono ?_); rintro e wq ⟨rfl, rfl⟩) | (go_at_call 90; (with_reducible refine (H7.out _).mono ?_); rintro e wq ⟨rfl, rfl⟩))
                  go_quiet ((go_at_call 25; exact Calls.quiet_of_same (bits_any _ _)))
                  go_wp2_with fail
                  go_ret
                  exact ⟨rfl, ⟨HBf.out.os, HBf.out.tape, HBf.out.output, HBf.out.size, HBf.out.block⟩⟩
                · skip
                  go_wp2_with (first | (go_at_call 89; (with_reducible refine (H0.out _).mono ?_); rintro e wq ⟨rfl, rfl⟩) | (go_at_call 89; (with_reducible refine (H1.out _).mono ?_); rintro e wq ⟨rfl, rfl⟩) | (go_at_call 92; (with_reducible refine (H2.out _).mono ?_); rintro e wq ⟨rfl, rfl⟩) | (go_at_call 91; (with_reducible refine (H3.out _).mono ?_); rintro e wq ⟨rfl, rfl⟩) | (go_at_call 91; (with_reducible refine (H4.out _).mono ?_); rintro e wq ⟨rfl, rfl⟩) | (go_at_call 92; (with_reducible refine (H6.out _).mono ?_); rintro e wq ⟨rfl, rfl⟩) | (go_at_call 90; (with_reducible refine (H7.out _).mono ?_); rintro e wq ⟨rfl, rfl⟩))
                  cases E
                  · go_quiet ((go_at_call 25; exact Calls.quiet_of_same (bits_any _ _)))
                    go_wp2_with fail
                    go_ret
                    exact ⟨rfl, ⟨HBf.out.os, HBf.out.tape, HBf.out.output, HBf.out.size, HBf.out.block⟩⟩
                  · go_quiet ((go_at_call 25; exact Calls.quiet_of_same (bits_any _ _)))
                    go_wp2_with fail
                    go_ret
                    exact ⟨rfl, ⟨HBf.out.os, HBf.out.tape, HBf.out.output, HBf.out.size, HBf.out.block⟩⟩
end Go.Proofs.YtienedhaogjahaaGreatDoor
namespace Go.Proofs.YtienedhaogjahaaGreatDoor
open Go.RowKit

structure OpU (o : Opr) : Prop where
  x : U64 o.x
  y : U64 o.y
def fitO (o : Opr) : Bool :=
  if o.kind = 1 ∨ o.kind = 4 then eqO o (nmA o) && ((o.x : Int) == (0 : Int)) && ((o.y : Int) == (0 : Int))
  else if o.kind = 2 then (finB o.x && (decide (1 ≤ o.cur) && decide (o.cur ≤ 8)) && (decide (0 ≤ o.day) && decide (o.day ≤ 109572))) && eqO o (nm2 o) && ((o.y : Int) == (0 : Int))
  else if o.kind = 3 then (finB o.x && finB o.y && (decide (1 ≤ o.count) && decide (o.count ≤ 5)) && (decide (0 ≤ o.day) && decide (o.day ≤ 109572)) && (decide (0 ≤ o.to) && decide (o.to ≤ 109572)) && decide (o.day < o.to) && (decide (1 ≤ o.n) && decide (o.n ≤ 1200)) && (decide (1 ≤ o.cur) && decide (o.cur ≤ 8))) && eqO o (nm3 o)
  else if o.kind = 5 then (finB o.x) && eqO o (nm5 o) && ((o.y : Int) == (0 : Int))
  else if o.kind = 6 then ((decide (0 ≤ o.day) && decide (o.day ≤ 109572)) && (decide (0 ≤ o.to) && decide (o.to ≤ 109572))) && eqO o (nm6 o) && ((o.x : Int) == (0 : Int)) && ((o.y : Int) == (0 : Int))
  else if o.kind = 7 then ((decide (1 ≤ o.n) && decide (o.n ≤ 4096)) && (decide (1 ≤ o.months) && decide (o.months ≤ 1200))) && eqO o (nm7 o) && ((o.x : Int) == (0 : Int)) && ((o.y : Int) == (0 : Int))
  else false
theorem fits_any (o : Opr) (hu : OpU o) (w : World) : Calls Tryz.prog 54 #[.agg (opC o)] w fun e w' => e = .returned (.bool (fitO o)) ∧ Below w.heap.size w w' := by
  unfold fitO
  split
  · rename_i h; exact fits_14 o h w
  split
  · rename_i h; exact fits_2 o h hu.x w
  split
  · rename_i h; exact fits_3 o h hu.x hu.y w
  split
  · rename_i h; exact fits_5 o h hu.x w
  split
  · rename_i h; exact fits_6 o h w
  split
  · rename_i h; exact fits_7 o h w
  · exact fits_no o (by omega) w
def takO (o : Opr) : Bool := decide (4 ≤ o.kind) && decide (o.kind ≤ 7)
theorem ans_takes {k o t : Int} {b : Bool} (h : cAns (fun i => ckO i == k) o t b) : b = (decide (4 ≤ k) && decide (k ≤ 7)) := by
  rcases h with ⟨hn, _, _, rfl⟩ | ⟨i, hi, hp, _, _, _, rfl⟩
  · by_cases h4 : 4 ≤ k
    · by_cases h7 : k ≤ 7
      · have := hn (k - 2).toNat (by omega)
        have this' : (ckO (k - 2).toNat == k) = false := this
        have e : ckO (k - 2).toNat = k := by unfold ckO; omega
        rw [e, beq_self_eq_true] at this'
        cases this'
      · rw [decide_eq_false h7, Bool.and_false]
    · rw [decide_eq_false h4, Bool.false_and]
  · have e : ckO i = k := by simpa using hp
    unfold ckO at e
    unfold ckB
    subst e
    by_cases h2 : 2 ≤ i
    · rw [decide_eq_true h2, decide_eq_true (show (4 : Int) ≤ (i : Int) + 2 by omega), decide_eq_true (show (i : Int) + 2 ≤ 7 by omega)]; rfl
    · rw [decide_eq_false h2, decide_eq_false (show ¬ (4 : Int) ≤ (i : Int) + 2 by omega)]; rfl
def opr0 : Opr := ⟨0, 0, 0, 0, 0, 0, 0, 0, 0⟩
structure OSrc (w : World) (p : Option Addr) (b off : Nat) (l : List Opr) : Prop where
  at_ : 0 < l.length → p = some ⟨b, off, none⟩
  lt : 0 < l.length → b < w.heap.size
  c0 : ∀ i < l.length, w.cell? ⟨b, off + i * 9, none⟩ = some (.int .i64 (l.getD i opr0).kind)
  c1 : ∀ i < l.length, w.cell? ⟨b, off + i * 9 + 1, none⟩ = some (.float .f64 (l.getD i opr0).x)
  c2 : ∀ i < l.length, w.cell? ⟨b, off + i * 9 + 2, none⟩ = some (.float .f64 (l.getD i opr0).y)
  c3 : ∀ i < l.length, w.cell? ⟨b, off + i * 9 + 3, none⟩ = some (.int .i64 (l.getD i opr0).day)
  c4 : ∀ i < l.length, w.cell? ⟨b, off + i * 9 + 4, none⟩ = some (.int .i64 (l.getD i opr0).to)
  c5 : ∀ i < l.length, w.cell? ⟨b, off + i * 9 + 5, none⟩ = some (.int .i64 (l.getD i opr0).cur)
  c6 : ∀ i < l.length, w.cell? ⟨b, off + i * 9 + 6, none⟩ = some (.int .i64 (l.getD i opr0).count)
  c7 : ∀ i < l.length, w.cell? ⟨b, off + i * 9 + 7, none⟩ = some (.int .i64 (l.getD i opr0).n)
  c8 : ∀ i < l.length, w.cell? ⟨b, off + i * 9 + 8, none⟩ = some (.int .i64 (l.getD i opr0).months)
theorem OSrc.below {w w' : World} {p : Option Addr} {b off : Nat} {l : List Opr} (h : OSrc w p b off l) (hb : Below w.heap.size w w') : OSrc w' p b off l := by
  have k : ∀ i, i < l.length → ∀ j, w'.cell? ⟨b, j, none⟩ = w.cell? ⟨b, j, none⟩ := fun i hi j => World.cell?_of_block (w := w) (a := ⟨b, j, none⟩) (hb.block b (h.lt (by omega)))
  exact ⟨h.at_, fun hn => Nat.lt_of_lt_of_le (h.lt hn) hb.size, fun i hi => (k i hi _).trans (h.c0 i hi), fun i hi => (k i hi _).trans (h.c1 i hi), fun i hi => (k i hi _).trans (h.c2 i hi), fun i hi => (k i hi _).trans (h.c3 i hi), fun i hi => (k i hi _).trans (h.c4 i hi), fun i hi => (k i hi _).trans (h.c5 i hi), fun i hi => (k i hi _).trans (h.c6 i hi), fun i hi => (k i hi _).trans (h.c7 i hi), fun i hi => (k i hi _).trans (h.c8 i hi)⟩
def mkN (l : List Opr) : Nat → Int
  | 0 => 0
  | k + 1 => if (l.getD k opr0).kind = 1 then mkN l k + 1 else if takO (l.getD k opr0) then mkN l k - 1 else mkN l k
def moN (l : List Opr) : Nat → Int
  | 0 => 0
  | k + 1 => max (moN l k) (mkN l (k + 1))
def badO (o : Opr) (m : Int) : Int := if fitO o = false ∨ (takO o = true ∧ m = 0) then 180 else if o.kind = 1 ∧ m = 63 then 172 else 0
inductive MeaR (l : List Opr) : Int → Int → Int → Prop
  | long (h : 8192 < l.length) : MeaR l 0 2 0
  | bad (k : Nat) (E : Int) (h : l.length ≤ 8192) (hk : k < l.length) (hp : ∀ i < k, badO (l.getD i opr0) (mkN l i) = 0) (he : badO (l.getD k opr0) (mkN l k) = E) (h0 : E ≠ 0) : MeaR l 0 E k
  | left (h : l.length ≤ 8192) (hp : ∀ i < l.length, badO (l.getD i opr0) (mkN l i) = 0) (hm : 0 < mkN l l.length) : MeaR l 0 180 l.length
  | fine (h : l.length ≤ 8192) (hp : ∀ i < l.length, badO (l.getD i opr0) (mkN l i) = 0) (hm : ¬ 0 < mkN l l.length) : MeaR l (moN l l.length) 0 0
theorem mk_range (l : List Opr) : ∀ k, (∀ i < k, badO (l.getD i opr0) (mkN l i) = 0) → 0 ≤ mkN l k ∧ mkN l k ≤ 63
  | 0, _ => (by decide : (0 : Int) ≤ 0 ∧ (0 : Int) ≤ 63)
  | k + 1, h => by
    obtain ⟨h0, h1⟩ := mk_range l k (fun i hi => h i (by omega))
    have hb := h k (by omega)
    unfold badO at hb
    split at hb
    · cases hb
    · rename_i hn
      split at hb
      · cases hb
      · rename_i hd
        rw [mkN]
        split
        · rename_i hk
          exact ⟨by omega, by have : mkN l k ≠ 63 := fun e => hd ⟨hk, e⟩; omega⟩
        · split
          · rename_i ht
            exact ⟨by have : mkN l k ≠ 0 := fun e => hn (Or.inr ⟨ht, e⟩); omega, by omega⟩
          · exact ⟨h0, h1⟩
theorem mo_range (l : List Opr) : ∀ k, (∀ i < k, badO (l.getD i opr0) (mkN l i) = 0) → 0 ≤ moN l k ∧ moN l k ≤ 63
  | 0, _ => (by decide : (0 : Int) ≤ 0 ∧ (0 : Int) ≤ 63)
  | k + 1, h => by
    have h1 := mo_range l k (fun i hi => h i (by omega))
    have h2 := mk_range l (k + 1) h
    rw [moN]
    omega
end Go.Proofs.YtienedhaogjahaaGreatDoor
namespace Go.Proofs.YtienedhaogjahaaGreatDoor
open Go.RowKit

theorem fieldC0 (a b : Int) (c : Bool) (w : World) : (Instr.field 98 (.agg #[.int .i64 a, .int .i64 b, .bool c]) 0).run Tryz.prog w = .ok (.int .i64 a) w := by kernel_rfl
theorem fieldC1 (a b : Int) (c : Bool) (w : World) : (Instr.field 98 (.agg #[.int .i64 a, .int .i64 b, .bool c]) 1).run Tryz.prog w = .ok (.int .i64 b) w := by kernel_rfl
theorem fieldC2 (a b : Int) (c : Bool) (w : World) : (Instr.field 98 (.agg #[.int .i64 a, .int .i64 b, .bool c]) 2).run Tryz.prog w = .ok (.bool c) w := by kernel_rfl
set_option maxRecDepth 20000 in
set_option maxHeartbeats 12800000 in
theorem cMeasure_any (l : List Opr) (n : Nat) (p : Option Addr) (b off c : Nat) (w : World) (hs : OSrc w p b off l) (hn : l.length = n) (hu : ∀ i < n, OpU (l.getD i opr0)) (hl : n ≤ 9223372036854775807) :
    Calls Tryz.prog 32 #[.slice p n c] w fun e w' => ∃ M E A, e = .returned (.tuple #[.int .i64 M, .int .i64 E, .int .i64 A]) ∧ MeaR l M E A ∧ Below w.heap.size w w' := by
  have HS := hidD (And.intro hs (And.intro hn hu))
  clear hs hn hu
  by_cases hlong : 8192 < n
  · have i0 : (8192 : Int) < (n : Int) := by omega
    have HL := hidD hlong
    clear hlong
    go_enter Tryz.func32, Tryz.ntmps32
    go_wp2_with fail
    go_ret3
    exact ⟨_, _, _, rfl, .long (by rw [HS.out.2.1]; exact HL.out), Below.refl _ _⟩
  have i0 : ¬ (8192 : Int) < (n : Int) := by omega
  have i00 : n ≤ 8192 := by omega
  have HL : Hid (l.length ≤ 8192) := by show _ ≤ _; rw [HS.out.2.1]; exact i00
  have hst := store_fltD
  have hf2 := fieldC2
  clear hlong hl
  go_enter Tryz.func32, Tryz.ntmps32
  go_wp2_with fail
  go_loopw [2, 5, 14] (fun mo m i wr => ∃ k : Nat, k ≤ n ∧ i = .int .i64 k ∧ mo = .int .i64 (moN l k) ∧ m = .int .i64 (mkN l k) ∧ Hid (∀ j < k, badO (l.getD j opr0) (mkN l j) = 0) ∧ Hid (Below w.heap.size w wr)) (fun _ _ i _ => n - (intOf i).toNat)
  case atStart => exact ⟨0, Nat.zero_le _, rfl, rfl, rfl, fun j hj => by omega, Below.refl _ _⟩
  case round =>
    obtain ⟨k, hk, rfl, rfl, rfl, HP, HB⟩ := hrel
    obtain ⟨m0, m1⟩ := mk_range l k HP.out
    obtain ⟨o0, o1⟩ := mo_range l k HP.out
    by_cases hlt : k < n
    · have hlt' : k < l.length := by rw [HS.out.2.1]; exact hlt
      have HSr := hidD (HS.out.1.below HB.out)
      obtain rfl := HSr.out.at_ (by omega)
      have c0 := HSr.out.c0 k hlt'
      have c1 := HSr.out.c1 k hlt'
      have c2 := HSr.out.c2 k hlt'
      have c3 := HSr.out.c3 k hlt'
      have c4 := HSr.out.c4 k hlt'
      have c5 := HSr.out.c5 k hlt'
      have c6 := HSr.out.c6 k hlt'
      have c7 := HSr.out.c7 k hlt'
      have c8 := HSr.out.c8 k hlt'
      have hbl : b < wr.heap.size := HSr.out.lt (by omega)
      have hbn := Nat.ne_of_lt hbl
      have HKo := hidD (kindOf_any (l.getD k opr0))
      have HFi := hidD (fits_any (l.getD k opr0) (HS.out.2.2 k hlt))
      have hmk : mkN l (k + 1) = if (l.getD k opr0).kind = 1 then mkN l k + 1 else if takO (l.getD k opr0) then mkN l k - 1 else mkN l k := rfl
      have hmo : moN l (k + 1) = max (moN l k) (mkN l (k + 1)) := rfl
      have HBd : Hid (∀ E, badO (l.getD k opr0) (mkN l k) = E → E ≠ 0 → MeaR l 0 E k) := fun E he h0 => .bad k E HL.out hlt' HP.out he h0
      have HGo : Hid (badO (l.getD k opr0) (mkN l k) = 0 → ∀ j < k + 1, badO (l.getD j opr0) (mkN l j) = 0) := fun h j hj => by
        by_cases e : j = k
        · rw [e]; exact h
        · exact HP.out j (by omega)
      generalize hbo : badO (l.getD k opr0) (mkN l k) = BO at HBd HGo
      unfold badO at hbo
      generalize hto : takO (l.getD k opr0) = T at hbo hmk
      generalize hfo : fitO (l.getD k opr0) = F at hbo HFi
      have HTk := hidD hto
      generalize hM' : mkN l (k + 1) = M' at *
      generalize hO' : moN l (k + 1) = O' at *
      have HM' := hidD hM'
      have HO' := hidD hO'
      generalize hMk : mkN l k = M at *
      generalize hOk : moN l k = O at *
      unfold takO at HTk
      generalize l.getD k opr0 = o at *
      have i1 : (k : Int) < (n : Int) := by omega
      unfold opC at HKo HFi
      clear hfo hto hM' hO' hMk hOk
      go_wp2_with fail
      have Ho1 : Hid (OpB (wr.alloc (.cells #[.int .i64 o.kind, .float .f64 o.x, .float .f64 o.y, .int .i64 o.day, .int .i64 o.to, .int .i64 o.cur, .int .i64 o.count, .int .i64 o.n, .int .i64 o.months] 47)) wr.heap.size o) := heap_alloc_new _ _
      refine (HKo.out _).mono ?_
      rintro e w1 ⟨xo, xt, xb, rfl, ha, hb1⟩
      obtain rfl : xb = T := by rw [ans_takes ha]; exact HTk.out
      have Ho2 := hidD ((hb1.block _ (lt_of_blk Ho1.out)).trans Ho1.out : OpB w1 wr.heap.size o)
      have HB1 := hidD (HB.out.trans (((al_bel wr _).trans (hb1.mono (by simp))).mono HB.out.size))
      obtain ⟨d0, d1, d2, d3, d4, d5, d6, d7, d8⟩ := op_cells Ho2.out
      clear ha hb1 c0 c1 c2 c3 c4 c5 c6 c7 c8 HKo Ho1
      go_wp2_with fail
      refine (HFi.out _).mono ?_
      rintro e w2 ⟨rfl, hb2⟩
      have HB2 := hidD (HB1.out.trans (hb2.mono HB1.out.size))
      have Ho3 := hidD ((hb2.block _ (lt_of_blk Ho2.out)).trans Ho2.out : OpB w2 wr.heap.size o)
      obtain ⟨e0, _⟩ := op_cells Ho3.out
      clear hb2 d0 d1 d2 d3 d4 d5 d6 d7 d8 HFi Ho2
      cases F
      · have hBO : BO = 180 := by rw [← hbo]; simp
        subst hBO
        clear hbo
        go_wp2_with fail
        go_ret3
        exact ⟨_, _, _, rfl, HBd.out _ rfl (by decide), HB2.out⟩
      · cases xb
        · by_cases hk1 : o.kind = 1
          · have t1 : (o.kind == 1) = true := by rw [hk1]; rfl
            by_cases h63 : M = 63
            · have t2 : (M == 63) = true := by rw [h63]; rfl
              have hBO : BO = 172 := by rw [← hbo]; simp [hk1, h63]
              subst hBO
              clear hbo hk1 h63
              go_wp2_with fail
              go_ret3
              exact ⟨_, _, _, rfl, HBd.out _ rfl (by decide), HB2.out⟩
            · have t2 : (M == 63) = false := beq_eq_false_iff_ne.2 h63
              have hBO : BO = 0 := by rw [← hbo]; simp [hk1, h63]
              have HG := hidD (HGo.out hBO)
              have e1 : M + 1 = M' := by rw [hmk, if_pos hk1]
              have e2 : max O M' = O' := hmo.symm
              have hM2 : M' ≤ 64 := by omega
              have hM3 : 0 ≤ M' := by omega
              clear hbo hk1 h63 hBO hmk hmo
              go_wp2_with fail
              go_roundw
              case rel => exact ⟨k + 1, by omega, by simp, by rw [HO'.out], by rw [HM'.out], HG, HB2⟩
              case measure => simp [intOf]; omega
          · have t1 : (o.kind == 1) = false := beq_eq_false_iff_ne.2 hk1
            have hBO : BO = 0 := by rw [← hbo]; simp [hk1]
            have HG := hidD (HGo.out hBO)
            have e1 : M' = M := by rw [hmk, if_neg hk1]; rfl
            have e2 : max O M = O' := by rw [hmo, e1]
            clear hbo hk1 hBO hmk hmo
            go_wp2_with fail
            go_roundw
            case rel => exact ⟨k + 1, by omega, by simp, by rw [HO'.out], by rw [HM'.out, e1], HG, HB2⟩
            case measure => simp [intOf]; omega
        · have hk4 : 4 ≤ o.kind := by
            have := HTk.out
            simp only [Bool.and_eq_true, decide_eq_true_eq] at this
            exact this.1
          have hk1 : ¬ o.kind = 1 := by omega
          have t1 : (o.kind == 1) = false := beq_eq_false_iff_ne.2 hk1
          by_cases h0 : M = 0
          · have t2 : (M == 0) = true := by rw [h0]; rfl
            have hBO : BO = 180 := by rw [← hbo]; simp [h0]
            subst hBO
            clear hbo hk1 h0 hk4
            go_wp2_with fail
            go_ret3
            exact ⟨_, _, _, rfl, HBd.out _ rfl (by decide), HB2.out⟩
          · have t2 : (M == 0) = false := beq_eq_false_iff_ne.2 h0
            have hBO : BO = 0 := by rw [← hbo]; simp [h0, hk1]
            have HG := hidD (HGo.out hBO)
            have e1 : M - 1 = M' := by rw [hmk, if_neg hk1]; rfl
            have e2 : max O M' = O' := hmo.symm
            have hM2 : M' ≤ 64 := by omega
            have hM3 : 0 ≤ M' := by omega
            clear hbo hk1 h0 hBO hk4 hmk hmo
            go_wp2_with fail
            go_roundw
            case rel => exact ⟨k + 1, by omega, by simp, by rw [HO'.out], by rw [HM'.out], HG, HB2⟩
            case measure => simp [intOf]; omega
    · obtain rfl : k = n := by omega
      have i1 : ¬ (k : Int) < (k : Int) := by omega
      have hkl := HS.out.2.1
      by_cases hm : 0 < mkN l k
      · have HR : Hid (MeaR l 0 180 k) := by
          have := MeaR.left (l := l) HL.out (by rw [hkl]; exact HP.out) (by rw [hkl]; exact hm)
          rw [hkl] at this
          exact this
        clear hkl
        generalize mkN l k = M at *
        generalize moN l k = O at *
        go_wp2_with fail
        go_ret3
        exact ⟨_, _, _, rfl, HR.out, HB.out⟩
      · have HR : Hid (MeaR l (moN l k) 0 0) := by
          have := MeaR.fine (l := l) HL.out (by rw [hkl]; exact HP.out) (by rw [hkl]; exact hm)
          rw [hkl] at this
          exact this
        clear hkl
        generalize mkN l k = M at *
        generalize moN l k = O at *
        go_wp2_with fail
        go_ret3
        exact ⟨_, _, _, rfl, HR.out, HB.out⟩
end Go.Proofs.YtienedhaogjahaaGreatDoor
namespace Go.Proofs.YtienedhaogjahaaGreatDoor
open Go.RowKit

theorem MeaR.unique {l : List Opr} {M E A M' E' A' : Int} (h : MeaR l M E A) (h' : MeaR l M' E' A') : M = M' ∧ E = E' ∧ A = A' := by
  have key : ∀ {k k' : Nat} {E : Int}, (∀ i < k, badO (l.getD i opr0) (mkN l i) = 0) → badO (l.getD k opr0) (mkN l k) = E → E ≠ 0 → (∀ i < k', badO (l.getD i opr0) (mkN l i) = 0) → ¬ k < k' := fun hp he h0 hp' hlt => h0 (he.symm.trans (hp' _ hlt))
  cases h with
  | long h =>
    cases h' with
    | long _ => exact ⟨rfl, rfl, rfl⟩
    | bad k E h2 => omega
    | left h2 => omega
    | fine h2 => omega
  | bad k E h1 hk hp he h0 =>
    cases h' with
    | long h2 => omega
    | bad k' E' h2 hk' hp' he' h0' =>
      have a := key hp he h0 hp'
      have b := key hp' he' h0' hp
      have e : k = k' := by omega
      subst e
      exact ⟨rfl, he.symm.trans he', rfl⟩
    | left h2 hp' hm => exact absurd (he.symm.trans (hp' k hk)) h0
    | fine h2 hp' hm => exact absurd (he.symm.trans (hp' k hk)) h0
  | left h1 hp hm =>
    cases h' with
    | long h2 => omega
    | bad k' E' h2 hk' hp' he' h0' => exact absurd (he'.symm.trans (hp k' hk')) h0'
    | left h2 hp' hm' => exact ⟨rfl, rfl, rfl⟩
    | fine h2 hp' hm' => exact absurd hm hm'
  | fine h1 hp hm =>
    cases h' with
    | long h2 => omega
    | bad k' E' h2 hk' hp' he' h0' => exact absurd (he'.symm.trans (hp k' hk')) h0'
    | left h2 hp' hm' => exact absurd hm' hm
    | fine h2 hp' hm' => exact ⟨rfl, rfl, rfl⟩
theorem cMeasure_is {l : List Opr} {M E A : Int} (h : MeaR l M E A) (n : Nat) (p : Option Addr) (b off c : Nat) (w : World) (hs : OSrc w p b off l) (hn : l.length = n) (hu : ∀ i < n, OpU (l.getD i opr0)) (hl : n ≤ 9223372036854775807) :
    Calls Tryz.prog 32 #[.slice p n c] w fun e w' => e = .returned (.tuple #[.int .i64 M, .int .i64 E, .int .i64 A]) ∧ Below w.heap.size w w' :=
  (cMeasure_any l n p b off c w hs hn hu hl).mono fun e w' ⟨M', E', A', he, hr, hb⟩ => by
    obtain ⟨rfl, rfl, rfl⟩ := h.unique hr
    exact ⟨he, hb⟩
set_option maxRecDepth 20000 in
theorem cCheck_is {l : List Opr} {M E A : Int} (h : MeaR l M E A) (n : Nat) (p : Option Addr) (b off c : Nat) (w : World) (hs : OSrc w p b off l) (hn : l.length = n) (hu : ∀ i < n, OpU (l.getD i opr0)) (hl : n ≤ 9223372036854775807) :
    Calls Tryz.prog 16 #[.slice p n c] w fun e w' => e = .returned (.tuple #[.int .i64 E, .int .i64 A]) ∧ Below w.heap.size w w' := by
  have H := hidD (cMeasure_is h n p b off c w hs hn hu hl)
  clear h hs hn hu hl
  go_enter Tryz.func16, Tryz.ntmps16
  go_wp2_with fail
  refine H.out.mono ?_
  rintro e w1 ⟨rfl, hb⟩
  have HB := hidD hb
  clear hb
  go_wp2_with fail
  go_ret2
  exact ⟨rfl, HB.out⟩
set_option maxRecDepth 20000 in
theorem cMarks_is {l : List Opr} {M E A : Int} (h : MeaR l M E A) (n : Nat) (p : Option Addr) (b off c : Nat) (w : World) (hs : OSrc w p b off l) (hn : l.length = n) (hu : ∀ i < n, OpU (l.getD i opr0)) (hl : n ≤ 9223372036854775807) :
    Calls Tryz.prog 20 #[.slice p n c] w fun e w' => e = .returned (.tuple #[.int .i64 M, .int .i64 E]) ∧ Below w.heap.size w w' := by
  have H := hidD (cMeasure_is h n p b off c w hs hn hu hl)
  clear h hs hn hu hl
  go_enter Tryz.func20, Tryz.ntmps20
  go_wp2_with fail
  refine H.out.mono ?_
  rintro e w1 ⟨rfl, hb⟩
  have HB := hidD hb
  clear hb
  go_wp2_with fail
  go_ret2
  exact ⟨rfl, HB.out⟩
set_option maxRecDepth 20000 in
theorem cBack_bad {l : List Opr} {M E A : Int} (h : MeaR l M E A) (hE : E ≠ 0) (n : Nat) (p : Option Addr) (b off c : Nat) (w : World) (hs : OSrc w p b off l) (hn : l.length = n) (hu : ∀ i < n, OpU (l.getD i opr0)) (hl : n ≤ 9223372036854775807) :
    Calls Tryz.prog 12 #[.slice p n c] w fun e w' => e = .returned (.tuple #[.slice none 0 0, .int .i64 E]) ∧ Below w.heap.size w w' := by
  have H := hidD (cCheck_is h n p b off c w hs hn hu hl)
  have t1 : (E != 0) = true := bne_iff_ne.2 hE
  clear h hs hn hu hl hE
  go_enter Tryz.func12, Tryz.ntmps12
  go_wp2_with fail
  refine H.out.mono ?_
  rintro e w1 ⟨rfl, hb⟩
  have HB := hidD hb
  clear hb
  go_wp2_with fail
  go_ret2
  exact ⟨rfl, HB.out⟩
set_option maxRecDepth 20000 in
theorem cTrim_bad {l : List Opr} {M E A : Int} (h : MeaR l M E A) (hE : E ≠ 0) (n : Nat) (p : Option Addr) (b off c : Nat) (w : World) (hs : OSrc w p b off l) (hn : l.length = n) (hu : ∀ i < n, OpU (l.getD i opr0)) (hl : n ≤ 9223372036854775807) :
    Calls Tryz.prog 17 #[.slice p n c] w fun e w' => e = .returned (.tuple #[.slice none 0 0, .int .i64 E]) ∧ Below w.heap.size w w' := by
  have H := hidD (cCheck_is h n p b off c w hs hn hu hl)
  have t1 : (E != 0) = true := bne_iff_ne.2 hE
  clear h hs hn hu hl hE
  go_enter Tryz.func17, Tryz.ntmps17
  go_wp2_with fail
  refine H.out.mono ?_
  rintro e w1 ⟨rfl, hb⟩
  have HB := hidD hb
  clear hb
  go_wp2_with fail
  go_ret2
  exact ⟨rfl, HB.out⟩
end Go.Proofs.YtienedhaogjahaaGreatDoor
