/- Package code: whether an op's fields may be. Package code: whether the fields of the other ops may be. -/
import Derived.Test.YtienedhaogjahaaGreatDoorHar
import Derived.Deep.RegionHeld3
namespace Go.Proofs.YtienedhaogjahaaGreatDoor
open Go.RowKit

def OpB (w : World) (g : Nat) (o : Opr) : Prop := w.heap[g]? = some (.cells (opC o) 47)
theorem op_cells {w : World} {g : Nat} {t : Opr} (h : OpB w g t) : w.cell? ⟨g, 0, none⟩ = some (.int .i64 t.kind) ∧ w.cell? ⟨g, 1, none⟩ = some (.float .f64 t.x) ∧ w.cell? ⟨g, 2, none⟩ = some (.float .f64 t.y) ∧ w.cell? ⟨g, 3, none⟩ = some (.int .i64 t.day) ∧ w.cell? ⟨g, 4, none⟩ = some (.int .i64 t.to) ∧ w.cell? ⟨g, 5, none⟩ = some (.int .i64 t.cur) ∧ w.cell? ⟨g, 6, none⟩ = some (.int .i64 t.count) ∧ w.cell? ⟨g, 7, none⟩ = some (.int .i64 t.n) ∧ w.cell? ⟨g, 8, none⟩ = some (.int .i64 t.months) := by
  unfold OpB opC at h
  refine ⟨?_, ?_, ?_, ?_, ?_, ?_, ?_, ?_, ?_⟩ <;>
  · simp only [World.cell?, h, Option.isSome_none, Bool.false_eq_true, if_false]; rfl
def eqO (p q : Opr) : Bool := ((p.kind == q.kind) && ((FloatKind.f64.format.order p.x q.x == some .eq) && ((FloatKind.f64.format.order p.y q.y == some .eq) && ((p.day == q.day) && ((p.to == q.to) && ((p.cur == q.cur) && ((p.count == q.count) && ((p.n == q.n) && ((p.months == q.months) && true)))))))))
theorem eqO_run (p q : Opr) (w : World) : (binOp .eql 47 (.agg (opC p)) (.agg (opC q))).run Tryz.prog w = .ok (.bool (eqO p q)) w := oq_eql p.kind p.x p.y p.day p.to p.cur p.count p.n p.months q.kind q.x q.y q.day q.to q.cur q.count q.n q.months w
def nmA (o : Opr) : Opr := ⟨o.kind, 0, 0, 0, 0, 0, 0, 0, 0⟩
set_option maxRecDepth 20000 in
set_option maxHeartbeats 6400000 in
theorem fits_14 (o : Opr) (hk : o.kind = 1 ∨ o.kind = 4) (w : World) : Calls Tryz.prog 54 #[.agg (opC o)] w fun e w' => e = .returned (.bool (eqO o (nmA o) && ((o.x : Int) == (0 : Int)) && ((o.y : Int) == (0 : Int)))) ∧ Below w.heap.size w w' := by
  have HQ : Hid (∀ w, (binOp .eql 47 (.agg (opC o)) (.agg (opC (nmA o)))).run Tryz.prog w = .ok (.bool (eqO o (nmA o))) w) := eqO_run o (nmA o)
  obtain ⟨E, hE⟩ : ∃ E, eqO o (nmA o) = E := ⟨_, rfl⟩
  obtain ⟨X, hX⟩ : ∃ X, ((o.x : Int) == (0 : Int)) = X := ⟨_, rfl⟩
  obtain ⟨Y, hY⟩ : ∃ Y, ((o.y : Int) == (0 : Int)) = Y := ⟨_, rfl⟩
  rw [hE] at HQ ⊢
  rw [hX, hY]
  have heq := HQ.out
  unfold opC nmA at heq
  simp only at heq
  have hst := store_fltD
  have HB : Hid (Below w.heap.size w ((w.alloc (.cells (opC o) 47)).alloc (.cells (opC (nmA o)) 47))) := ((Below.refl _ _).alloc (Nat.le_refl _) _).alloc (by simp) _
  unfold opC nmA at HB
  clear HQ hE
  unfold opC
  rcases hk with hk | hk
  all_goals
    rw [hk] at heq HB ⊢
    cases E <;> cases X <;> cases Y
    all_goals
      go_enter Tryz.func54, Tryz.ntmps54
      go_wp2_with fail
      go_quiet ((go_at_call 25; exact Calls.quiet_of_same (bits_any _ _)))
      go_wp2_with fail
      go_ret
      exact ⟨rfl, ⟨HB.out.os, HB.out.tape, HB.out.output, HB.out.size, HB.out.block⟩⟩
end Go.Proofs.YtienedhaogjahaaGreatDoor
namespace Go.Proofs.YtienedhaogjahaaGreatDoor
open Go.RowKit

theorem cIn_any (n lo hi : Int) (w : World) : Calls Tryz.prog 92 #[.int .i64 n, .int .i64 lo, .int .i64 hi] w fun e w' => e = .returned (.bool (decide (lo ≤ n) && decide (n ≤ hi))) ∧ w' = w := by
  by_cases h1 : lo ≤ n <;> by_cases h2 : n ≤ hi
  all_goals
    first | (have t1 : decide (lo ≤ n) = true := decide_eq_true h1) | (have t1 : decide (lo ≤ n) = false := decide_eq_false h1)
    first | (have t2 : decide (n ≤ hi) = true := decide_eq_true h2) | (have t2 : decide (n ≤ hi) = false := decide_eq_false h2)
    rw [t1, t2]
    clear t1 t2
    go_enter Tryz.func92, Tryz.ntmps92
    go_wp2_with fail
    go_ret
    exact ⟨rfl, rfl⟩
theorem cDay_any (n : Int) (w : World) : Calls Tryz.prog 91 #[.int .i64 n] w fun e w' => e = .returned (.bool (decide (0 ≤ n) && decide (n ≤ 109572))) ∧ w' = w := by
  have H := hidD (cIn_any n 0 109572 w)
  go_enter Tryz.func91, Tryz.ntmps91
  go_wp2_with fail
  refine H.out.mono ?_
  rintro e w1 ⟨rfl, rfl⟩
  go_wp2_with fail
  go_ret
  exact ⟨rfl, rfl⟩
theorem cCur_any (n : Int) (w : World) : Calls Tryz.prog 90 #[.int .i64 n] w fun e w' => e = .returned (.bool (decide (1 ≤ n) && decide (n ≤ 8))) ∧ w' = w := by
  have H := hidD (cIn_any n 1 8 w)
  go_enter Tryz.func90, Tryz.ntmps90
  go_wp2_with fail
  refine H.out.mono ?_
  rintro e w1 ⟨rfl, rfl⟩
  go_wp2_with fail
  go_ret
  exact ⟨rfl, rfl⟩
theorem opx_cells {w : World} {g : Nat} {cs : Array Value} {T : TypeId} (h : w.heap[g]? = some (.cells cs T)) (i : Nat) {v : Value} (hv : cs[i]? = some v) : w.cell? ⟨g, i, none⟩ = some v ∧ w.frozen? ⟨g, i, none⟩ = false := by
  refine ⟨?_, by simp [World.frozen?, h]⟩
  simp only [World.cell?, h, Option.isSome_none, Bool.false_eq_true, if_false]
  exact hv
def nm6 (o : Opr) : Opr := ⟨o.kind, 0, 0, o.day, o.to, 0, 0, 0, 0⟩
set_option maxRecDepth 20000 in
set_option maxHeartbeats 12800000 in
theorem fits_6 (o : Opr) (hk : o.kind = 6) (w : World) : Calls Tryz.prog 54 #[.agg (opC o)] w fun e w' => e = .returned (.bool (((decide (0 ≤ o.day) && decide (o.day ≤ 109572)) && (decide (0 ≤ o.to) && decide (o.to ≤ 109572))) && eqO o (nm6 o) && ((o.x : Int) == (0 : Int)) && ((o.y : Int) == (0 : Int)))) ∧ Below w.heap.size w w' := by
  have heq := eqO_run o (nm6 o)
  have H0 := hidD (cDay_any o.day)
  have H1 := hidD (cDay_any o.to)
  obtain ⟨B0, hB0⟩ : ∃ B, (decide (0 ≤ o.day) && decide (o.day ≤ 109572)) = B := ⟨_, rfl⟩
  rw [hB0]
  rw [hB0] at H0
  obtain ⟨B1, hB1⟩ : ∃ B, (decide (0 ≤ o.to) && decide (o.to ≤ 109572)) = B := ⟨_, rfl⟩
  rw [hB1]
  rw [hB1] at H1
  obtain ⟨E, hE⟩ : ∃ E, eqO o (nm6 o) = E := ⟨_, rfl⟩
  rw [hE] at heq ⊢
  obtain ⟨X, hX⟩ : ∃ X, ((o.x : Int) == (0 : Int)) = X := ⟨_, rfl⟩
  rw [hX]
  obtain ⟨Y, hY⟩ : ∃ Y, ((o.y : Int) == (0 : Int)) = Y := ⟨_, rfl⟩
  rw [hY]
  unfold opC nm6 at heq
  simp only at heq
  unfold opC
  rw [hk] at heq ⊢
  have hst := store_fltD
  clear hE hB0 hB1
  have HO : Hid (((w.alloc (.cells #[.int .i64 6, .float .f64 o.x, .float .f64 o.y, .int .i64 o.day, .int .i64 o.to, .int .i64 o.cur, .int .i64 o.count, .int .i64 o.n, .int .i64 o.months] 47)).alloc (.cells #[.int .i64 6, .float .f64 0, .float .f64 0, .int .i64 0, .int .i64 0, .int .i64 0, .int .i64 0, .int .i64 0, .int .i64 0] 47)).heap[w.heap.size]? = some (.cells #[.int .i64 6, .float .f64 o.x, .float .f64 o.y, .int .i64 o.day, .int .i64 o.to, .int .i64 o.cur, .int .i64 o.count, .int .i64 o.n, .int .i64 o.months] 47)) := by
    show _ = _
    rw [al_at, sz_al, if_neg (by omega)]; exact heap_alloc_new _ _
  have HN : Hid (((w.alloc (.cells #[.int .i64 6, .float .f64 o.x, .float .f64 o.y, .int .i64 o.day, .int .i64 o.to, .int .i64 o.cur, .int .i64 o.count, .int .i64 o.n, .int .i64 o.months] 47)).alloc (.cells #[.int .i64 6, .float .f64 0, .float .f64 0, .int .i64 0, .int .i64 0, .int .i64 0, .int .i64 0, .int .i64 0, .int .i64 0] 47)).heap[w.heap.size + 1]? = some (.cells #[.int .i64 6, .float .f64 0, .float .f64 0, .int .i64 0, .int .i64 0, .int .i64 0, .int .i64 0, .int .i64 0, .int .i64 0] 47)) := by
    show _ = _
    rw [al_at, sz_al, if_pos rfl]
  have HB : Hid (Below w.heap.size w ((w.alloc (.cells #[.int .i64 6, .float .f64 o.x, .float .f64 o.y, .int .i64 o.day, .int .i64 o.to, .int .i64 o.cur, .int .i64 o.count, .int .i64 o.n, .int .i64 o.months] 47)).alloc (.cells #[.int .i64 6, .float .f64 0, .float .f64 0, .int .i64 0, .int .i64 0, .int .i64 0, .int .i64 0, .int .i64 0, .int .i64 0] 47))) := ((Below.refl _ _).alloc (Nat.le_refl _) _).alloc (by simp) _
  go_enter Tryz.func54, Tryz.ntmps54
  go_wp2_with fail
  obtain ⟨w2, hw2⟩ : ∃ w2, (w.alloc (.cells #[.int .i64 6, .float .f64 o.x, .float .f64 o.y, .int .i64 o.day, .int .i64 o.to, .int .i64 o.cur, .int .i64 o.count, .int .i64 o.n, .int .i64 o.months] 47)).alloc (.cells #[.int .i64 6, .float .f64 0, .float .f64 0, .int .i64 0, .int .i64 0, .int .i64 0, .int .i64 0, .int .i64 0, .int .i64 0] 47) = w2 := ⟨_, rfl⟩
  rw [hw2] at HO HN HB
  rw [hw2]
  clear hw2
  obtain ⟨N, hN⟩ : ∃ N, w.heap.size + 1 = N := ⟨_, rfl⟩
  obtain ⟨M, hM⟩ : ∃ M, w.heap.size = M := ⟨_, rfl⟩
  have hMN : M ≠ N := by omega
  have hMle : w.heap.size ≤ N := by omega
  rw [hN] at HN ⊢
  rw [hM] at HO ⊢
  clear hN hM
  have v0 := (opx_cells HN.out 3 rfl).1
  have y0 := (opx_cells HN.out 3 rfl).2
  obtain ⟨u0, hu0⟩ : ∃ u, World.setCell w2 ⟨N, 3, none⟩ (.int .i64 o.day) = u := ⟨_, rfl⟩
  have HN0 : Hid ((World.heap u0)[N]? = some (.cells #[.int .i64 6, .float .f64 0, .float .f64 0, .int .i64 o.day, .int .i64 0, .int .i64 0, .int .i64 0, .int .i64 0, .int .i64 0] 47)) := by show _ = _; rw [← hu0]; exact (heap_setCell_same _ N 3 _ _ _ HN.out).trans rfl
  have HO0 : Hid ((World.heap u0)[M]? = some (.cells #[.int .i64 6, .float .f64 o.x, .float .f64 o.y, .int .i64 o.day, .int .i64 o.to, .int .i64 o.cur, .int .i64 o.count, .int .i64 o.n, .int .i64 o.months] 47)) := by show _ = _; rw [← hu0]; exact (blkF_far _ _ _ _ hMN).trans HO.out
  have HB0 : Hid (Below w.heap.size w u0) := by show Below _ _ _; rw [← hu0]; exact HB.out.setCell (p := ⟨N, 3, none⟩) hMle _
  have v1 := (opx_cells HN0.out 4 rfl).1
  have y1 := (opx_cells HN0.out 4 rfl).2
  obtain ⟨u1, hu1⟩ : ∃ u, World.setCell u0 ⟨N, 4, none⟩ (.int .i64 o.to) = u := ⟨_, rfl⟩
  have HN1 : Hid ((World.heap u1)[N]? = some (.cells #[.int .i64 6, .float .f64 0, .float .f64 0, .int .i64 o.day, .int .i64 o.to, .int .i64 0, .int .i64 0, .int .i64 0, .int .i64 0] 47)) := by show _ = _; rw [← hu1]; exact (heap_setCell_same _ N 4 _ _ _ HN0.out).trans rfl
  have HO1 : Hid ((World.heap u1)[M]? = some (.cells #[.int .i64 6, .float .f64 o.x, .float .f64 o.y, .int .i64 o.day, .int .i64 o.to, .int .i64 o.cur, .int .i64 o.count, .int .i64 o.n, .int .i64 o.months] 47)) := by show _ = _; rw [← hu1]; exact (blkF_far _ _ _ _ hMN).trans HO0.out
  have HB1 : Hid (Below w.heap.size w u1) := by show Below _ _ _; rw [← hu1]; exact HB0.out.setCell (p := ⟨N, 4, none⟩) hMle _
  have c_day := (opx_cells HO.out 3 rfl).1
  have c_to := (opx_cells HO.out 4 rfl).1
  have k0_day := (opx_cells HO0.out 3 rfl).1
  have k0_to := (opx_cells HO0.out 4 rfl).1
  have k1_day := (opx_cells HO1.out 3 rfl).1
  have k1_to := (opx_cells HO1.out 4 rfl).1
  go_region_held3 (fun x => x.cell? ⟨M, 3, none⟩ = some (.int .i64 o.day) ∧ x.cell? ⟨M, 4, none⟩ = some (.int .i64 o.to)) (first | go_keep | (with_reducible exact ⟨c_day, c_to⟩) | (simp only [World.cell?_drew]; first | (with_reducible exact ⟨k0_day, k0_to⟩) | (with_reducible exact ⟨k1_day, k1_to⟩)) | (simp [go_sem, *])) (fail)
  obtain ⟨wf, hwf⟩ : ∃ wf, World.drew u1 = wf := ⟨_, rfl⟩
  have HNf : Hid (wf.heap[N]? = some (.cells #[.int .i64 6, .float .f64 0, .float .f64 0, .int .i64 o.day, .int .i64 o.to, .int .i64 0, .int .i64 0, .int .i64 0, .int .i64 0] 47)) := by show _ = _; rw [← hwf]; exact HN1.out
  have HOf : Hid (wf.heap[M]? = some (.cells #[.int .i64 6, .float .f64 o.x, .float .f64 o.y, .int .i64 o.day, .int .i64 o.to, .int .i64 o.cur, .int .i64 o.count, .int .i64 o.n, .int .i64 o.months] 47)) := by show _ = _; rw [← hwf]; exact HO1.out
  have HBf : Hid (Below w.heap.size w wf) := by show Below _ _ _; rw [← hwf]; exact ⟨HB1.out.os, HB1.out.tape, HB1.out.output, HB1.out.size, HB1.out.block⟩
  rw [hwf]
  clear hwf c_day c_to k0_day k0_to k1_day k1_to v0 y0 hu0 HN0 HO0 HB0 v1 y1 hu1 HN1 HO1 HB1 HN HO HB
  have a0 := (opx_cells HOf.out 0 rfl).1
  have b0 := (opx_cells HNf.out 0 rfl).1
  have a1 := (opx_cells HOf.out 1 rfl).1
  have b1 := (opx_cells HNf.out 1 rfl).1
  have a2 := (opx_cells HOf.out 2 rfl).1
  have b2 := (opx_cells HNf.out 2 rfl).1
  have a3 := (opx_cells HOf.out 3 rfl).1
  have b3 := (opx_cells HNf.out 3 rfl).1
  have a4 := (opx_cells HOf.out 4 rfl).1
  have b4 := (opx_cells HNf.out 4 rfl).1
  have a5 := (opx_cells HOf.out 5 rfl).1
  have b5 := (opx_cells HNf.out 5 rfl).1
  have a6 := (opx_cells HOf.out 6 rfl).1
  have b6 := (opx_cells HNf.out 6 rfl).1
  have a7 := (opx_cells HOf.out 7 rfl).1
  have b7 := (opx_cells HNf.out 7 rfl).1
  have a8 := (opx_cells HOf.out 8 rfl).1
  have b8 := (opx_cells HNf.out 8 rfl).1
  cases B0
  · go_wp2_with (first | (go_at_call 91; (with_reducible refine (H0.out _).mono ?_); rintro e wq ⟨rfl, rfl⟩) | (go_at_call 91; (with_reducible refine (H1.out _).mono ?_); rintro e wq ⟨rfl, rfl⟩))
    go_quiet ((go_at_call 25; exact Calls.quiet_of_same (bits_any _ _)))
    go_wp2_with fail
    go_ret
    exact ⟨rfl, ⟨HBf.out.os, HBf.out.tape, HBf.out.output, HBf.out.size, HBf.out.block⟩⟩
  · skip
    cases B1
    · go_wp2_with (first | (go_at_call 91; (with_reducible refine (H0.out _).mono ?_); rintro e wq ⟨rfl, rfl⟩) | (go_at_call 91; (with_reducible refine (H1.out _).mono ?_); rintro e wq ⟨rfl, rfl⟩))
      go_quiet ((go_at_call 25; exact Calls.quiet_of_same (bits_any _ _)))
      go_wp2_with fail
      go_ret
      exact ⟨rfl, ⟨HBf.out.os, HBf.out.tape, HBf.out.output, HBf.out.size, HBf.out.block⟩⟩
    · skip
      go_wp2_with (first | (go_at_call 91; (with_reducible refine (H0.out _).mono ?_); rintro e wq ⟨rfl, rfl⟩) | (go_at_call 91; (with_reducible refine (H1.out _).mono ?_); rintro e wq ⟨rfl, rfl⟩))
      cases E
      · go_quiet ((go_at_call 25; exact Calls.quiet_of_same (bits_any _ _)))
        go_wp2_with fail
        go_ret
        exact ⟨rfl, ⟨HBf.out.os, HBf.out.tape, HBf.out.output, HBf.out.size, HBf.out.block⟩⟩
      · skip
        cases X
        · go_quiet ((go_at_call 25; exact Calls.quiet_of_same (bits_any _ _)))
          go_wp2_with fail
          go_ret
          exact ⟨rfl, ⟨HBf.out.os, HBf.out.tape, HBf.out.output, HBf.out.size, HBf.out.block⟩⟩
        · skip
          cases Y
          · go_quiet ((go_at_call 25; exact Calls.quiet_of_same (bits_any _ _)))
            go_wp2_with fail
            go_ret
            exact ⟨rfl, ⟨HBf.out.os, HBf.out.tape, HBf.out.output, HBf.out.size, HBf.out.block⟩⟩
          · go_quiet ((go_at_call 25; exact Calls.quiet_of_same (bits_any _ _)))
            go_wp2_with fail
            go_ret
            exact ⟨rfl, ⟨HBf.out.os, HBf.out.tape, HBf.out.output, HBf.out.size, HBf.out.block⟩⟩
def nm7 (o : Opr) : Opr := ⟨o.kind, 0, 0, 0, 0, 0, 0, o.n, o.months⟩
set_option maxRecDepth 20000 in
set_option maxHeartbeats 12800000 in
theorem fits_7 (o : Opr) (hk : o.kind = 7) (w : World) : Calls Tryz.prog 54 #[.agg (opC o)] w fun e w' => e = .returned (.bool (((decide (1 ≤ o.n) && decide (o.n ≤ 4096)) && (decide (1 ≤ o.months) && decide (o.months ≤ 1200))) && eqO o (nm7 o) && ((o.x : Int) == (0 : Int)) && ((o.y : Int) == (0 : Int)))) ∧ Below w.heap.size w w' := by
  have heq := eqO_run o (nm7 o)
  have H0 := hidD (cIn_any o.n 1 4096)
  have H1 := hidD (cIn_any o.months 1 1200)
  obtain ⟨B0, hB0⟩ : ∃ B, (decide (1 ≤ o.n) && decide (o.n ≤ 4096)) = B := ⟨_, rfl⟩
  rw [hB0]
  rw [hB0] at H0
  obtain ⟨B1, hB1⟩ : ∃ B, (decide (1 ≤ o.months) && decide (o.months ≤ 1200)) = B := ⟨_, rfl⟩
  rw [hB1]
  rw [hB1] at H1
  obtain ⟨E, hE⟩ : ∃ E, eqO o (nm7 o) = E := ⟨_, rfl⟩
  rw [hE] at heq ⊢
  obtain ⟨X, hX⟩ : ∃ X, ((o.x : Int) == (0 : Int)) = X := ⟨_, rfl⟩
  rw [hX]
  obtain ⟨Y, hY⟩ : ∃ Y, ((o.y : Int) == (0 : Int)) = Y := ⟨_, rfl⟩
  rw [hY]
  unfold opC nm7 at heq
  simp only at heq
  unfold opC
  rw [hk] at heq ⊢
  have hst := store_fltD
  clear hE hB0 hB1
  have HO : Hid (((w.alloc (.cells #[.int .i64 7, .float .f64 o.x, .float .f64 o.y, .int .i64 o.day, .int .i64 o.to, .int .i64 o.cur, .int .i64 o.count, .int .i64 o.n, .int .i64 o.months] 47)).alloc (.cells #[.int .i64 7, .float .f64 0, .float .f64 0, .int .i64 0, .int .i64 0, .int .i64 0, .int .i64 0, .int .i64 0, .int .i64 0] 47)).heap[w.heap.size]? = some (.cells #[.int .i64 7, .float .f64 o.x, .float .f64 o.y, .int .i64 o.day, .int .i64 o.to, .int .i64 o.cur, .int .i64 o.count, .int .i64 o.n, .int .i64 o.months] 47)) := by
    show _ = _
    rw [al_at, sz_al, if_neg (by omega)]; exact heap_alloc_new _ _
  have HN : Hid (((w.alloc (.cells #[.int .i64 7, .float .f64 o.x, .float .f64 o.y, .int .i64 o.day, .int .i64 o.to, .int .i64 o.cur, .int .i64 o.count, .int .i64 o.n, .int .i64 o.months] 47)).alloc (.cells #[.int .i64 7, .float .f64 0, .float .f64 0, .int .i64 0, .int .i64 0, .int .i64 0, .int .i64 0, .int .i64 0, .int .i64 0] 47)).heap[w.heap.size + 1]? = some (.cells #[.int .i64 7, .float .f64 0, .float .f64 0, .int .i64 0, .int .i64 0, .int .i64 0, .int .i64 0, .int .i64 0, .int .i64 0] 47)) := by
    show _ = _
    rw [al_at, sz_al, if_pos rfl]
  have HB : Hid (Below w.heap.size w ((w.alloc (.cells #[.int .i64 7, .float .f64 o.x, .float .f64 o.y, .int .i64 o.day, .int .i64 o.to, .int .i64 o.cur, .int .i64 o.count, .int .i64 o.n, .int .i64 o.months] 47)).alloc (.cells #[.int .i64 7, .float .f64 0, .float .f64 0, .int .i64 0, .int .i64 0, .int .i64 0, .int .i64 0, .int .i64 0, .int .i64 0] 47))) := ((Below.refl _ _).alloc (Nat.le_refl _) _).alloc (by simp) _
  go_enter Tryz.func54, Tryz.ntmps54
  go_wp2_with fail
  obtain ⟨w2, hw2⟩ : ∃ w2, (w.alloc (.cells #[.int .i64 7, .float .f64 o.x, .float .f64 o.y, .int .i64 o.day, .int .i64 o.to, .int .i64 o.cur, .int .i64 o.count, .int .i64 o.n, .int .i64 o.months] 47)).alloc (.cells #[.int .i64 7, .float .f64 0, .float .f64 0, .int .i64 0, .int .i64 0, .int .i64 0, .int .i64 0, .int .i64 0, .int .i64 0] 47) = w2 := ⟨_, rfl⟩
  rw [hw2] at HO HN HB
  rw [hw2]
  clear hw2
  obtain ⟨N, hN⟩ : ∃ N, w.heap.size + 1 = N := ⟨_, rfl⟩
  obtain ⟨M, hM⟩ : ∃ M, w.heap.size = M := ⟨_, rfl⟩
  have hMN : M ≠ N := by omega
  have hMle : w.heap.size ≤ N := by omega
  rw [hN] at HN ⊢
  rw [hM] at HO ⊢
  clear hN hM
  have v0 := (opx_cells HN.out 7 rfl).1
  have y0 := (opx_cells HN.out 7 rfl).2
  obtain ⟨u0, hu0⟩ : ∃ u, World.setCell w2 ⟨N, 7, none⟩ (.int .i64 o.n) = u := ⟨_, rfl⟩
  have HN0 : Hid ((World.heap u0)[N]? = some (.cells #[.int .i64 7, .float .f64 0, .float .f64 0, .int .i64 0, .int .i64 0, .int .i64 0, .int .i64 0, .int .i64 o.n, .int .i64 0] 47)) := by show _ = _; rw [← hu0]; exact (heap_setCell_same _ N 7 _ _ _ HN.out).trans rfl
  have HO0 : Hid ((World.heap u0)[M]? = some (.cells #[.int .i64 7, .float .f64 o.x, .float .f64 o.y, .int .i64 o.day, .int .i64 o.to, .int .i64 o.cur, .int .i64 o.count, .int .i64 o.n, .int .i64 o.months] 47)) := by show _ = _; rw [← hu0]; exact (blkF_far _ _ _ _ hMN).trans HO.out
  have HB0 : Hid (Below w.heap.size w u0) := by show Below _ _ _; rw [← hu0]; exact HB.out.setCell (p := ⟨N, 7, none⟩) hMle _
  have v1 := (opx_cells HN0.out 8 rfl).1
  have y1 := (opx_cells HN0.out 8 rfl).2
  obtain ⟨u1, hu1⟩ : ∃ u, World.setCell u0 ⟨N, 8, none⟩ (.int .i64 o.months) = u := ⟨_, rfl⟩
  have HN1 : Hid ((World.heap u1)[N]? = some (.cells #[.int .i64 7, .float .f64 0, .float .f64 0, .int .i64 0, .int .i64 0, .int .i64 0, .int .i64 0, .int .i64 o.n, .int .i64 o.months] 47)) := by show _ = _; rw [← hu1]; exact (heap_setCell_same _ N 8 _ _ _ HN0.out).trans rfl
  have HO1 : Hid ((World.heap u1)[M]? = some (.cells #[.int .i64 7, .float .f64 o.x, .float .f64 o.y, .int .i64 o.day, .int .i64 o.to, .int .i64 o.cur, .int .i64 o.count, .int .i64 o.n, .int .i64 o.months] 47)) := by show _ = _; rw [← hu1]; exact (blkF_far _ _ _ _ hMN).trans HO0.out
  have HB1 : Hid (Below w.heap.size w u1) := by show Below _ _ _; rw [← hu1]; exact HB0.out.setCell (p := ⟨N, 8, none⟩) hMle _
  have c_n := (opx_cells HO.out 7 rfl).1
  have c_months := (opx_cells HO.out 8 rfl).1
  have k0_n := (opx_cells HO0.out 7 rfl).1
  have k0_months := (opx_cells HO0.out 8 rfl).1
  have k1_n := (opx_cells HO1.out 7 rfl).1
  have k1_months := (opx_cells HO1.out 8 rfl).1
  go_region_held3 (fun x => x.cell? ⟨M, 7, none⟩ = some (.int .i64 o.n) ∧ x.cell? ⟨M, 8, none⟩ = some (.int .i64 o.months)) (first | go_keep | (with_reducible exact ⟨c_n, c_months⟩) | (simp only [World.cell?_drew]; first | (with_reducible exact ⟨k0_n, k0_months⟩) | (with_reducible exact ⟨k1_n, k1_months⟩)) | (simp [go_sem, *])) (fail)
  obtain ⟨wf, hwf⟩ : ∃ wf, World.drew u1 = wf := ⟨_, rfl⟩
  have HNf : Hid (wf.heap[N]? = some (.cells #[.int .i64 7, .float .f64 0, .float .f64 0, .int .i64 0, .int .i64 0, .int .i64 0, .int .i64 0, .int .i64 o.n, .int .i64 o.months] 47)) := by show _ = _; rw [← hwf]; exact HN1.out
  have HOf : Hid (wf.heap[M]? = some (.cells #[.int .i64 7, .float .f64 o.x, .float .f64 o.y, .int .i64 o.day, .int .i64 o.to, .int .i64 o.cur, .int .i64 o.count, .int .i64 o.n, .int .i64 o.months] 47)) := by show _ = _; rw [← hwf]; exact HO1.out
  have HBf : Hid (Below w.heap.size w wf) := by show Below _ _ _; rw [← hwf]; exact ⟨HB1.out.os, HB1.out.tape, HB1.out.output, HB1.out.size, HB1.out.block⟩
  rw [hwf]
  clear hwf c_n c_months k0_n k0_months k1_n k1_months v0 y0 hu0 HN0 HO0 HB0 v1 y1 hu1 HN1 HO1 HB1 HN HO HB
  have a0 := (opx_cells HOf.out 0 rfl).1
  have b0 := (opx_cells HNf.out 0 rfl).1
  have a1 := (opx_cells HOf.out 1 rfl).1
  have b1 := (opx_cells HNf.out 1 rfl).1
  have a2 := (opx_cells HOf.out 2 rfl).1
  have b2 := (opx_cells HNf.out 2 rfl).1
  have a3 := (opx_cells HOf.out 3 rfl).1
  have b3 := (opx_cells HNf.out 3 rfl).1
  have a4 := (opx_cells HOf.out 4 rfl).1
  have b4 := (opx_cells HNf.out 4 rfl).1
  have a5 := (opx_cells HOf.out 5 rfl).1
  have b5 := (opx_cells HNf.out 5 rfl).1
  have a6 := (opx_cells HOf.out 6 rfl).1
  have b6 := (opx_cells HNf.out 6 rfl).1
  have a7 := (opx_cells HOf.out 7 rfl).1
  have b7 := (opx_cells HNf.out 7 rfl).1
  have a8 := (opx_cells HOf.out 8 rfl).1
  have b8 := (opx_cells HNf.out 8 rfl).1
  cases B0
  · go_wp2_with (first | (go_at_call 92; (with_reducible refine (H0.out _).mono ?_); rintro e wq ⟨rfl, rfl⟩) | (go_at_call 92; (with_reducible refine (H1.out _).mono ?_); rintro e wq ⟨rfl, rfl⟩))
    go_quiet ((go_at_call 25; exact Calls.quiet_of_same (bits_any _ _)))
    go_wp2_with fail
    go_ret
    exact ⟨rfl, ⟨HBf.out.os, HBf.out.tape, HBf.out.output, HBf.out.size, HBf.out.block⟩⟩
  · skip
    cases B1
    · go_wp2_with (first | (go_at_call 92; (with_reducible refine (H0.out _).mono ?_); rintro e wq ⟨rfl, rfl⟩) | (go_at_call 92; (with_reducible refine (H1.out _).mono ?_); rintro e wq ⟨rfl, rfl⟩))
      go_quiet ((go_at_call 25; exact Calls.quiet_of_same (bits_any _ _)))
      go_wp2_with fail
      go_ret
      exact ⟨rfl, ⟨HBf.out.os, HBf.out.tape, HBf.out.output, HBf.out.size, HBf.out.block⟩⟩
    · skip
      go_wp2_with (first | (go_at_call 92; (with_reducible refine (H0.out _).mono ?_); rintro e wq ⟨rfl, rfl⟩) | (go_at_call 92; (with_reducible refine (H1.out _).mono ?_); rintro e wq ⟨rfl, rfl⟩))
      cases E
      · go_quiet ((go_at_call 25; exact Calls.quiet_of_same (bits_any _ _)))
        go_wp2_with fail
        go_ret
        exact ⟨rfl, ⟨HBf.out.os, HBf.out.tape, HBf.out.output, HBf.out.size, HBf.out.block⟩⟩
      · skip
        cases X
        · go_quiet ((go_at_call 25; exact Calls.quiet_of_same (bits_any _ _)))
          go_wp2_with fail
          go_ret
          exact ⟨rfl, ⟨HBf.out.os, HBf.out.tape, HBf.out.output, HBf.out.size, HBf.out.block⟩⟩
        · skip
          cases Y
          · go_quiet ((go_at_call 25; exact Calls.quiet_of_same (bits_any _ _)))
            go_wp2_with fail
            go_ret
            exact ⟨rfl, ⟨HBf.out.os, HBf.out.tape, HBf.out.output, HBf.out.size, HBf.out.block⟩⟩
          · go_quiet ((go_at_call 25; exact Calls.quiet_of_same (bits_any _ _)))
            go_wp2_with fail
            go_ret
            exact ⟨rfl, ⟨HBf.out.os, HBf.out.tape, HBf.out.output, HBf.out.size, HBf.out.block⟩⟩
def nm2 (o : Opr) : Opr := ⟨o.kind, o.x, 0, o.day, 0, o.cur, 0, 0, 0⟩
set_option maxRecDepth 20000 in
set_option maxHeartbeats 12800000 in
theorem fits_2 (o : Opr) (hk : o.kind = 2) (hux : U64 o.x) (w : World) : Calls Tryz.prog 54 #[.agg (opC o)] w fun e w' => e = .returned (.bool ((finB o.x && (decide (1 ≤ o.cur) && decide (o.cur ≤ 8)) && (decide (0 ≤ o.day) && decide (o.day ≤ 109572))) && eqO o (nm2 o) && ((o.y : Int) == (0 : Int)))) ∧ Below w.heap.size w w' := by
  have heq := eqO_run o (nm2 o)
  have H0 := hidD (fun w => cNum_any o.x w hux)
  have H1 := hidD (cCur_any o.cur)
  have H2 := hidD (cDay_any o.day)
  obtain ⟨B0, hB0⟩ : ∃ B, finB o.x = B := ⟨_, rfl⟩
  rw [hB0]
  rw [hB0] at H0
  obtain ⟨B1, hB1⟩ : ∃ B, (decide (1 ≤ o.cur) && decide (o.cur ≤ 8)) = B := ⟨_, rfl⟩
  rw [hB1]
  rw [hB1] at H1
  obtain ⟨B2, hB2⟩ : ∃ B, (decide (0 ≤ o.day) && decide (o.day ≤ 109572)) = B := ⟨_, rfl⟩
  rw [hB2]
  rw [hB2] at H2
  obtain ⟨E, hE⟩ : ∃ E, eqO o (nm2 o) = E := ⟨_, rfl⟩
  rw [hE] at heq ⊢
  obtain ⟨Y, hY⟩ : ∃ Y, ((o.y : Int) == (0 : Int)) = Y := ⟨_, rfl⟩
  rw [hY]
  unfold opC nm2 at heq
  simp only at heq
  unfold opC
  rw [hk] at heq ⊢
  have hst := store_fltD
  clear hE hB0 hB1 hB2
  have HO : Hid (((w.alloc (.cells #[.int .i64 2, .float .f64 o.x, .float .f64 o.y, .int .i64 o.day, .int .i64 o.to, .int .i64 o.cur, .int .i64 o.count, .int .i64 o.n, .int .i64 o.months] 47)).alloc (.cells #[.int .i64 2, .float .f64 0, .float .f64 0, .int .i64 0, .int .i64 0, .int .i64 0, .int .i64 0, .int .i64 0, .int .i64 0] 47)).heap[w.heap.size]? = some (.cells #[.int .i64 2, .float .f64 o.x, .float .f64 o.y, .int .i64 o.day, .int .i64 o.to, .int .i64 o.cur, .int .i64 o.count, .int .i64 o.n, .int .i64 o.months] 47)) := by
    show _ = _
    rw [al_at, sz_al, if_neg (by omega)]; exact heap_alloc_new _ _
  have HN : Hid (((w.alloc (.cells #[.int .i64 2, .float .f64 o.x, .float .f64 o.y, .int .i64 o.day, .int .i64 o.to, .int .i64 o.cur, .int .i64 o.count, .int .i64 o.n, .int .i64 o.months] 47)).alloc (.cells #[.int .i64 2, .float .f64 0, .float .f64 0, .int .i64 0, .int .i64 0, .int .i64 0, .int .i64 0, .int .i64 0, .int .i64 0] 47)).heap[w.heap.size + 1]? = some (.cells #[.int .i64 2, .float .f64 0, .float .f64 0, .int .i64 0, .int .i64 0, .int .i64 0, .int .i64 0, .int .i64 0, .int .i64 0] 47)) := by
    show _ = _
    rw [al_at, sz_al, if_pos rfl]
  have HB : Hid (Below w.heap.size w ((w.alloc (.cells #[.int .i64 2, .float .f64 o.x, .float .f64 o.y, .int .i64 o.day, .int .i64 o.to, .int .i64 o.cur, .int .i64 o.count, .int .i64 o.n, .int .i64 o.months] 47)).alloc (.cells #[.int .i64 2, .float .f64 0, .float .f64 0, .int .i64 0, .int .i64 0, .int .i64 0, .int .i64 0, .int .i64 0, .int .i64 0] 47))) := ((Below.refl _ _).alloc (Nat.le_refl _) _).alloc (by simp) _
  go_enter Tryz.func54, Tryz.ntmps54
  go_wp2_with fail
  obtain ⟨w2, hw2⟩ : ∃ w2, (w.alloc (.cells #[.int .i64 2, .float .f64 o.x, .float .f64 o.y, .int .i64 o.day, .int .i64 o.to, .int .i64 o.cur, .int .i64 o.count, .int .i64 o.n, .int .i64 o.months] 47)).alloc (.cells #[.int .i64 2, .float .f64 0, .float .f64 0, .int .i64 0, .int .i64 0, .int .i64 0, .int .i64 0, .int .i64 0, .int .i64 0] 47) = w2 := ⟨_, rfl⟩
  rw [hw2] at HO HN HB
  rw [hw2]
  clear hw2
  obtain ⟨N, hN⟩ : ∃ N, w.heap.size + 1 = N := ⟨_, rfl⟩
  obtain ⟨M, hM⟩ : ∃ M, w.heap.size = M := ⟨_, rfl⟩
  have hMN : M ≠ N := by omega
  have hMle : w.heap.size ≤ N := by omega
  rw [hN] at HN ⊢
  rw [hM] at HO ⊢
  clear hN hM
  have v0 := (opx_cells HN.out 1 rfl).1
  have y0 := (opx_cells HN.out 1 rfl).2
  obtain ⟨u0, hu0⟩ : ∃ u, World.setCell w2 ⟨N, 1, none⟩ (.float .f64 o.x) = u := ⟨_, rfl⟩
  have HN0 : Hid ((World.heap u0)[N]? = some (.cells #[.int .i64 2, .float .f64 o.x, .float .f64 0, .int .i64 0, .int .i64 0, .int .i64 0, .int .i64 0, .int .i64 0, .int .i64 0] 47)) := by show _ = _; rw [← hu0]; exact (heap_setCell_same _ N 1 _ _ _ HN.out).trans rfl
  have HO0 : Hid ((World.heap u0)[M]? = some (.cells #[.int .i64 2, .float .f64 o.x, .float .f64 o.y, .int .i64 o.day, .int .i64 o.to, .int .i64 o.cur, .int .i64 o.count, .int .i64 o.n, .int .i64 o.months] 47)) := by show _ = _; rw [← hu0]; exact (blkF_far _ _ _ _ hMN).trans HO.out
  have HB0 : Hid (Below w.heap.size w u0) := by show Below _ _ _; rw [← hu0]; exact HB.out.setCell (p := ⟨N, 1, none⟩) hMle _
  have v1 := (opx_cells HN0.out 5 rfl).1
  have y1 := (opx_cells HN0.out 5 rfl).2
  obtain ⟨u1, hu1⟩ : ∃ u, World.setCell u0 ⟨N, 5, none⟩ (.int .i64 o.cur) = u := ⟨_, rfl⟩
  have HN1 : Hid ((World.heap u1)[N]? = some (.cells #[.int .i64 2, .float .f64 o.x, .float .f64 0, .int .i64 0, .int .i64 0, .int .i64 o.cur, .int .i64 0, .int .i64 0, .int .i64 0] 47)) := by show _ = _; rw [← hu1]; exact (heap_setCell_same _ N 5 _ _ _ HN0.out).trans rfl
  have HO1 : Hid ((World.heap u1)[M]? = some (.cells #[.int .i64 2, .float .f64 o.x, .float .f64 o.y, .int .i64 o.day, .int .i64 o.to, .int .i64 o.cur, .int .i64 o.count, .int .i64 o.n, .int .i64 o.months] 47)) := by show _ = _; rw [← hu1]; exact (blkF_far _ _ _ _ hMN).trans HO0.out
  have HB1 : Hid (Below w.heap.size w u1) := by show Below _ _ _; rw [← hu1]; exact HB0.out.setCell (p := ⟨N, 5, none⟩) hMle _
  have v2 := (opx_cells HN1.out 3 rfl).1
  have y2 := (opx_cells HN1.out 3 rfl).2
  obtain ⟨u2, hu2⟩ : ∃ u, World.setCell u1 ⟨N, 3, none⟩ (.int .i64 o.day) = u := ⟨_, rfl⟩
  have HN2 : Hid ((World.heap u2)[N]? = some (.cells #[.int .i64 2, .float .f64 o.x, .float .f64 0, .int .i64 o.day, .int .i64 0, .int .i64 o.cur, .int .i64 0, .int .i64 0, .int .i64 0] 47)) := by show _ = _; rw [← hu2]; exact (heap_setCell_same _ N 3 _ _ _ HN1.out).trans rfl
  have HO2 : Hid ((World.heap u2)[M]? = some (.cells #[.int .i64 2, .float .f64 o.x, .float .f64 o.y, .int .i64 o.day, .int .i64 o.to, .int .i64 o.cur, .int .i64 o.count, .int .i64 o.n, .int .i64 o.months] 47)) := by show _ = _; rw [← hu2]; exact (blkF_far _ _ _ _ hMN).trans HO1.out
  have HB2 : Hid (Below w.heap.size w u2) := by show Below _ _ _; rw [← hu2]; exact HB1.out.setCell (p := ⟨N, 3, none⟩) hMle _
  have c_x := (opx_cells HO.out 1 rfl).1
  have c_cur := (opx_cells HO.out 5 rfl).1
  have c_day := (opx_cells HO.out 3 rfl).1
  have k0_x := (opx_cells HO0.out 1 rfl).1
  have k0_cur := (opx_cells HO0.out 5 rfl).1
  have k0_day := (opx_cells HO0.out 3 rfl).1
  have k1_x := (opx_cells HO1.out 1 rfl).1
  have k1_cur := (opx_cells HO1.out 5 rfl).1
  have k1_day := (opx_cells HO1.out 3 rfl).1
  have k2_x := (opx_cells HO2.out 1 rfl).1
  have k2_cur := (opx_cells HO2.out 5 rfl).1
  have k2_day := (opx_cells HO2.out 3 rfl).1
  go_region_held3 (fun x => x.cell? ⟨M, 1, none⟩ = some (.float .f64 o.x) ∧ x.cell? ⟨M, 5, none⟩ = some (.int .i64 o.cur) ∧ x.cell? ⟨M, 3, none⟩ = some (.int .i64 o.day)) (first | go_keep | (with_reducible exact ⟨c_x, c_cur, c_day⟩) | (simp only [World.cell?_drew]; first | (with_reducible exact ⟨k0_x, k0_cur, k0_day⟩) | (with_reducible exact ⟨k1_x, k1_cur, k1_day⟩) | (with_reducible exact ⟨k2_x, k2_cur, k2_day⟩)) | (simp [go_sem, *])) (fail)
  obtain ⟨wf, hwf⟩ : ∃ wf, World.drew u2 = wf := ⟨_, rfl⟩
  have HNf : Hid (wf.heap[N]? = some (.cells #[.int .i64 2, .float .f64 o.x, .float .f64 0, .int .i64 o.day, .int .i64 0, .int .i64 o.cur, .int .i64 0, .int .i64 0, .int .i64 0] 47)) := by show _ = _; rw [← hwf]; exact HN2.out
  have HOf : Hid (wf.heap[M]? = some (.cells #[.int .i64 2, .float .f64 o.x, .float .f64 o.y, .int .i64 o.day, .int .i64 o.to, .int .i64 o.cur, .int .i64 o.count, .int .i64 o.n, .int .i64 o.months] 47)) := by show _ = _; rw [← hwf]; exact HO2.out
  have HBf : Hid (Below w.heap.size w wf) := by show Below _ _ _; rw [← hwf]; exact ⟨HB2.out.os, HB2.out.tape, HB2.out.output, HB2.out.size, HB2.out.block⟩
  rw [hwf]
  clear hwf c_x c_cur c_day k0_x k0_cur k0_day k1_x k1_cur k1_day k2_x k2_cur k2_day v0 y0 hu0 HN0 HO0 HB0 v1 y1 hu1 HN1 HO1 HB1 v2 y2 hu2 HN2 HO2 HB2 HN HO HB
  have a0 := (opx_cells HOf.out 0 rfl).1
  have b0 := (opx_cells HNf.out 0 rfl).1
  have a1 := (opx_cells HOf.out 1 rfl).1
  have b1 := (opx_cells HNf.out 1 rfl).1
  have a2 := (opx_cells HOf.out 2 rfl).1
  have b2 := (opx_cells HNf.out 2 rfl).1
  have a3 := (opx_cells HOf.out 3 rfl).1
  have b3 := (opx_cells HNf.out 3 rfl).1
  have a4 := (opx_cells HOf.out 4 rfl).1
  have b4 := (opx_cells HNf.out 4 rfl).1
  have a5 := (opx_cells HOf.out 5 rfl).1
  have b5 := (opx_cells HNf.out 5 rfl).1
  have a6 := (opx_cells HOf.out 6 rfl).1
  have b6 := (opx_cells HNf.out 6 rfl).1
  have a7 := (opx_cells HOf.out 7 rfl).1
  have b7 := (opx_cells HNf.out 7 rfl).1
  have a8 := (opx_cells HOf.out 8 rfl).1
  have b8 := (opx_cells HNf.out 8 rfl).1
  cases B0
  · go_wp2_with (first | (go_at_call 89; (with_reducible refine (H0.out _).mono ?_); rintro e wq ⟨rfl, rfl⟩) | (go_at_call 90; (with_reducible refine (H1.out _).mono ?_); rintro e wq ⟨rfl, rfl⟩) | (go_at_call 91; (with_reducible refine (H2.out _).mono ?_); rintro e wq ⟨rfl, rfl⟩))
    go_quiet ((go_at_call 25; exact Calls.quiet_of_same (bits_any _ _)))
    go_wp2_with fail
    go_ret
    exact ⟨rfl, ⟨HBf.out.os, HBf.out.tape, HBf.out.output, HBf.out.size, HBf.out.block⟩⟩
  · skip
    cases B1
    · go_wp2_with (first | (go_at_call 89; (with_reducible refine (H0.out _).mono ?_); rintro e wq ⟨rfl, rfl⟩) | (go_at_call 90; (with_reducible refine (H1.out _).mono ?_); rintro e wq ⟨rfl, rfl⟩) | (go_at_call 91; (with_reducible refine (H2.out _).mono ?_); rintro e wq ⟨rfl, rfl⟩))
      go_quiet ((go_at_call 25; exact Calls.quiet_of_same (bits_any _ _)))
      go_wp2_with fail
      go_ret
      exact ⟨rfl, ⟨HBf.out.os, HBf.out.tape, HBf.out.output, HBf.out.size, HBf.out.block⟩⟩
    · skip
      cases B2
      · go_wp2_with (first | (go_at_call 89; (with_reducible refine (H0.out _).mono ?_); rintro e wq ⟨rfl, rfl⟩) | (go_at_call 90; (with_reducible refine (H1.out _).mono ?_); rintro e wq ⟨rfl, rfl⟩) | (go_at_call 91; (with_reducible refine (H2.out _).mono ?_); rintro e wq ⟨rfl, rfl⟩))
        go_quiet ((go_at_call 25; exact Calls.quiet_of_same (bits_any _ _)))
        go_wp2_with fail
        go_ret
        exact ⟨rfl, ⟨HBf.out.os, HBf.out.tape, HBf.out.output, HBf.out.size, HBf.out.block⟩⟩
      · skip
        go_wp2_with (first | (go_at_call 89; (with_reducible refine (H0.out _).mono ?_); rintro e wq ⟨rfl, rfl⟩) | (go_at_call 90; (with_reducible refine (H1.out _).mono ?_); rintro e wq ⟨rfl, rfl⟩) | (go_at_call 91; (with_reducible refine (H2.out _).mono ?_); rintro e wq ⟨rfl, rfl⟩))
        cases E
        · go_quiet ((go_at_call 25; exact Calls.quiet_of_same (bits_any _ _)))
          go_wp2_with fail
          go_ret
          exact ⟨rfl, ⟨HBf.out.os, HBf.out.tape, HBf.out.output, HBf.out.size, HBf.out.block⟩⟩
        · skip
          cases Y
          · go_quiet ((go_at_call 25; exact Calls.quiet_of_same (bits_any _ _)))
            go_wp2_with fail
            go_ret
            exact ⟨rfl, ⟨HBf.out.os, HBf.out.tape, HBf.out.output, HBf.out.size, HBf.out.block⟩⟩
          · go_quiet ((go_at_call 25; exact Calls.quiet_of_same (bits_any _ _)))
            go_wp2_with fail
            go_ret
            exact ⟨rfl, ⟨HBf.out.os, HBf.out.tape, HBf.out.output, HBf.out.size, HBf.out.block⟩⟩
def nm5 (o : Opr) : Opr := ⟨o.kind, o.x, 0, 0, 0, 0, 0, 0, 0⟩
set_option maxRecDepth 20000 in
set_option maxHeartbeats 12800000 in
theorem fits_5 (o : Opr) (hk : o.kind = 5) (hux : U64 o.x) (w : World) : Calls Tryz.prog 54 #[.agg (opC o)] w fun e w' => e = .returned (.bool ((finB o.x) && eqO o (nm5 o) && ((o.y : Int) == (0 : Int)))) ∧ Below w.heap.size w w' := by
  have heq := eqO_run o (nm5 o)
  have H0 := hidD (fun w => cNum_any o.x w hux)
  obtain ⟨B0, hB0⟩ : ∃ B, finB o.x = B := ⟨_, rfl⟩
  rw [hB0] at H0 ⊢
  obtain ⟨E, hE⟩ : ∃ E, eqO o (nm5 o) = E := ⟨_, rfl⟩
  rw [hE] at heq ⊢
  obtain ⟨Y, hY⟩ : ∃ Y, ((o.y : Int) == (0 : Int)) = Y := ⟨_, rfl⟩
  rw [hY]
  unfold opC nm5 at heq
  simp only at heq
  unfold opC
  rw [hk] at heq ⊢
  have hst := store_fltD
  clear hE hB0 hux
  have HB : Hid (Below w.heap.size w ((w.alloc (.cells #[.int .i64 5, .float .f64 o.x, .float .f64 o.y, .int .i64 o.day, .int .i64 o.to, .int .i64 o.cur, .int .i64 o.count, .int .i64 o.n, .int .i64 o.months] 47)).alloc (.cells #[.int .i64 5, .float .f64 o.x, .float .f64 0, .int .i64 0, .int .i64 0, .int .i64 0, .int .i64 0, .int .i64 0, .int .i64 0] 47))) := ((Below.refl _ _).alloc (Nat.le_refl _) _).alloc (by simp) _
  go_enter Tryz.func54, Tryz.ntmps54
  cases B0
  · go_wp2_with (go_at_call 89; refine (H0.out _).mono ?_; rintro e wq ⟨rfl, rfl⟩)
    go_quiet ((go_at_call 25; exact Calls.quiet_of_same (bits_any _ _)))
    go_wp2_with fail
    go_ret
    exact ⟨rfl, ⟨HB.out.os, HB.out.tape, HB.out.output, HB.out.size, HB.out.block⟩⟩
  go_wp2_with (go_at_call 89; refine (H0.out _).mono ?_; rintro e wq ⟨rfl, rfl⟩)
  cases E
  · go_quiet ((go_at_call 25; exact Calls.quiet_of_same (bits_any _ _)))
    go_wp2_with fail
    go_ret
    exact ⟨rfl, ⟨HB.out.os, HB.out.tape, HB.out.output, HB.out.size, HB.out.block⟩⟩
  cases Y
  · go_quiet ((go_at_call 25; exact Calls.quiet_of_same (bits_any _ _)))
    go_wp2_with fail
    go_ret
    exact ⟨rfl, ⟨HB.out.os, HB.out.tape, HB.out.output, HB.out.size, HB.out.block⟩⟩
  · go_quiet ((go_at_call 25; exact Calls.quiet_of_same (bits_any _ _)))
    go_wp2_with fail
    go_ret
    exact ⟨rfl, ⟨HB.out.os, HB.out.tape, HB.out.output, HB.out.size, HB.out.block⟩⟩
set_option maxRecDepth 20000 in
set_option maxHeartbeats 3200000 in
theorem fits_no (o : Opr) (hk : ¬ (1 ≤ o.kind ∧ o.kind ≤ 7)) (w : World) : Calls Tryz.prog 54 #[.agg (opC o)] w fun e w' => e = .returned (.bool false) ∧ Below w.heap.size w w' := by
  have h1 : (o.kind == 1) = false := beq_eq_false_iff_ne.2 (by omega)
  have h2 : (o.kind == 2) = false := beq_eq_false_iff_ne.2 (by omega)
  have h3 : (o.kind == 3) = false := beq_eq_false_iff_ne.2 (by omega)
  have h4 : (o.kind == 4) = false := beq_eq_false_iff_ne.2 (by omega)
  have h5 : (o.kind == 5) = false := beq_eq_false_iff_ne.2 (by omega)
  have h6 : (o.kind == 6) = false := beq_eq_false_iff_ne.2 (by omega)
  have h7 : (o.kind == 7) = false := beq_eq_false_iff_ne.2 (by omega)
  have hst := store_fltD
  unfold opC
  clear hk
  go_enter Tryz.func54, Tryz.ntmps54
  go_wp2_with fail
  go_ret
  exact ⟨rfl, ((Below.refl _ _).alloc (Nat.le_refl _) _).alloc (by simp) _⟩
end Go.Proofs.YtienedhaogjahaaGreatDoor
