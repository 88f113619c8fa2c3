/- The contracts of the document's in, fit and Check. The contract of the document's fit of an HFix rule, and of Check. -/
import Derived.Test.YtelghkhcplmnmaaHai
namespace Go.Proofs.Ytelghkhcplmnmaa
open Go.RowKit

theorem refIn_any (n lo hi : Int) (w : World) :
    Calls Try.prog 47 #[.int .i64 n, .int .i64 lo, .int .i64 hi] w fun e w' => e = .returned (.bool (decide (lo ≤ n ∧ n ≤ hi))) ∧ w' = w := by
  by_cases h1 : lo ≤ n <;> by_cases h2 : n ≤ hi
  all_goals
    first | rw [decide_eq_true (⟨h1, h2⟩ : lo ≤ n ∧ n ≤ hi)] | rw [decide_eq_false (fun h : lo ≤ n ∧ n ≤ hi => by omega)]
    go_enter Try.func47, Try.ntmps47
    go_wp2
    go_ret
    exact ⟨rfl, rfl⟩

theorem retB {a b : Bool} (h : a = b) : Ending.returned (.bool a) = .returned (.bool b) := by rw [h]
theorem fit4 (mon day nth wd off fr to mv : Int) : fitB ⟨4, mon, day, nth, wd, off, fr, to, mv⟩ = decide (mon = 0 ∧ nth = 0 ∧ wd = 0 ∧ off = 0 ∧ fr = 0 ∧ to = 0 ∧ mv = 0 ∧ 0 ≤ day ∧ day ≤ 109572) := by
  unfold fitB; dsimp only; rw [if_pos rfl]
def RngR (fr to mv : Int) : Prop := 1900 ≤ fr ∧ fr ≤ 2199 ∧ fr ≤ to ∧ to ≤ 2199 ∧ 0 ≤ mv ∧ mv ≤ 2
theorem fit_rng {kind mon day nth wd off fr to mv : Int} (h4 : kind ≠ 4) (h : ¬ RngR fr to mv) : fitB ⟨kind, mon, day, nth, wd, off, fr, to, mv⟩ = false := by
  unfold fitB; dsimp only; rw [if_neg h4, show decide (1900 ≤ fr ∧ fr ≤ 2199 ∧ fr ≤ to ∧ to ≤ 2199 ∧ 0 ≤ mv ∧ mv ≤ 2) = false from decide_eq_false h, Bool.false_and]
theorem fit1 {mon day nth wd off fr to mv : Int} (h : RngR fr to mv) : fitB ⟨1, mon, day, nth, wd, off, fr, to, mv⟩ = decide (nth = 0 ∧ wd = 0 ∧ off = 0 ∧ 1 ≤ mon ∧ mon ≤ 12 ∧ 1 ≤ day ∧ day ≤ mostI mon) := by
  unfold fitB; dsimp only
  rw [if_neg (by decide), show decide (1900 ≤ fr ∧ fr ≤ 2199 ∧ fr ≤ to ∧ to ≤ 2199 ∧ 0 ≤ mv ∧ mv ≤ 2) = true from decide_eq_true h, Bool.true_and, if_pos rfl]
theorem fit2 {mon day nth wd off fr to mv : Int} (h : RngR fr to mv) : fitB ⟨2, mon, day, nth, wd, off, fr, to, mv⟩ = decide (day = 0 ∧ off = 0 ∧ 1 ≤ mon ∧ mon ≤ 12 ∧ 0 ≤ wd ∧ wd ≤ 6 ∧ 1 ≤ nth ∧ nth ≤ 5) := by
  unfold fitB; dsimp only
  rw [if_neg (by decide), show decide (1900 ≤ fr ∧ fr ≤ 2199 ∧ fr ≤ to ∧ to ≤ 2199 ∧ 0 ≤ mv ∧ mv ≤ 2) = true from decide_eq_true h, Bool.true_and, if_neg (by decide), if_pos rfl]
theorem fit3 {mon day nth wd off fr to mv : Int} (h : RngR fr to mv) : fitB ⟨3, mon, day, nth, wd, off, fr, to, mv⟩ = decide (mon = 0 ∧ day = 0 ∧ nth = 0 ∧ wd = 0 ∧ -100 ≤ off ∧ off ≤ 100) := by
  unfold fitB; dsimp only
  rw [if_neg (by decide), show decide (1900 ≤ fr ∧ fr ≤ 2199 ∧ fr ≤ to ∧ to ≤ 2199 ∧ 0 ≤ mv ∧ mv ≤ 2) = true from decide_eq_true h, Bool.true_and, if_neg (by decide), if_neg (by decide), if_pos rfl]
theorem fit_no {kind mon day nth wd off fr to mv : Int} (h1 : kind ≠ 1) (h2 : kind ≠ 2) (h3 : kind ≠ 3) (h4 : kind ≠ 4) : fitB ⟨kind, mon, day, nth, wd, off, fr, to, mv⟩ = false := by
  unfold fitB; dsimp only
  rw [if_neg h4, if_neg h1, if_neg h2, if_neg h3, Bool.and_false]

set_option maxHeartbeats 1600000 in
theorem refFit_four (mon day nth wd off fr to mv : Int) (w : World) :
    Calls Try.prog 61 #[.agg #[.int .i64 4, .int .i64 mon, .int .i64 day, .int .i64 nth, .int .i64 wd, .int .i64 off, .int .i64 fr, .int .i64 to, .int .i64 mv]] w fun e w' => e = .returned (.bool (fitB ⟨4, mon, day, nth, wd, off, fr, to, mv⟩)) ∧ Below w.heap.size w w' := by
  rw [fit4]
  obtain ⟨R, hR⟩ : ∃ R, decide (mon = 0 ∧ nth = 0 ∧ wd = 0 ∧ off = 0 ∧ fr = 0 ∧ to = 0 ∧ mv = 0 ∧ 0 ≤ day ∧ day ≤ 109572) = R := ⟨_, rfl⟩
  rw [hR]
  have HR := hideS hR
  clear hR
  go_enter Try.func61, Try.ntmps61
  go_wp2_with (go_at_call 47; refine (refIn_any _ _ _ _).mono ?_; rintro e w1 ⟨rfl, rfl⟩)
  all_goals
    go_ret
    refine ⟨retB (Eq.trans ?_ HR.out), (Below.refl w.heap.size w).alloc (Nat.le_refl _) _⟩
    first | exact (decide_eq_false (by omega)).symm | (rw [Bool.eq_iff_iff]; simp only [Bool.and_eq_true, decide_eq_true_eq]; omega)

set_option maxHeartbeats 1600000 in
theorem refFit_rng (kind mon day nth wd off fr to mv : Int) (w : World) (h4 : kind ≠ 4) (h : ¬ RngR fr to mv) :
    Calls Try.prog 61 #[.agg #[.int .i64 kind, .int .i64 mon, .int .i64 day, .int .i64 nth, .int .i64 wd, .int .i64 off, .int .i64 fr, .int .i64 to, .int .i64 mv]] w fun e w' => e = .returned (.bool (fitB ⟨kind, mon, day, nth, wd, off, fr, to, mv⟩)) ∧ Below w.heap.size w w' := by
  rw [fit_rng h4 h]
  have h4' : (kind == 4) = false := beq_eq_false_iff_ne.2 h4
  have HI := hideS (fun (n lo hi : Int) (wx : World) => refIn_any n lo hi wx)
  unfold RngR at h
  by_cases a : 1900 ≤ fr ∧ fr ≤ 2199
  · by_cases b : fr ≤ to ∧ to ≤ 2199
    · have c : ¬ (0 ≤ mv ∧ mv ≤ 2) := by omega
      have ia := hideS (fun wx => HI.out fr 1900 2199 wx)
      have ib := hideS (fun wx => HI.out to fr 2199 wx)
      have ic := hideS (fun wx => HI.out mv 0 2 wx)
      rw [decide_eq_true a] at ia
      rw [decide_eq_true b] at ib
      rw [decide_eq_false c] at ic
      clear h h4 a b c HI
      go_enter Try.func61, Try.ntmps61
      go_wp2_with (first | (go_at_call_of 47 (Value.int IntKind.i64 1900); refine (ia.out _).mono ?_; rintro e w1 ⟨rfl, rfl⟩) | (go_at_call_of 47 (Value.int IntKind.i64 to); refine (ib.out _).mono ?_; rintro e w1 ⟨rfl, rfl⟩) | (go_at_call_of 47 (Value.int IntKind.i64 mv); refine (ic.out _).mono ?_; rintro e w1 ⟨rfl, rfl⟩))
      go_ret
      exact ⟨rfl, (Below.refl w.heap.size w).alloc (Nat.le_refl _) _⟩
    · have ia := hideS (fun wx => HI.out fr 1900 2199 wx)
      have ib := hideS (fun wx => HI.out to fr 2199 wx)
      rw [decide_eq_true a] at ia
      rw [decide_eq_false b] at ib
      clear h h4 a b HI
      go_enter Try.func61, Try.ntmps61
      go_wp2_with (first | (go_at_call_of 47 (Value.int IntKind.i64 1900); refine (ia.out _).mono ?_; rintro e w1 ⟨rfl, rfl⟩) | (go_at_call_of 47 (Value.int IntKind.i64 to); refine (ib.out _).mono ?_; rintro e w1 ⟨rfl, rfl⟩))
      go_ret
      exact ⟨rfl, (Below.refl w.heap.size w).alloc (Nat.le_refl _) _⟩
  · have ia := hideS (fun wx => HI.out fr 1900 2199 wx)
    rw [decide_eq_false a] at ia
    clear h h4 a HI
    go_enter Try.func61, Try.ntmps61
    go_wp2_with (go_at_call 47; refine (ia.out _).mono ?_; rintro e w1 ⟨rfl, rfl⟩)
    go_ret
    exact ⟨rfl, (Below.refl w.heap.size w).alloc (Nat.le_refl _) _⟩

set_option maxHeartbeats 3200000 in
theorem refFit_rest (kind mon day nth wd off fr to mv : Int) (w : World) (h1 : kind ≠ 1) (h4 : kind ≠ 4) (h : RngR fr to mv) :
    Calls Try.prog 61 #[.agg #[.int .i64 kind, .int .i64 mon, .int .i64 day, .int .i64 nth, .int .i64 wd, .int .i64 off, .int .i64 fr, .int .i64 to, .int .i64 mv]] w fun e w' => e = .returned (.bool (fitB ⟨kind, mon, day, nth, wd, off, fr, to, mv⟩)) ∧ Below w.heap.size w w' := by
  have HI := hideS (fun (n lo hi : Int) (wx : World) => refIn_any n lo hi wx)
  have ia := hideS (fun wx => HI.out fr 1900 2199 wx)
  have ib := hideS (fun wx => HI.out to fr 2199 wx)
  have ic := hideS (fun wx => HI.out mv 0 2 wx)
  rw [decide_eq_true ⟨h.1, h.2.1⟩] at ia
  rw [decide_eq_true ⟨h.2.2.1, h.2.2.2.1⟩] at ib
  rw [decide_eq_true ⟨h.2.2.2.2.1, h.2.2.2.2.2⟩] at ic
  have HB2 : Hid (∀ (o1 o2 : Obj), Below w.heap.size w ((w.alloc o1).alloc o2)) := fun o1 o2 => ((Below.refl w.heap.size w).alloc (Nat.le_refl _) _).alloc (by simp) _
  have h4' : (kind == 4) = false := beq_eq_false_iff_ne.2 h4
  have h1' : (kind == 1) = false := beq_eq_false_iff_ne.2 h1
  by_cases k2 : kind = 2
  · subst k2
    rw [fit2 h]
    obtain ⟨R, hR⟩ : ∃ R, decide (day = 0 ∧ off = 0 ∧ 1 ≤ mon ∧ mon ≤ 12 ∧ 0 ≤ wd ∧ wd ≤ 6 ∧ 1 ≤ nth ∧ nth ≤ 5) = R := ⟨_, rfl⟩
    rw [hR]
    have HR := hideS hR
    clear hR h h1 h4 h1' h4'
    go_enter Try.func61, Try.ntmps61
    go_wp2_with (first | (go_at_call_of 47 (Value.int IntKind.i64 1900); refine (ia.out _).mono ?_; rintro e w1 ⟨rfl, rfl⟩) | (go_at_call_of 47 (Value.int IntKind.i64 2199); refine (ib.out _).mono ?_; rintro e w1 ⟨rfl, rfl⟩) | (go_at_call_of 47 (Value.int IntKind.i64 2); refine (ic.out _).mono ?_; rintro e w1 ⟨rfl, rfl⟩) | (go_at_call 47; refine (refIn_any _ _ _ _).mono ?_; rintro e w1 ⟨rfl, rfl⟩))
    all_goals
      go_ret
      refine ⟨retB (Eq.trans ?_ HR.out), HB2.out _ _⟩
      first | exact (decide_eq_false (by omega)).symm | (rw [Bool.eq_iff_iff]; simp only [Bool.and_eq_true, decide_eq_true_eq]; omega)
  · by_cases k3 : kind = 3
    · subst k3
      rw [fit3 h]
      obtain ⟨R, hR⟩ : ∃ R, decide (mon = 0 ∧ day = 0 ∧ nth = 0 ∧ wd = 0 ∧ -100 ≤ off ∧ off ≤ 100) = R := ⟨_, rfl⟩
      rw [hR]
      have HR := hideS hR
      clear hR h h1 h4 h1' h4' k2
      go_enter Try.func61, Try.ntmps61
      go_wp2_with (first | (go_at_call_of 47 (Value.int IntKind.i64 1900); refine (ia.out _).mono ?_; rintro e w1 ⟨rfl, rfl⟩) | (go_at_call_of 47 (Value.int IntKind.i64 2199); refine (ib.out _).mono ?_; rintro e w1 ⟨rfl, rfl⟩) | (go_at_call_of 47 (Value.int IntKind.i64 2); refine (ic.out _).mono ?_; rintro e w1 ⟨rfl, rfl⟩) | (go_at_call 47; refine (refIn_any _ _ _ _).mono ?_; rintro e w1 ⟨rfl, rfl⟩))
      all_goals
        go_ret
        refine ⟨retB (Eq.trans ?_ HR.out), HB2.out _ _⟩
        first | exact (decide_eq_false (by omega)).symm | (rw [Bool.eq_iff_iff]; simp only [Bool.and_eq_true, decide_eq_true_eq]; omega)
    · rw [fit_no h1 k2 k3 h4]
      have k2' : (kind == 2) = false := beq_eq_false_iff_ne.2 k2
      have k3' : (kind == 3) = false := beq_eq_false_iff_ne.2 k3
      clear h h1 h4 k2 k3
      go_enter Try.func61, Try.ntmps61
      go_wp2_with (first | (go_at_call_of 47 (Value.int IntKind.i64 1900); refine (ia.out _).mono ?_; rintro e w1 ⟨rfl, rfl⟩) | (go_at_call_of 47 (Value.int IntKind.i64 2199); refine (ib.out _).mono ?_; rintro e w1 ⟨rfl, rfl⟩) | (go_at_call_of 47 (Value.int IntKind.i64 2); refine (ic.out _).mono ?_; rintro e w1 ⟨rfl, rfl⟩))
      go_ret
      exact ⟨rfl, HB2.out _ _⟩
end Go.Proofs.Ytelghkhcplmnmaa
namespace Go.Proofs.Ytelghkhcplmnmaa
open Go.RowKit

theorem below_drewN' {B : Nat} {w w2 : World} {n : Nat} (hb : Below B w w2) : Below B w (w2.drewN n) := ⟨hb.os, hb.tape, hb.output, hb.size, hb.block⟩
def mostL : Array Value := #[.int .i64 0, .int .i64 31, .int .i64 29, .int .i64 31, .int .i64 30, .int .i64 31, .int .i64 30, .int .i64 31, .int .i64 31, .int .i64 30, .int .i64 31, .int .i64 30, .int .i64 31]
theorem old_cell {w : World} (o : Obj) (p : Addr) (h : p.block < w.heap.size) : (w.alloc o).cell? p = w.cell? p := ((Below.refl _ w).alloc (Nat.le_refl _) o).cell h
theorem new_cell {w : World} {v : Value} (cs : Array Value) (t : TypeId) (k : Nat) (h : cs[k]? = some v) {o : Obj} : ((w.alloc o).alloc (.cells cs t)).cell? ⟨w.heap.size + 1, k, none⟩ = some v := by
  rw [show w.heap.size + 1 = (w.alloc o).heap.size by simp]
  simp [h]
theorem new_cell0 (W : World) (cs : Array Value) (t : TypeId) (k : Nat) : (W.alloc (.cells cs t)).cell? ⟨W.heap.size, k, none⟩ = cs[k]? := by simp
theorem new_cell2 {w : World} {v : Option Value} (cs : Array Value) (t : TypeId) (o o' : Obj) {k : Nat} (h : cs[k]? = v) : (((w.alloc o).alloc o').alloc (.cells cs t)).cell? ⟨w.heap.size + 1 + 1, k, none⟩ = v := by
  have e := new_cell0 ((w.alloc o).alloc o') cs t k
  rw [show ((w.alloc o).alloc o').heap.size = w.heap.size + 1 + 1 by simp] at e
  rw [e, h]
theorem three_boxes (w : World) (kind mon day nth wd off fr to mv : Int) : ∃ wq,
    ((w.alloc (.cells #[.int .i64 kind, .int .i64 mon, .int .i64 day, .int .i64 nth, .int .i64 wd, .int .i64 off, .int .i64 fr, .int .i64 to, .int .i64 mv] 45)).alloc (.cells #[.int .i64 kind, .int .i64 mon, .int .i64 day, .int .i64 0, .int .i64 0, .int .i64 0, .int .i64 fr, .int .i64 to, .int .i64 mv] 45)).alloc (.cells #[.int .i64 0, .int .i64 31, .int .i64 29, .int .i64 31, .int .i64 30, .int .i64 31, .int .i64 30, .int .i64 31, .int .i64 31, .int .i64 30, .int .i64 31, .int .i64 30, .int .i64 31] 3) = wq ∧
    Hid (Below w.heap.size w wq) ∧
    wq.cell? ⟨w.heap.size, 0, none⟩ = some (.int .i64 kind) ∧ wq.cell? ⟨w.heap.size, 1, none⟩ = some (.int .i64 mon) ∧ wq.cell? ⟨w.heap.size, 2, none⟩ = some (.int .i64 day) ∧ wq.cell? ⟨w.heap.size, 3, none⟩ = some (.int .i64 nth) ∧ wq.cell? ⟨w.heap.size, 4, none⟩ = some (.int .i64 wd) ∧ wq.cell? ⟨w.heap.size, 5, none⟩ = some (.int .i64 off) ∧ wq.cell? ⟨w.heap.size, 6, none⟩ = some (.int .i64 fr) ∧ wq.cell? ⟨w.heap.size, 7, none⟩ = some (.int .i64 to) ∧ wq.cell? ⟨w.heap.size, 8, none⟩ = some (.int .i64 mv) ∧
    wq.cell? ⟨w.heap.size + 1, 0, none⟩ = some (.int .i64 kind) ∧ wq.cell? ⟨w.heap.size + 1, 1, none⟩ = some (.int .i64 mon) ∧ wq.cell? ⟨w.heap.size + 1, 2, none⟩ = some (.int .i64 day) ∧ wq.cell? ⟨w.heap.size + 1, 3, none⟩ = some (.int .i64 0) ∧ wq.cell? ⟨w.heap.size + 1, 4, none⟩ = some (.int .i64 0) ∧ wq.cell? ⟨w.heap.size + 1, 5, none⟩ = some (.int .i64 0) ∧ wq.cell? ⟨w.heap.size + 1, 6, none⟩ = some (.int .i64 fr) ∧ wq.cell? ⟨w.heap.size + 1, 7, none⟩ = some (.int .i64 to) ∧ wq.cell? ⟨w.heap.size + 1, 8, none⟩ = some (.int .i64 mv) ∧
    Hid (∀ k < 13, wq.cell? ⟨w.heap.size + 1 + 1, k, none⟩ = mostL[k]?) := by
  refine ⟨_, rfl, (((Below.refl w.heap.size w).alloc (Nat.le_refl _) _).alloc (by simp) _).alloc (by simp; omega) _, ?_⟩
  refine ⟨by rw [old_cell _ _ (by simp; omega), old_cell _ _ (by simp)]; simp, by rw [old_cell _ _ (by simp; omega), old_cell _ _ (by simp)]; simp, by rw [old_cell _ _ (by simp; omega), old_cell _ _ (by simp)]; simp, by rw [old_cell _ _ (by simp; omega), old_cell _ _ (by simp)]; simp, by rw [old_cell _ _ (by simp; omega), old_cell _ _ (by simp)]; simp, by rw [old_cell _ _ (by simp; omega), old_cell _ _ (by simp)]; simp, by rw [old_cell _ _ (by simp; omega), old_cell _ _ (by simp)]; simp, by rw [old_cell _ _ (by simp; omega), old_cell _ _ (by simp)]; simp, by rw [old_cell _ _ (by simp; omega), old_cell _ _ (by simp)]; simp, by rw [old_cell _ _ (by simp)]; exact new_cell _ _ 0 (by simp), by rw [old_cell _ _ (by simp)]; exact new_cell _ _ 1 (by simp), by rw [old_cell _ _ (by simp)]; exact new_cell _ _ 2 (by simp), by rw [old_cell _ _ (by simp)]; exact new_cell _ _ 3 (by simp), by rw [old_cell _ _ (by simp)]; exact new_cell _ _ 4 (by simp), by rw [old_cell _ _ (by simp)]; exact new_cell _ _ 5 (by simp), by rw [old_cell _ _ (by simp)]; exact new_cell _ _ 6 (by simp), by rw [old_cell _ _ (by simp)]; exact new_cell _ _ 7 (by simp), by rw [old_cell _ _ (by simp)]; exact new_cell _ _ 8 (by simp), fun k hk => ?_⟩
  rcases (show k = 0 ∨ k = 1 ∨ k = 2 ∨ k = 3 ∨ k = 4 ∨ k = 5 ∨ k = 6 ∨ k = 7 ∨ k = 8 ∨ k = 9 ∨ k = 10 ∨ k = 11 ∨ k = 12 by omega) with rfl | rfl | rfl | rfl | rfl | rfl | rfl | rfl | rfl | rfl | rfl | rfl | rfl <;> exact new_cell2 _ _ _ _ (by simp [mostL])

set_option maxRecDepth 10000 in
set_option maxHeartbeats 3200000 in
theorem refFit_oneA (mon day nth wd off fr to mv : Int) (w : World) (h : RngR fr to mv) (hz : ¬ (nth = 0 ∧ wd = 0 ∧ off = 0)) :
    Calls Try.prog 61 #[.agg #[.int .i64 1, .int .i64 mon, .int .i64 day, .int .i64 nth, .int .i64 wd, .int .i64 off, .int .i64 fr, .int .i64 to, .int .i64 mv]] w fun e w' => e = .returned (.bool false) ∧ Below w.heap.size w w' := by
  have HI := hideS (fun (n lo hi : Int) (wx : World) => refIn_any n lo hi wx)
  have ia := hideS (fun wx => HI.out fr 1900 2199 wx)
  have ib := hideS (fun wx => HI.out to fr 2199 wx)
  have ic := hideS (fun wx => HI.out mv 0 2 wx)
  rw [decide_eq_true ⟨h.1, h.2.1⟩] at ia
  rw [decide_eq_true ⟨h.2.2.1, h.2.2.2.1⟩] at ib
  rw [decide_eq_true ⟨h.2.2.2.2.1, h.2.2.2.2.2⟩] at ic
  clear h
  have hz' : (nth ≠ 0) ∨ (nth = 0 ∧ wd ≠ 0) ∨ (nth = 0 ∧ wd = 0 ∧ off ≠ 0) := by omega
  clear hz
  go_enter Try.func61, Try.ntmps61
  go_wp2_with (first | (go_at_call_of 47 (Value.int IntKind.i64 1900); refine (ia.out _).mono ?_; rintro e w1 ⟨rfl, rfl⟩) | (go_at_call_of 47 (Value.int IntKind.i64 2199); refine (ib.out _).mono ?_; rintro e w1 ⟨rfl, rfl⟩) | (go_at_call_of 47 (Value.int IntKind.i64 2); refine (ic.out _).mono ?_; rintro e w1 ⟨rfl, rfl⟩))
  obtain ⟨wq, hwq, HB, x0, x1, x2, x3, x4, x5, x6, x7, x8, z0, z1, z2, z3, z4, z5, z6, z7, z8, HM⟩ := three_boxes w 1 mon day nth wd off fr to mv
  rw [hwq]
  clear hwq
  rcases hz' with a | ⟨rfl, a⟩ | ⟨rfl, rfl, a⟩
  all_goals
    go_quiet (fail)
    go_wp2_with fail
    go_ret
    exact ⟨rfl, below_drewN' HB.out⟩

set_option maxRecDepth 10000 in
set_option maxHeartbeats 3200000 in
theorem refFit_oneB (mon day fr to mv : Int) (w : World) (h : RngR fr to mv) (hz : ¬ (1 ≤ mon ∧ mon ≤ 12)) :
    Calls Try.prog 61 #[.agg #[.int .i64 1, .int .i64 mon, .int .i64 day, .int .i64 0, .int .i64 0, .int .i64 0, .int .i64 fr, .int .i64 to, .int .i64 mv]] w fun e w' => e = .returned (.bool false) ∧ Below w.heap.size w w' := by
  have HI := hideS (fun (n lo hi : Int) (wx : World) => refIn_any n lo hi wx)
  have ia := hideS (fun wx => HI.out fr 1900 2199 wx)
  have ib := hideS (fun wx => HI.out to fr 2199 wx)
  have ic := hideS (fun wx => HI.out mv 0 2 wx)
  rw [decide_eq_true ⟨h.1, h.2.1⟩] at ia
  rw [decide_eq_true ⟨h.2.2.1, h.2.2.2.1⟩] at ib
  rw [decide_eq_true ⟨h.2.2.2.2.1, h.2.2.2.2.2⟩] at ic
  clear h
  have im := hideS (fun wx => HI.out mon 1 12 wx)
  rw [decide_eq_false hz] at im
  clear hz
  go_enter Try.func61, Try.ntmps61
  go_wp2_with (first | (go_at_call_of 47 (Value.int IntKind.i64 1900); refine (ia.out _).mono ?_; rintro e w1 ⟨rfl, rfl⟩) | (go_at_call_of 47 (Value.int IntKind.i64 2199); refine (ib.out _).mono ?_; rintro e w1 ⟨rfl, rfl⟩) | (go_at_call_of 47 (Value.int IntKind.i64 2); refine (ic.out _).mono ?_; rintro e w1 ⟨rfl, rfl⟩))
  obtain ⟨wq, hwq, HB, x0, x1, x2, x3, x4, x5, x6, x7, x8, z0, z1, z2, z3, z4, z5, z6, z7, z8, HM⟩ := three_boxes w 1 mon day 0 0 0 fr to mv
  rw [hwq]
  clear hwq
  go_quiet ((go_at_call 47; exact Calls.quiet_of_same (im.out _)))
  go_wp2_with fail
  go_ret
  exact ⟨rfl, below_drewN' HB.out⟩

theorem most_at {m : Int} (h1 : 1 ≤ m) (h2 : m ≤ 12) : mostL[m.toNat]? = some (.int .i64 (mostI m)) := by
  rcases month_cases h1 h2 with rfl | rfl | rfl | rfl | rfl | rfl | rfl | rfl | rfl | rfl | rfl | rfl <;> rfl

set_option maxRecDepth 10000 in
set_option maxHeartbeats 3200000 in
theorem refFit_oneC (mon day fr to mv : Int) (w : World) (h : RngR fr to mv) (hm1 : 1 ≤ mon) (hm2 : mon ≤ 12) :
    Calls Try.prog 61 #[.agg #[.int .i64 1, .int .i64 mon, .int .i64 day, .int .i64 0, .int .i64 0, .int .i64 0, .int .i64 fr, .int .i64 to, .int .i64 mv]] w fun e w' => e = .returned (.bool (decide (1 ≤ day ∧ day ≤ mostI mon))) ∧ Below w.heap.size w w' := by
  have HI := hideS (fun (n lo hi : Int) (wx : World) => refIn_any n lo hi wx)
  have ia := hideS (fun wx => HI.out fr 1900 2199 wx)
  have ib := hideS (fun wx => HI.out to fr 2199 wx)
  have ic := hideS (fun wx => HI.out mv 0 2 wx)
  rw [decide_eq_true ⟨h.1, h.2.1⟩] at ia
  rw [decide_eq_true ⟨h.2.2.1, h.2.2.2.1⟩] at ib
  rw [decide_eq_true ⟨h.2.2.2.2.1, h.2.2.2.2.2⟩] at ic
  clear h
  have im := hideS (fun wx => HI.out mon 1 12 wx)
  rw [decide_eq_true ⟨hm1, hm2⟩] at im
  have id := hideS (fun wx => HI.out day 1 (mostI mon) wx)
  have hcell := most_at hm1 hm2
  have ht : mon.toNat < 13 := by omega
  generalize decide (1 ≤ day ∧ day ≤ mostI mon) = R at *
  generalize mostI mon = L at *
  obtain ⟨k, hk⟩ : ∃ k : Nat, mon = k := ⟨mon.toNat, by omega⟩
  have hkt : mon.toNat = k := by omega
  rw [hkt] at hcell ht
  clear hkt
  go_enter Try.func61, Try.ntmps61
  have HK := hideS hk
  clear hk
  go_wp2_with (first | (go_at_call_of 47 (Value.int IntKind.i64 1900); refine (ia.out _).mono ?_; rintro e w1 ⟨rfl, rfl⟩) | (go_at_call_of 47 (Value.int IntKind.i64 2199); refine (ib.out _).mono ?_; rintro e w1 ⟨rfl, rfl⟩) | (go_at_call_of 47 (Value.int IntKind.i64 2); refine (ic.out _).mono ?_; rintro e w1 ⟨rfl, rfl⟩))
  obtain ⟨wq, hwq, HB, x0, x1, x2, x3, x4, x5, x6, x7, x8, z0, z1, z2, z3, z4, z5, z6, z7, z8, HM⟩ := three_boxes w 1 mon day 0 0 0 fr to mv
  rw [hwq]
  clear hwq
  have hc := (HM.out k ht).trans hcell
  obtain rfl := HK.out
  clear hcell HM
  go_quiet (first | (go_at_call_of 47 (Value.int IntKind.i64 12); exact Calls.quiet_of_same (im.out _)) | (go_at_call 47; exact Calls.quiet_of_same (id.out _)))
  go_wp2_with fail
  go_ret
  exact ⟨rfl, below_drewN' HB.out⟩

theorem refFit_any (r : Rul) (w : World) :
    Calls Try.prog 61 #[.agg #[.int .i64 r.kind, .int .i64 r.mon, .int .i64 r.day, .int .i64 r.nth, .int .i64 r.wd, .int .i64 r.off, .int .i64 r.fr, .int .i64 r.to, .int .i64 r.mv]] w fun e w' => e = .returned (.bool (fitB r)) ∧ Below w.heap.size w w' := by
  obtain ⟨kind, mon, day, nth, wd, off, fr, to, mv⟩ := r
  dsimp only
  by_cases k4 : kind = 4
  · subst k4; exact refFit_four mon day nth wd off fr to mv w
  · by_cases hr : RngR fr to mv
    · by_cases k1 : kind = 1
      · subst k1
        rw [fit1 hr]
        by_cases hz : nth = 0 ∧ wd = 0 ∧ off = 0
        · obtain ⟨rfl, rfl, rfl⟩ := hz
          by_cases hm : 1 ≤ mon ∧ mon ≤ 12
          · rw [show decide ((0 : Int) = 0 ∧ (0 : Int) = 0 ∧ (0 : Int) = 0 ∧ 1 ≤ mon ∧ mon ≤ 12 ∧ 1 ≤ day ∧ day ≤ mostI mon) = decide (1 ≤ day ∧ day ≤ mostI mon) from decide_eq_decide.2 (by omega)]
            exact refFit_oneC mon day fr to mv w hr hm.1 hm.2
          · rw [decide_eq_false (fun a => hm ⟨a.2.2.2.1, a.2.2.2.2.1⟩)]
            exact refFit_oneB mon day fr to mv w hr hm
        · rw [decide_eq_false (fun a => hz ⟨a.1, a.2.1, a.2.2.1⟩)]
          exact refFit_oneA mon day nth wd off fr to mv w hr hz
      · exact refFit_rest kind mon day nth wd off fr to mv w k1 k4 hr
    · exact refFit_rng kind mon day nth wd off fr to mv w k4 hr
end Go.Proofs.Ytelghkhcplmnmaa
