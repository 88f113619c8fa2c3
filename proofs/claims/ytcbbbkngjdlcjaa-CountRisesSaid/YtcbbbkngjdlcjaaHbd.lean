/- The contract of the document's fit of an HFix rule, and of Check. The contracts of the program's rules: may they be? -/
import Derived.Test.YtcbbbkngjdlcjaaHbc
import Derived.Test.YtcbbbkngjdlcjaaHba
namespace Go.Proofs.Ytcbbbkngjdlcjaa
open Go.RowKit

theorem below_drewN' {B : Nat} {w w2 : World} {n : Nat} (hb : Below B w w2) : Below B w (w2.drewN n) := ⟨hb.os, hb.tape, hb.output, hb.size, hb.block⟩
def mostL : Array Value := #[.int .i64 0, .int .i64 31, .int .i64 29, .int .i64 31, .int .i64 30, .int .i64 31, .int .i64 30, .int .i64 31, .int .i64 31, .int .i64 30, .int .i64 31, .int .i64 30, .int .i64 31]
theorem old_cell {w : World} (o : Obj) (p : Addr) (h : p.block < w.heap.size) : (w.alloc o).cell? p = w.cell? p := ((Below.refl _ w).alloc (Nat.le_refl _) o).cell h
theorem new_cell {w : World} {v : Value} (cs : Array Value) (t : TypeId) (k : Nat) (h : cs[k]? = some v) {o : Obj} : ((w.alloc o).alloc (.cells cs t)).cell? ⟨w.heap.size + 1, k, none⟩ = some v := by
  rw [show w.heap.size + 1 = (w.alloc o).heap.size by simp]
  simp [h]
theorem new_cell0 (W : World) (cs : Array Value) (t : TypeId) (k : Nat) : (W.alloc (.cells cs t)).cell? ⟨W.heap.size, k, none⟩ = cs[k]? := by simp
theorem new_cell2 {w : World} {v : Option Value} (cs : Array Value) (t : TypeId) (o o' : Obj) {k : Nat} (h : cs[k]? = v) : (((w.alloc o).alloc o').alloc (.cells cs t)).cell? ⟨w.heap.size + 1 + 1, k, none⟩ = v := by
  have e := new_cell0 ((w.alloc o).alloc o') cs t k
  rw [show ((w.alloc o).alloc o').heap.size = w.heap.size + 1 + 1 by simp] at e
  rw [e, h]
theorem three_boxes (w : World) (kind mon day nth wd off fr to mv : Int) : ∃ wq,
    ((w.alloc (.cells #[.int .i64 kind, .int .i64 mon, .int .i64 day, .int .i64 nth, .int .i64 wd, .int .i64 off, .int .i64 fr, .int .i64 to, .int .i64 mv] 61)).alloc (.cells #[.int .i64 kind, .int .i64 mon, .int .i64 day, .int .i64 0, .int .i64 0, .int .i64 0, .int .i64 fr, .int .i64 to, .int .i64 mv] 61)).alloc (.cells #[.int .i64 0, .int .i64 31, .int .i64 29, .int .i64 31, .int .i64 30, .int .i64 31, .int .i64 30, .int .i64 31, .int .i64 31, .int .i64 30, .int .i64 31, .int .i64 30, .int .i64 31] 3) = wq ∧
    Hid (Below w.heap.size w wq) ∧
    wq.cell? ⟨w.heap.size, 0, none⟩ = some (.int .i64 kind) ∧ wq.cell? ⟨w.heap.size, 1, none⟩ = some (.int .i64 mon) ∧ wq.cell? ⟨w.heap.size, 2, none⟩ = some (.int .i64 day) ∧ wq.cell? ⟨w.heap.size, 3, none⟩ = some (.int .i64 nth) ∧ wq.cell? ⟨w.heap.size, 4, none⟩ = some (.int .i64 wd) ∧ wq.cell? ⟨w.heap.size, 5, none⟩ = some (.int .i64 off) ∧ wq.cell? ⟨w.heap.size, 6, none⟩ = some (.int .i64 fr) ∧ wq.cell? ⟨w.heap.size, 7, none⟩ = some (.int .i64 to) ∧ wq.cell? ⟨w.heap.size, 8, none⟩ = some (.int .i64 mv) ∧
    wq.cell? ⟨w.heap.size + 1, 0, none⟩ = some (.int .i64 kind) ∧ wq.cell? ⟨w.heap.size + 1, 1, none⟩ = some (.int .i64 mon) ∧ wq.cell? ⟨w.heap.size + 1, 2, none⟩ = some (.int .i64 day) ∧ wq.cell? ⟨w.heap.size + 1, 3, none⟩ = some (.int .i64 0) ∧ wq.cell? ⟨w.heap.size + 1, 4, none⟩ = some (.int .i64 0) ∧ wq.cell? ⟨w.heap.size + 1, 5, none⟩ = some (.int .i64 0) ∧ wq.cell? ⟨w.heap.size + 1, 6, none⟩ = some (.int .i64 fr) ∧ wq.cell? ⟨w.heap.size + 1, 7, none⟩ = some (.int .i64 to) ∧ wq.cell? ⟨w.heap.size + 1, 8, none⟩ = some (.int .i64 mv) ∧
    Hid (∀ k < 13, wq.cell? ⟨w.heap.size + 1 + 1, k, none⟩ = mostL[k]?) := by
  refine ⟨_, rfl, (((Below.refl w.heap.size w).alloc (Nat.le_refl _) _).alloc (by simp) _).alloc (by simp; omega) _, ?_⟩
  refine ⟨by rw [old_cell _ _ (by simp; omega), old_cell _ _ (by simp)]; simp, by rw [old_cell _ _ (by simp; omega), old_cell _ _ (by simp)]; simp, by rw [old_cell _ _ (by simp; omega), old_cell _ _ (by simp)]; simp, by rw [old_cell _ _ (by simp; omega), old_cell _ _ (by simp)]; simp, by rw [old_cell _ _ (by simp; omega), old_cell _ _ (by simp)]; simp, by rw [old_cell _ _ (by simp; omega), old_cell _ _ (by simp)]; simp, by rw [old_cell _ _ (by simp; omega), old_cell _ _ (by simp)]; simp, by rw [old_cell _ _ (by simp; omega), old_cell _ _ (by simp)]; simp, by rw [old_cell _ _ (by simp; omega), old_cell _ _ (by simp)]; simp, by rw [old_cell _ _ (by simp)]; exact new_cell _ _ 0 (by simp), by rw [old_cell _ _ (by simp)]; exact new_cell _ _ 1 (by simp), by rw [old_cell _ _ (by simp)]; exact new_cell _ _ 2 (by simp), by rw [old_cell _ _ (by simp)]; exact new_cell _ _ 3 (by simp), by rw [old_cell _ _ (by simp)]; exact new_cell _ _ 4 (by simp), by rw [old_cell _ _ (by simp)]; exact new_cell _ _ 5 (by simp), by rw [old_cell _ _ (by simp)]; exact new_cell _ _ 6 (by simp), by rw [old_cell _ _ (by simp)]; exact new_cell _ _ 7 (by simp), by rw [old_cell _ _ (by simp)]; exact new_cell _ _ 8 (by simp), fun k hk => ?_⟩
  rcases (show k = 0 ∨ k = 1 ∨ k = 2 ∨ k = 3 ∨ k = 4 ∨ k = 5 ∨ k = 6 ∨ k = 7 ∨ k = 8 ∨ k = 9 ∨ k = 10 ∨ k = 11 ∨ k = 12 by omega) with rfl | rfl | rfl | rfl | rfl | rfl | rfl | rfl | rfl | rfl | rfl | rfl | rfl <;> exact new_cell2 _ _ _ _ (by simp [mostL])

set_option maxRecDepth 10000 in
set_option maxHeartbeats 3200000 in
theorem refFit_oneA (mon day nth wd off fr to mv : Int) (w : World) (h : RngR fr to mv) (hz : ¬ (nth = 0 ∧ wd = 0 ∧ off = 0)) :
    Calls Try.prog 29 #[.agg #[.int .i64 1, .int .i64 mon, .int .i64 day, .int .i64 nth, .int .i64 wd, .int .i64 off, .int .i64 fr, .int .i64 to, .int .i64 mv]] w fun e w' => e = .returned (.bool false) ∧ Below w.heap.size w w' := by
  have HI := hideS (fun (n lo hi : Int) (wx : World) => refIn_any n lo hi wx)
  have ia := hideS (fun wx => HI.out fr 1900 2199 wx)
  have ib := hideS (fun wx => HI.out to fr 2199 wx)
  have ic := hideS (fun wx => HI.out mv 0 2 wx)
  rw [decide_eq_true ⟨h.1, h.2.1⟩] at ia
  rw [decide_eq_true ⟨h.2.2.1, h.2.2.2.1⟩] at ib
  rw [decide_eq_true ⟨h.2.2.2.2.1, h.2.2.2.2.2⟩] at ic
  clear h
  have hz' : (nth ≠ 0) ∨ (nth = 0 ∧ wd ≠ 0) ∨ (nth = 0 ∧ wd = 0 ∧ off ≠ 0) := by omega
  clear hz
  go_enter Try.func29, Try.ntmps29
  go_wp2_with (first | (go_at_call_of 28 (Value.int IntKind.i64 1900); refine (ia.out _).mono ?_; rintro e w1 ⟨rfl, rfl⟩) | (go_at_call_of 28 (Value.int IntKind.i64 2199); refine (ib.out _).mono ?_; rintro e w1 ⟨rfl, rfl⟩) | (go_at_call_of 28 (Value.int IntKind.i64 2); refine (ic.out _).mono ?_; rintro e w1 ⟨rfl, rfl⟩))
  obtain ⟨wq, hwq, HB, x0, x1, x2, x3, x4, x5, x6, x7, x8, z0, z1, z2, z3, z4, z5, z6, z7, z8, HM⟩ := three_boxes w 1 mon day nth wd off fr to mv
  rw [hwq]
  clear hwq
  rcases hz' with a | ⟨rfl, a⟩ | ⟨rfl, rfl, a⟩
  all_goals
    go_quiet (fail)
    go_wp2_with fail
    go_ret
    exact ⟨rfl, below_drewN' HB.out⟩

set_option maxRecDepth 10000 in
set_option maxHeartbeats 3200000 in
theorem refFit_oneB (mon day fr to mv : Int) (w : World) (h : RngR fr to mv) (hz : ¬ (1 ≤ mon ∧ mon ≤ 12)) :
    Calls Try.prog 29 #[.agg #[.int .i64 1, .int .i64 mon, .int .i64 day, .int .i64 0, .int .i64 0, .int .i64 0, .int .i64 fr, .int .i64 to, .int .i64 mv]] w fun e w' => e = .returned (.bool false) ∧ Below w.heap.size w w' := by
  have HI := hideS (fun (n lo hi : Int) (wx : World) => refIn_any n lo hi wx)
  have ia := hideS (fun wx => HI.out fr 1900 2199 wx)
  have ib := hideS (fun wx => HI.out to fr 2199 wx)
  have ic := hideS (fun wx => HI.out mv 0 2 wx)
  rw [decide_eq_true ⟨h.1, h.2.1⟩] at ia
  rw [decide_eq_true ⟨h.2.2.1, h.2.2.2.1⟩] at ib
  rw [decide_eq_true ⟨h.2.2.2.2.1, h.2.2.2.2.2⟩] at ic
  clear h
  have im := hideS (fun wx => HI.out mon 1 12 wx)
  rw [decide_eq_false hz] at im
  clear hz
  go_enter Try.func29, Try.ntmps29
  go_wp2_with (first | (go_at_call_of 28 (Value.int IntKind.i64 1900); refine (ia.out _).mono ?_; rintro e w1 ⟨rfl, rfl⟩) | (go_at_call_of 28 (Value.int IntKind.i64 2199); refine (ib.out _).mono ?_; rintro e w1 ⟨rfl, rfl⟩) | (go_at_call_of 28 (Value.int IntKind.i64 2); refine (ic.out _).mono ?_; rintro e w1 ⟨rfl, rfl⟩))
  obtain ⟨wq, hwq, HB, x0, x1, x2, x3, x4, x5, x6, x7, x8, z0, z1, z2, z3, z4, z5, z6, z7, z8, HM⟩ := three_boxes w 1 mon day 0 0 0 fr to mv
  rw [hwq]
  clear hwq
  go_quiet ((go_at_call 28; exact Calls.quiet_of_same (im.out _)))
  go_wp2_with fail
  go_ret
  exact ⟨rfl, below_drewN' HB.out⟩

theorem most_at {m : Int} (h1 : 1 ≤ m) (h2 : m ≤ 12) : mostL[m.toNat]? = some (.int .i64 (mostI m)) := by
  rcases month_cases h1 h2 with rfl | rfl | rfl | rfl | rfl | rfl | rfl | rfl | rfl | rfl | rfl | rfl <;> rfl

set_option maxRecDepth 10000 in
set_option maxHeartbeats 3200000 in
theorem refFit_oneC (mon day fr to mv : Int) (w : World) (h : RngR fr to mv) (hm1 : 1 ≤ mon) (hm2 : mon ≤ 12) :
    Calls Try.prog 29 #[.agg #[.int .i64 1, .int .i64 mon, .int .i64 day, .int .i64 0, .int .i64 0, .int .i64 0, .int .i64 fr, .int .i64 to, .int .i64 mv]] w fun e w' => e = .returned (.bool (decide (1 ≤ day ∧ day ≤ mostI mon))) ∧ Below w.heap.size w w' := by
  have HI := hideS (fun (n lo hi : Int) (wx : World) => refIn_any n lo hi wx)
  have ia := hideS (fun wx => HI.out fr 1900 2199 wx)
  have ib := hideS (fun wx => HI.out to fr 2199 wx)
  have ic := hideS (fun wx => HI.out mv 0 2 wx)
  rw [decide_eq_true ⟨h.1, h.2.1⟩] at ia
  rw [decide_eq_true ⟨h.2.2.1, h.2.2.2.1⟩] at ib
  rw [decide_eq_true ⟨h.2.2.2.2.1, h.2.2.2.2.2⟩] at ic
  clear h
  have im := hideS (fun wx => HI.out mon 1 12 wx)
  rw [decide_eq_true ⟨hm1, hm2⟩] at im
  have id := hideS (fun wx => HI.out day 1 (mostI mon) wx)
  have hcell := most_at hm1 hm2
  have ht : mon.toNat < 13 := by omega
  generalize decide (1 ≤ day ∧ day ≤ mostI mon) = R at *
  generalize mostI mon = L at *
  obtain ⟨k, hk⟩ : ∃ k : Nat, mon = k := ⟨mon.toNat, by omega⟩
  have hkt : mon.toNat = k := by omega
  rw [hkt] at hcell ht
  clear hkt
  go_enter Try.func29, Try.ntmps29
  have HK := hideS hk
  clear hk
  go_wp2_with (first | (go_at_call_of 28 (Value.int IntKind.i64 1900); refine (ia.out _).mono ?_; rintro e w1 ⟨rfl, rfl⟩) | (go_at_call_of 28 (Value.int IntKind.i64 2199); refine (ib.out _).mono ?_; rintro e w1 ⟨rfl, rfl⟩) | (go_at_call_of 28 (Value.int IntKind.i64 2); refine (ic.out _).mono ?_; rintro e w1 ⟨rfl, rfl⟩))
  obtain ⟨wq, hwq, HB, x0, x1, x2, x3, x4, x5, x6, x7, x8, z0, z1, z2, z3, z4, z5, z6, z7, z8, HM⟩ := three_boxes w 1 mon day 0 0 0 fr to mv
  rw [hwq]
  clear hwq
  have hc := (HM.out k ht).trans hcell
  obtain rfl := HK.out
  clear hcell HM
  go_quiet (first | (go_at_call_of 28 (Value.int IntKind.i64 12); exact Calls.quiet_of_same (im.out _)) | (go_at_call 28; exact Calls.quiet_of_same (id.out _)))
  go_wp2_with fail
  go_ret
  exact ⟨rfl, below_drewN' HB.out⟩

theorem refFit_any (r : Rul) (w : World) :
    Calls Try.prog 29 #[.agg #[.int .i64 r.kind, .int .i64 r.mon, .int .i64 r.day, .int .i64 r.nth, .int .i64 r.wd, .int .i64 r.off, .int .i64 r.fr, .int .i64 r.to, .int .i64 r.mv]] w fun e w' => e = .returned (.bool (fitB r)) ∧ Below w.heap.size w w' := by
  obtain ⟨kind, mon, day, nth, wd, off, fr, to, mv⟩ := r
  dsimp only
  by_cases k4 : kind = 4
  · subst k4; exact refFit_four mon day nth wd off fr to mv w
  · by_cases hr : RngR fr to mv
    · by_cases k1 : kind = 1
      · subst k1
        rw [fit1 hr]
        by_cases hz : nth = 0 ∧ wd = 0 ∧ off = 0
        · obtain ⟨rfl, rfl, rfl⟩ := hz
          by_cases hm : 1 ≤ mon ∧ mon ≤ 12
          · rw [show decide ((0 : Int) = 0 ∧ (0 : Int) = 0 ∧ (0 : Int) = 0 ∧ 1 ≤ mon ∧ mon ≤ 12 ∧ 1 ≤ day ∧ day ≤ mostI mon) = decide (1 ≤ day ∧ day ≤ mostI mon) from decide_eq_decide.2 (by omega)]
            exact refFit_oneC mon day fr to mv w hr hm.1 hm.2
          · rw [decide_eq_false (fun a => hm ⟨a.2.2.2.1, a.2.2.2.2.1⟩)]
            exact refFit_oneB mon day fr to mv w hr hm
        · rw [decide_eq_false (fun a => hz ⟨a.1, a.2.1, a.2.2.1⟩)]
          exact refFit_oneA mon day nth wd off fr to mv w hr hz
      · exact refFit_rest kind mon day nth wd off fr to mv w k1 k4 hr
    · exact refFit_rng kind mon day nth wd off fr to mv w k4 hr
end Go.Proofs.Ytcbbbkngjdlcjaa
namespace Go.Proofs.Ytcbbbkngjdlcjaa
open Go.RowKit

theorem fit1' (mon day nth wd off fr to mv : Int) : fitB ⟨1, mon, day, nth, wd, off, fr, to, mv⟩ = decide ((1900 ≤ fr ∧ fr ≤ 2199 ∧ fr ≤ to ∧ to ≤ 2199 ∧ 0 ≤ mv ∧ mv ≤ 2) ∧ nth = 0 ∧ wd = 0 ∧ off = 0 ∧ 1 ≤ mon ∧ mon ≤ 12 ∧ 1 ≤ day ∧ day ≤ mostI mon) := by
  by_cases h : RngR fr to mv
  · rw [fit1 h]; exact decide_eq_decide.2 ⟨fun a => ⟨h, a⟩, fun a => a.2⟩
  · rw [fit_rng (by decide) h, decide_eq_false (fun a => h a.1)]
theorem fit2' (mon day nth wd off fr to mv : Int) : fitB ⟨2, mon, day, nth, wd, off, fr, to, mv⟩ = decide ((1900 ≤ fr ∧ fr ≤ 2199 ∧ fr ≤ to ∧ to ≤ 2199 ∧ 0 ≤ mv ∧ mv ≤ 2) ∧ day = 0 ∧ off = 0 ∧ 1 ≤ mon ∧ mon ≤ 12 ∧ 0 ≤ wd ∧ wd ≤ 6 ∧ 1 ≤ nth ∧ nth ≤ 5) := by
  by_cases h : RngR fr to mv
  · rw [fit2 h]; exact decide_eq_decide.2 ⟨fun a => ⟨h, a⟩, fun a => a.2⟩
  · rw [fit_rng (by decide) h, decide_eq_false (fun a => h a.1)]
theorem fit3' (mon day nth wd off fr to mv : Int) : fitB ⟨3, mon, day, nth, wd, off, fr, to, mv⟩ = decide ((1900 ≤ fr ∧ fr ≤ 2199 ∧ fr ≤ to ∧ to ≤ 2199 ∧ 0 ≤ mv ∧ mv ≤ 2) ∧ mon = 0 ∧ day = 0 ∧ nth = 0 ∧ wd = 0 ∧ -100 ≤ off ∧ off ≤ 100) := by
  by_cases h : RngR fr to mv
  · rw [fit3 h]; exact decide_eq_decide.2 ⟨fun a => ⟨h, a⟩, fun a => a.2⟩
  · rw [fit_rng (by decide) h, decide_eq_false (fun a => h a.1)]
theorem below2 (w : World) (o1 o2 : Obj) : Below w.heap.size w ((w.alloc o1).alloc o2) := ((Below.refl w.heap.size w).alloc (Nat.le_refl _) _).alloc (by simp) _

theorem isDay6_lit (n : Int) (w : World) :
    Calls Try.prog 65 #[.int .i64 n] w fun e w' => e = .returned (.bool (decide (0 ≤ n ∧ n ≤ 109572))) ∧ w' = w := by
  have := isDay6_any n w
  rw [show decide (isDayP n) = decide (0 ≤ n ∧ n ≤ 109572) from decide_eq_decide.2 Iff.rfl] at this
  exact this

set_option maxHeartbeats 1600000 in
theorem again_any (kind mon day nth wd off fr to mv : Int) (w : World) :
    Calls Try.prog 101 #[.agg #[.int .i64 kind, .int .i64 mon, .int .i64 day, .int .i64 nth, .int .i64 wd, .int .i64 off, .int .i64 fr, .int .i64 to, .int .i64 mv]] w fun e w' => e = .returned (.bool (decide (1900 ≤ fr ∧ fr ≤ 2199 ∧ fr ≤ to ∧ to ≤ 2199 ∧ 0 ≤ mv ∧ mv ≤ 2))) ∧ Below w.heap.size w w' := by
  obtain ⟨R, hR⟩ : ∃ R, decide (1900 ≤ fr ∧ fr ≤ 2199 ∧ fr ≤ to ∧ to ≤ 2199 ∧ 0 ≤ mv ∧ mv ≤ 2) = R := ⟨_, rfl⟩
  rw [hR]
  have HR := hideS hR
  clear hR
  go_enter Try.func101, Try.ntmps101
  go_wp2_with (go_at_call 74; refine (between_any _ _ _ _).mono ?_; rintro e w1 ⟨rfl, rfl⟩)
  all_goals
    go_ret
    refine ⟨retB (Eq.trans ?_ HR.out), (Below.refl w.heap.size w).alloc (Nat.le_refl _) _⟩
    first | exact (decide_eq_false (by omega)).symm | exact decide_eq_decide.2 (by omega) | (rw [Bool.eq_iff_iff]; simp only [Bool.and_eq_true, decide_eq_true_eq]; omega)

theorem most_len {m : Int} (h1 : 1 ≤ m) (h2 : m ≤ 12) : lenI 2000 m = mostI m := by
  rcases month_cases h1 h2 with rfl | rfl | rfl | rfl | rfl | rfl | rfl | rfl | rfl | rfl | rfl | rfl <;> decide

set_option maxHeartbeats 3200000 in
theorem may4_any (mon day nth wd off fr to mv : Int) (w : World) :
    Calls Try.prog 109 #[.agg #[.int .i64 4, .int .i64 mon, .int .i64 day, .int .i64 nth, .int .i64 wd, .int .i64 off, .int .i64 fr, .int .i64 to, .int .i64 mv]] w fun e w' => e = .returned (.bool (fitB ⟨4, mon, day, nth, wd, off, fr, to, mv⟩)) ∧ Below w.heap.size w w' := by
  rw [fit4]
  obtain ⟨R, hR⟩ : ∃ R, decide (mon = 0 ∧ nth = 0 ∧ wd = 0 ∧ off = 0 ∧ fr = 0 ∧ to = 0 ∧ mv = 0 ∧ 0 ≤ day ∧ day ≤ 109572) = R := ⟨_, rfl⟩
  rw [hR]
  have HR := hideS hR
  clear hR
  go_enter Try.func109, Try.ntmps109
  go_wp2_with (go_at_call 65; refine (isDay6_lit _ _).mono ?_; rintro e w1 ⟨rfl, rfl⟩)
  all_goals
    go_ret
    refine ⟨retB (Eq.trans ?_ HR.out), (Below.refl w.heap.size w).alloc (Nat.le_refl _) _⟩
    first | exact (decide_eq_false (by omega)).symm | exact decide_eq_decide.2 (by omega) | (rw [Bool.eq_iff_iff]; simp only [Bool.and_eq_true, decide_eq_true_eq]; omega)

set_option maxHeartbeats 3200000 in
theorem may3_any (mon day nth wd off fr to mv : Int) (w : World) :
    Calls Try.prog 105 #[.agg #[.int .i64 3, .int .i64 mon, .int .i64 day, .int .i64 nth, .int .i64 wd, .int .i64 off, .int .i64 fr, .int .i64 to, .int .i64 mv]] w fun e w' => e = .returned (.bool (fitB ⟨3, mon, day, nth, wd, off, fr, to, mv⟩)) ∧ Below w.heap.size w w' := by
  rw [fit3']
  obtain ⟨R, hR⟩ : ∃ R, decide ((1900 ≤ fr ∧ fr ≤ 2199 ∧ fr ≤ to ∧ to ≤ 2199 ∧ 0 ≤ mv ∧ mv ≤ 2) ∧ mon = 0 ∧ day = 0 ∧ nth = 0 ∧ wd = 0 ∧ -100 ≤ off ∧ off ≤ 100) = R := ⟨_, rfl⟩
  rw [hR]
  have HR := hideS hR
  clear hR
  have HB2 := hideS (below2 w)
  have HA := hideS (fun kind mon day nth wd off fr to mv wx => again_any kind mon day nth wd off fr to mv wx)
  go_enter Try.func105, Try.ntmps105
  go_wp2_with (first | (go_at_call 74; refine (between_any _ _ _ _).mono ?_; rintro e w1 ⟨rfl, rfl⟩) | (go_at_call 101; refine (HA.out _ _ _ _ _ _ _ _ _ _).mono ?_; rintro e w1 ⟨rfl, hb1⟩))
  all_goals
    go_ret
    first
    | refine ⟨retB (Eq.trans ?_ HR.out), HB2.out _ _⟩
    | refine ⟨retB (Eq.trans ?_ HR.out), (HB2.out _ _).trans (hb1.mono (by simp <;> omega))⟩
    first | exact (decide_eq_false (by omega)).symm | exact decide_eq_decide.2 (by omega) | (rw [Bool.eq_iff_iff]; simp only [Bool.and_eq_true, decide_eq_true_eq]; omega)

set_option maxHeartbeats 3200000 in
theorem may2_any (mon day nth wd off fr to mv : Int) (w : World) :
    Calls Try.prog 103 #[.agg #[.int .i64 2, .int .i64 mon, .int .i64 day, .int .i64 nth, .int .i64 wd, .int .i64 off, .int .i64 fr, .int .i64 to, .int .i64 mv]] w fun e w' => e = .returned (.bool (fitB ⟨2, mon, day, nth, wd, off, fr, to, mv⟩)) ∧ Below w.heap.size w w' := by
  rw [fit2']
  obtain ⟨R, hR⟩ : ∃ R, decide ((1900 ≤ fr ∧ fr ≤ 2199 ∧ fr ≤ to ∧ to ≤ 2199 ∧ 0 ≤ mv ∧ mv ≤ 2) ∧ day = 0 ∧ off = 0 ∧ 1 ≤ mon ∧ mon ≤ 12 ∧ 0 ≤ wd ∧ wd ≤ 6 ∧ 1 ≤ nth ∧ nth ≤ 5) = R := ⟨_, rfl⟩
  rw [hR]
  have HR := hideS hR
  clear hR
  have HB2 := hideS (below2 w)
  have HA := hideS (fun kind mon day nth wd off fr to mv wx => again_any kind mon day nth wd off fr to mv wx)
  go_enter Try.func103, Try.ntmps103
  go_wp2_with (first | (go_at_call 74; refine (between_any _ _ _ _).mono ?_; rintro e w1 ⟨rfl, rfl⟩) | (go_at_call 101; refine (HA.out _ _ _ _ _ _ _ _ _ _).mono ?_; rintro e w1 ⟨rfl, hb1⟩))
  all_goals
    go_ret
    first
    | refine ⟨retB (Eq.trans ?_ HR.out), HB2.out _ _⟩
    | refine ⟨retB (Eq.trans ?_ HR.out), (HB2.out _ _).trans (hb1.mono (by simp <;> omega))⟩
    first | exact (decide_eq_false (by omega)).symm | exact decide_eq_decide.2 (by omega) | (rw [Bool.eq_iff_iff]; simp only [Bool.and_eq_true, decide_eq_true_eq]; omega)

set_option maxHeartbeats 3200000 in
theorem may1_any (mon day nth wd off fr to mv : Int) (w : World) :
    Calls Try.prog 100 #[.agg #[.int .i64 1, .int .i64 mon, .int .i64 day, .int .i64 nth, .int .i64 wd, .int .i64 off, .int .i64 fr, .int .i64 to, .int .i64 mv]] w fun e w' => e = .returned (.bool (fitB ⟨1, mon, day, nth, wd, off, fr, to, mv⟩)) ∧ Below w.heap.size w w' := by
  rw [fit1']
  have HB2 := hideS (below2 w)
  have HA := hideS (fun kind mon day nth wd off fr to mv wx => again_any kind mon day nth wd off fr to mv wx)
  by_cases hm : 1 ≤ mon ∧ mon ≤ 12
  · have HL := hideS (fun wx => lengthP_ok 2000 mon wx ⟨by decide, by decide, hm.1, hm.2⟩)
    rw [most_len hm.1 hm.2] at HL
    generalize mostI mon = L at *
    obtain ⟨R, hR⟩ : ∃ R, decide ((1900 ≤ fr ∧ fr ≤ 2199 ∧ fr ≤ to ∧ to ≤ 2199 ∧ 0 ≤ mv ∧ mv ≤ 2) ∧ nth = 0 ∧ wd = 0 ∧ off = 0 ∧ 1 ≤ mon ∧ mon ≤ 12 ∧ 1 ≤ day ∧ day ≤ L) = R := ⟨_, rfl⟩
    rw [hR]
    have HR := hideS hR
    clear hR
    go_enter Try.func100, Try.ntmps100
    go_wp2_with (first | (go_at_call 70; refine (HL.out _).mono ?_; rintro e w1 ⟨rfl, rfl⟩) | (go_at_call 74; refine (between_any _ _ _ _).mono ?_; rintro e w1 ⟨rfl, rfl⟩) | (go_at_call 101; refine (HA.out _ _ _ _ _ _ _ _ _ _).mono ?_; rintro e w1 ⟨rfl, hb1⟩))
    all_goals
      go_ret
      first
      | refine ⟨retB (Eq.trans ?_ HR.out), HB2.out _ _⟩
      | refine ⟨retB (Eq.trans ?_ HR.out), (HB2.out _ _).trans (hb1.mono (by simp <;> omega))⟩
      first | exact (decide_eq_false (by omega)).symm | exact decide_eq_decide.2 (by omega) | (rw [Bool.eq_iff_iff]; simp only [Bool.and_eq_true, decide_eq_true_eq]; omega)
  · have HL := hideS (fun wx => lengthP_bad 2000 mon wx (fun a => hm ⟨a.2.2.1, a.2.2.2⟩))
    rw [decide_eq_false (fun a => hm ⟨a.2.2.2.2.1, a.2.2.2.2.2.1⟩)]
    clear hm
    go_enter Try.func100, Try.ntmps100
    go_wp2_with (go_at_call 70; refine (HL.out _).mono ?_; rintro e w1 ⟨rfl, rfl⟩)
    all_goals
      go_ret
      exact ⟨rfl, HB2.out _ _⟩

set_option maxHeartbeats 400000 in
theorem may0_any (w : World) :
    Calls Try.prog 111 #[.agg #[]] w fun e w' => e = .returned (.bool false) ∧ Below w.heap.size w w' := by
  go_enter Try.func111, Try.ntmps111
  go_wp2_with fail
  go_ret
  exact ⟨rfl, (Below.refl w.heap.size w).alloc (Nat.le_refl _) _⟩

/-- The dynamic type of a rule, by its kind. -/
def tyK (k : Int) : Nat := if k = 1 then 107 else if k = 2 then 108 else if k = 3 then 109 else 110
set_option maxHeartbeats 1600000 in
theorem holidayOf_any (kind mon day nth wd off fr to mv : Int) (w : World) (hk : kind = 1 ∨ kind = 2 ∨ kind = 3 ∨ kind = 4) :
    Calls Try.prog 73 #[.agg #[.int .i64 kind, .int .i64 mon, .int .i64 day, .int .i64 nth, .int .i64 wd, .int .i64 off, .int .i64 fr, .int .i64 to, .int .i64 mv]] w fun e w' => e = .returned (.iface (tyK kind) (.agg #[.int .i64 kind, .int .i64 mon, .int .i64 day, .int .i64 nth, .int .i64 wd, .int .i64 off, .int .i64 fr, .int .i64 to, .int .i64 mv])) ∧ Below w.heap.size w w' := by
  rcases hk with rfl | rfl | rfl | rfl
  all_goals
    go_enter Try.func73, Try.ntmps73
    go_wp2_with fail
    go_ret
    exact ⟨rfl, (Below.refl w.heap.size w).alloc (Nat.le_refl _) _⟩
set_option maxHeartbeats 1600000 in
theorem holidayOf_none (kind mon day nth wd off fr to mv : Int) (w : World) (hk : ¬ (kind = 1 ∨ kind = 2 ∨ kind = 3 ∨ kind = 4)) :
    Calls Try.prog 73 #[.agg #[.int .i64 kind, .int .i64 mon, .int .i64 day, .int .i64 nth, .int .i64 wd, .int .i64 off, .int .i64 fr, .int .i64 to, .int .i64 mv]] w fun e w' => e = .returned (.iface 112 (.agg #[])) ∧ Below w.heap.size w w' := by
  have k1 : (kind == 1) = false := beq_eq_false_iff_ne.2 (fun a => hk (by omega))
  have k2 : (kind == 2) = false := beq_eq_false_iff_ne.2 (fun a => hk (by omega))
  have k3 : (kind == 3) = false := beq_eq_false_iff_ne.2 (fun a => hk (by omega))
  have k4 : (kind == 4) = false := beq_eq_false_iff_ne.2 (fun a => hk (by omega))
  clear hk
  go_enter Try.func73, Try.ntmps73
  go_wp2_with fail
  go_ret
  exact ⟨rfl, (Below.refl w.heap.size w).alloc (Nat.le_refl _) _⟩
end Go.Proofs.Ytcbbbkngjdlcjaa
