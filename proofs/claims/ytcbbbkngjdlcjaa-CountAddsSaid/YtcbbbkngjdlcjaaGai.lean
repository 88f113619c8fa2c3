/- The contract of the document's fit of an HFix rule, and of Check. The contracts of the document's thirty and actual. -/
import Derived.Test.YtcbbbkngjdlcjaaGah
import Derived.Test.YtcbbbkngjdlcjaaGaf
namespace Go.Proofs.Ytcbbbkngjdlcjaa
open Go.RowKit

theorem below_drewN' {B : Nat} {w w2 : World} {n : Nat} (hb : Below B w w2) : Below B w (w2.drewN n) := ⟨hb.os, hb.tape, hb.output, hb.size, hb.block⟩
def mostL : Array Value := #[.int .i64 0, .int .i64 31, .int .i64 29, .int .i64 31, .int .i64 30, .int .i64 31, .int .i64 30, .int .i64 31, .int .i64 31, .int .i64 30, .int .i64 31, .int .i64 30, .int .i64 31]
theorem old_cell {w : World} (o : Obj) (p : Addr) (h : p.block < w.heap.size) : (w.alloc o).cell? p = w.cell? p := ((Below.refl _ w).alloc (Nat.le_refl _) o).cell h
theorem new_cell {w : World} {v : Value} (cs : Array Value) (t : TypeId) (k : Nat) (h : cs[k]? = some v) {o : Obj} : ((w.alloc o).alloc (.cells cs t)).cell? ⟨w.heap.size + 1, k, none⟩ = some v := by
  rw [show w.heap.size + 1 = (w.alloc o).heap.size by simp]
  simp [h]
theorem new_cell0 (W : World) (cs : Array Value) (t : TypeId) (k : Nat) : (W.alloc (.cells cs t)).cell? ⟨W.heap.size, k, none⟩ = cs[k]? := by simp
theorem new_cell2 {w : World} {v : Option Value} (cs : Array Value) (t : TypeId) (o o' : Obj) {k : Nat} (h : cs[k]? = v) : (((w.alloc o).alloc o').alloc (.cells cs t)).cell? ⟨w.heap.size + 1 + 1, k, none⟩ = v := by
  have e := new_cell0 ((w.alloc o).alloc o') cs t k
  rw [show ((w.alloc o).alloc o').heap.size = w.heap.size + 1 + 1 by simp] at e
  rw [e, h]
theorem three_boxes (w : World) (kind mon day nth wd off fr to mv : Int) : ∃ wq,
    ((w.alloc (.cells #[.int .i64 kind, .int .i64 mon, .int .i64 day, .int .i64 nth, .int .i64 wd, .int .i64 off, .int .i64 fr, .int .i64 to, .int .i64 mv] 61)).alloc (.cells #[.int .i64 kind, .int .i64 mon, .int .i64 day, .int .i64 0, .int .i64 0, .int .i64 0, .int .i64 fr, .int .i64 to, .int .i64 mv] 61)).alloc (.cells #[.int .i64 0, .int .i64 31, .int .i64 29, .int .i64 31, .int .i64 30, .int .i64 31, .int .i64 30, .int .i64 31, .int .i64 31, .int .i64 30, .int .i64 31, .int .i64 30, .int .i64 31] 3) = wq ∧
    Hid (Below w.heap.size w wq) ∧
    wq.cell? ⟨w.heap.size, 0, none⟩ = some (.int .i64 kind) ∧ wq.cell? ⟨w.heap.size, 1, none⟩ = some (.int .i64 mon) ∧ wq.cell? ⟨w.heap.size, 2, none⟩ = some (.int .i64 day) ∧ wq.cell? ⟨w.heap.size, 3, none⟩ = some (.int .i64 nth) ∧ wq.cell? ⟨w.heap.size, 4, none⟩ = some (.int .i64 wd) ∧ wq.cell? ⟨w.heap.size, 5, none⟩ = some (.int .i64 off) ∧ wq.cell? ⟨w.heap.size, 6, none⟩ = some (.int .i64 fr) ∧ wq.cell? ⟨w.heap.size, 7, none⟩ = some (.int .i64 to) ∧ wq.cell? ⟨w.heap.size, 8, none⟩ = some (.int .i64 mv) ∧
    wq.cell? ⟨w.heap.size + 1, 0, none⟩ = some (.int .i64 kind) ∧ wq.cell? ⟨w.heap.size + 1, 1, none⟩ = some (.int .i64 mon) ∧ wq.cell? ⟨w.heap.size + 1, 2, none⟩ = some (.int .i64 day) ∧ wq.cell? ⟨w.heap.size + 1, 3, none⟩ = some (.int .i64 0) ∧ wq.cell? ⟨w.heap.size + 1, 4, none⟩ = some (.int .i64 0) ∧ wq.cell? ⟨w.heap.size + 1, 5, none⟩ = some (.int .i64 0) ∧ wq.cell? ⟨w.heap.size + 1, 6, none⟩ = some (.int .i64 fr) ∧ wq.cell? ⟨w.heap.size + 1, 7, none⟩ = some (.int .i64 to) ∧ wq.cell? ⟨w.heap.size + 1, 8, none⟩ = some (.int .i64 mv) ∧
    Hid (∀ k < 13, wq.cell? ⟨w.heap.size + 1 + 1, k, none⟩ = mostL[k]?) := by
  refine ⟨_, rfl, (((Below.refl w.heap.size w).alloc (Nat.le_refl _) _).alloc (by simp) _).alloc (by simp; omega) _, ?_⟩
  refine ⟨by rw [old_cell _ _ (by simp; omega), old_cell _ _ (by simp)]; simp, by rw [old_cell _ _ (by simp; omega), old_cell _ _ (by simp)]; simp, by rw [old_cell _ _ (by simp; omega), old_cell _ _ (by simp)]; simp, by rw [old_cell _ _ (by simp; omega), old_cell _ _ (by simp)]; simp, by rw [old_cell _ _ (by simp; omega), old_cell _ _ (by simp)]; simp, by rw [old_cell _ _ (by simp; omega), old_cell _ _ (by simp)]; simp, by rw [old_cell _ _ (by simp; omega), old_cell _ _ (by simp)]; simp, by rw [old_cell _ _ (by simp; omega), old_cell _ _ (by simp)]; simp, by rw [old_cell _ _ (by simp; omega), old_cell _ _ (by simp)]; simp, by rw [old_cell _ _ (by simp)]; exact new_cell _ _ 0 (by simp), by rw [old_cell _ _ (by simp)]; exact new_cell _ _ 1 (by simp), by rw [old_cell _ _ (by simp)]; exact new_cell _ _ 2 (by simp), by rw [old_cell _ _ (by simp)]; exact new_cell _ _ 3 (by simp), by rw [old_cell _ _ (by simp)]; exact new_cell _ _ 4 (by simp), by rw [old_cell _ _ (by simp)]; exact new_cell _ _ 5 (by simp), by rw [old_cell _ _ (by simp)]; exact new_cell _ _ 6 (by simp), by rw [old_cell _ _ (by simp)]; exact new_cell _ _ 7 (by simp), by rw [old_cell _ _ (by simp)]; exact new_cell _ _ 8 (by simp), fun k hk => ?_⟩
  rcases (show k = 0 ∨ k = 1 ∨ k = 2 ∨ k = 3 ∨ k = 4 ∨ k = 5 ∨ k = 6 ∨ k = 7 ∨ k = 8 ∨ k = 9 ∨ k = 10 ∨ k = 11 ∨ k = 12 by omega) with rfl | rfl | rfl | rfl | rfl | rfl | rfl | rfl | rfl | rfl | rfl | rfl | rfl <;> exact new_cell2 _ _ _ _ (by simp [mostL])

set_option maxRecDepth 10000 in
set_option maxHeartbeats 3200000 in
theorem refFit_oneA (mon day nth wd off fr to mv : Int) (w : World) (h : RngR fr to mv) (hz : ¬ (nth = 0 ∧ wd = 0 ∧ off = 0)) :
    Calls Try.prog 29 #[.agg #[.int .i64 1, .int .i64 mon, .int .i64 day, .int .i64 nth, .int .i64 wd, .int .i64 off, .int .i64 fr, .int .i64 to, .int .i64 mv]] w fun e w' => e = .returned (.bool false) ∧ Below w.heap.size w w' := by
  have HI := hideS (fun (n lo hi : Int) (wx : World) => refIn_any n lo hi wx)
  have ia := hideS (fun wx => HI.out fr 1900 2199 wx)
  have ib := hideS (fun wx => HI.out to fr 2199 wx)
  have ic := hideS (fun wx => HI.out mv 0 2 wx)
  rw [decide_eq_true ⟨h.1, h.2.1⟩] at ia
  rw [decide_eq_true ⟨h.2.2.1, h.2.2.2.1⟩] at ib
  rw [decide_eq_true ⟨h.2.2.2.2.1, h.2.2.2.2.2⟩] at ic
  clear h
  have hz' : (nth ≠ 0) ∨ (nth = 0 ∧ wd ≠ 0) ∨ (nth = 0 ∧ wd = 0 ∧ off ≠ 0) := by omega
  clear hz
  go_enter Try.func29, Try.ntmps29
  go_wp2_with (first | (go_at_call_of 28 (Value.int IntKind.i64 1900); refine (ia.out _).mono ?_; rintro e w1 ⟨rfl, rfl⟩) | (go_at_call_of 28 (Value.int IntKind.i64 2199); refine (ib.out _).mono ?_; rintro e w1 ⟨rfl, rfl⟩) | (go_at_call_of 28 (Value.int IntKind.i64 2); refine (ic.out _).mono ?_; rintro e w1 ⟨rfl, rfl⟩))
  obtain ⟨wq, hwq, HB, x0, x1, x2, x3, x4, x5, x6, x7, x8, z0, z1, z2, z3, z4, z5, z6, z7, z8, HM⟩ := three_boxes w 1 mon day nth wd off fr to mv
  rw [hwq]
  clear hwq
  rcases hz' with a | ⟨rfl, a⟩ | ⟨rfl, rfl, a⟩
  all_goals
    go_quiet (fail)
    go_wp2_with fail
    go_ret
    exact ⟨rfl, below_drewN' HB.out⟩

set_option maxRecDepth 10000 in
set_option maxHeartbeats 3200000 in
theorem refFit_oneB (mon day fr to mv : Int) (w : World) (h : RngR fr to mv) (hz : ¬ (1 ≤ mon ∧ mon ≤ 12)) :
    Calls Try.prog 29 #[.agg #[.int .i64 1, .int .i64 mon, .int .i64 day, .int .i64 0, .int .i64 0, .int .i64 0, .int .i64 fr, .int .i64 to, .int .i64 mv]] w fun e w' => e = .returned (.bool false) ∧ Below w.heap.size w w' := by
  have HI := hideS (fun (n lo hi : Int) (wx : World) => refIn_any n lo hi wx)
  have ia := hideS (fun wx => HI.out fr 1900 2199 wx)
  have ib := hideS (fun wx => HI.out to fr 2199 wx)
  have ic := hideS (fun wx => HI.out mv 0 2 wx)
  rw [decide_eq_true ⟨h.1, h.2.1⟩] at ia
  rw [decide_eq_true ⟨h.2.2.1, h.2.2.2.1⟩] at ib
  rw [decide_eq_true ⟨h.2.2.2.2.1, h.2.2.2.2.2⟩] at ic
  clear h
  have im := hideS (fun wx => HI.out mon 1 12 wx)
  rw [decide_eq_false hz] at im
  clear hz
  go_enter Try.func29, Try.ntmps29
  go_wp2_with (first | (go_at_call_of 28 (Value.int IntKind.i64 1900); refine (ia.out _).mono ?_; rintro e w1 ⟨rfl, rfl⟩) | (go_at_call_of 28 (Value.int IntKind.i64 2199); refine (ib.out _).mono ?_; rintro e w1 ⟨rfl, rfl⟩) | (go_at_call_of 28 (Value.int IntKind.i64 2); refine (ic.out _).mono ?_; rintro e w1 ⟨rfl, rfl⟩))
  obtain ⟨wq, hwq, HB, x0, x1, x2, x3, x4, x5, x6, x7, x8, z0, z1, z2, z3, z4, z5, z6, z7, z8, HM⟩ := three_boxes w 1 mon day 0 0 0 fr to mv
  rw [hwq]
  clear hwq
  go_quiet ((go_at_call 28; exact Calls.quiet_of_same (im.out _)))
  go_wp2_with fail
  go_ret
  exact ⟨rfl, below_drewN' HB.out⟩

theorem most_at {m : Int} (h1 : 1 ≤ m) (h2 : m ≤ 12) : mostL[m.toNat]? = some (.int .i64 (mostI m)) := by
  rcases month_cases h1 h2 with rfl | rfl | rfl | rfl | rfl | rfl | rfl | rfl | rfl | rfl | rfl | rfl <;> rfl

set_option maxRecDepth 10000 in
set_option maxHeartbeats 3200000 in
theorem refFit_oneC (mon day fr to mv : Int) (w : World) (h : RngR fr to mv) (hm1 : 1 ≤ mon) (hm2 : mon ≤ 12) :
    Calls Try.prog 29 #[.agg #[.int .i64 1, .int .i64 mon, .int .i64 day, .int .i64 0, .int .i64 0, .int .i64 0, .int .i64 fr, .int .i64 to, .int .i64 mv]] w fun e w' => e = .returned (.bool (decide (1 ≤ day ∧ day ≤ mostI mon))) ∧ Below w.heap.size w w' := by
  have HI := hideS (fun (n lo hi : Int) (wx : World) => refIn_any n lo hi wx)
  have ia := hideS (fun wx => HI.out fr 1900 2199 wx)
  have ib := hideS (fun wx => HI.out to fr 2199 wx)
  have ic := hideS (fun wx => HI.out mv 0 2 wx)
  rw [decide_eq_true ⟨h.1, h.2.1⟩] at ia
  rw [decide_eq_true ⟨h.2.2.1, h.2.2.2.1⟩] at ib
  rw [decide_eq_true ⟨h.2.2.2.2.1, h.2.2.2.2.2⟩] at ic
  clear h
  have im := hideS (fun wx => HI.out mon 1 12 wx)
  rw [decide_eq_true ⟨hm1, hm2⟩] at im
  have id := hideS (fun wx => HI.out day 1 (mostI mon) wx)
  have hcell := most_at hm1 hm2
  have ht : mon.toNat < 13 := by omega
  generalize decide (1 ≤ day ∧ day ≤ mostI mon) = R at *
  generalize mostI mon = L at *
  obtain ⟨k, hk⟩ : ∃ k : Nat, mon = k := ⟨mon.toNat, by omega⟩
  have hkt : mon.toNat = k := by omega
  rw [hkt] at hcell ht
  clear hkt
  go_enter Try.func29, Try.ntmps29
  have HK := hideS hk
  clear hk
  go_wp2_with (first | (go_at_call_of 28 (Value.int IntKind.i64 1900); refine (ia.out _).mono ?_; rintro e w1 ⟨rfl, rfl⟩) | (go_at_call_of 28 (Value.int IntKind.i64 2199); refine (ib.out _).mono ?_; rintro e w1 ⟨rfl, rfl⟩) | (go_at_call_of 28 (Value.int IntKind.i64 2); refine (ic.out _).mono ?_; rintro e w1 ⟨rfl, rfl⟩))
  obtain ⟨wq, hwq, HB, x0, x1, x2, x3, x4, x5, x6, x7, x8, z0, z1, z2, z3, z4, z5, z6, z7, z8, HM⟩ := three_boxes w 1 mon day 0 0 0 fr to mv
  rw [hwq]
  clear hwq
  have hc := (HM.out k ht).trans hcell
  obtain rfl := HK.out
  clear hcell HM
  go_quiet (first | (go_at_call_of 28 (Value.int IntKind.i64 12); exact Calls.quiet_of_same (im.out _)) | (go_at_call 28; exact Calls.quiet_of_same (id.out _)))
  go_wp2_with fail
  go_ret
  exact ⟨rfl, below_drewN' HB.out⟩

theorem refFit_any (r : Rul) (w : World) :
    Calls Try.prog 29 #[.agg #[.int .i64 r.kind, .int .i64 r.mon, .int .i64 r.day, .int .i64 r.nth, .int .i64 r.wd, .int .i64 r.off, .int .i64 r.fr, .int .i64 r.to, .int .i64 r.mv]] w fun e w' => e = .returned (.bool (fitB r)) ∧ Below w.heap.size w w' := by
  obtain ⟨kind, mon, day, nth, wd, off, fr, to, mv⟩ := r
  dsimp only
  by_cases k4 : kind = 4
  · subst k4; exact refFit_four mon day nth wd off fr to mv w
  · by_cases hr : RngR fr to mv
    · by_cases k1 : kind = 1
      · subst k1
        rw [fit1 hr]
        by_cases hz : nth = 0 ∧ wd = 0 ∧ off = 0
        · obtain ⟨rfl, rfl, rfl⟩ := hz
          by_cases hm : 1 ≤ mon ∧ mon ≤ 12
          · rw [show decide ((0 : Int) = 0 ∧ (0 : Int) = 0 ∧ (0 : Int) = 0 ∧ 1 ≤ mon ∧ mon ≤ 12 ∧ 1 ≤ day ∧ day ≤ mostI mon) = decide (1 ≤ day ∧ day ≤ mostI mon) from decide_eq_decide.2 (by omega)]
            exact refFit_oneC mon day fr to mv w hr hm.1 hm.2
          · rw [decide_eq_false (fun a => hm ⟨a.2.2.2.1, a.2.2.2.2.1⟩)]
            exact refFit_oneB mon day fr to mv w hr hm
        · rw [decide_eq_false (fun a => hz ⟨a.1, a.2.1, a.2.2.1⟩)]
          exact refFit_oneA mon day nth wd off fr to mv w hr hz
      · exact refFit_rest kind mon day nth wd off fr to mv w k1 k4 hr
    · exact refFit_rng kind mon day nth wd off fr to mv w k4 hr
end Go.Proofs.Ytcbbbkngjdlcjaa
namespace Go.Proofs.Ytcbbbkngjdlcjaa
open Go.RowKit

set_option maxHeartbeats 1600000 in
theorem refActual_any (a b ya ma da yb mb db : Int) (w : World) (hA : IsD a ya ma da) (hB : IsD b yb mb db) (hab : a ≤ b) :
    Calls Try.prog 17 #[.int .i64 a, .int .i64 b] w fun e w' => e = .returned (.int .i64 (accI yb b - accI ya a)) ∧ Below w.heap.size w w' := by
  have HC := hideS (fun wx => refCiv_ok a ya ma da wx hA)
  unfold dateV at HC
  have hya := hA.year
  have hyb := hB.year
  have hra := hA.range
  have hrb := hB.range
  obtain ⟨y0, y1, _, _, _, _⟩ := hA.1
  obtain ⟨z0, z1, _, _, _, _⟩ := hB.1
  obtain ⟨R, hR⟩ : ∃ R, accI yb b - accI ya a = R := ⟨_, rfl⟩
  rw [hR]
  have HR := hideS hR
  clear hR hA hB
  have HYA := hideS hya
  have HYB := hideS hyb
  obtain ⟨a0, a1⟩ := hra
  obtain ⟨b0, b1⟩ := hrb
  clear hya hyb
  go_enter Try.func17, Try.ntmps17
  go_wp2_with (go_at_call 30; refine (HC.out _).mono ?_; rintro e w1 ⟨rfl, hb1⟩; have HB1 := hideS (hb1.trans (((Below.refl _ w1).alloc (Nat.le_refl _) (.cells #[.int .i64 ya, .int .i64 ma, .int .i64 da] 63)).mono hb1.size)); clear hb1)
  go_loop [0, 7, 8, 9, 10, 11] (fun x o y _ _ _ => ∃ (X O Y : Int), ya ≤ Y ∧ Y ≤ yb + 1 ∧ a ≤ X ∧ X ≤ b ∧ 0 ≤ O ∧ O ≤ 50000000 ∧ x = .int .i64 X ∧ o = .int .i64 O ∧ y = .int .i64 Y ∧ Hid ((nyI Y ≤ X ∧ Y ≤ yb ∧ X < nyI (Y + 1) ∧ O = accI Y X - accI ya a) ∨ (X = b ∧ O = R))) (fun _ _ y _ _ _ => (yb + 1 - intOf y).toNat)
  case atStart =>
    have hy := HYA.out
    have hz := HYB.out
    have hle : ya ≤ yb := by
      by_cases e : ya ≤ yb
      · exact e
      · have := ny_mono (y := yb + 1) (z := ya) (by omega) (by omega)
        omega
    exact ⟨a, 0, ya, by omega, by omega, by omega, by omega, by omega, by omega, rfl, rfl, rfl, Or.inl ⟨hy.1, hle, hy.2, by omega⟩⟩
  case round =>
    obtain ⟨X, O, Y, hY0, hY1, hX0, hX1, hO0, hO1, rfl, rfl, rfl, HI⟩ := hrel
    by_cases hlt : X < b
    · obtain ⟨e1, e2, e3, e4⟩ := (show nyI Y ≤ X ∧ Y ≤ yb ∧ X < nyI (Y + 1) ∧ O = accI Y X - accI ya a by
        rcases HI.out with e | ⟨e, _⟩
        · exact e
        · omega)
      have hY9 : Y ≤ 2199 := by omega
      obtain ⟨E, hE⟩ : ∃ E, nyI (Y + 1) = E := ⟨_, rfl⟩
      have HOf : Hid (∃ P F, (∀ wx, Calls Try.prog 31 #[.int .i64 (Y + 1), .int .i64 1, .int .i64 1] wx fun e w' => e = .returned (.tuple #[.int .i64 P, .int .i64 F]) ∧ w' = wx) ∧ ((F = 0 ∧ P = E) ∨ (F = 50 ∧ E = 109573))) := by
        by_cases h9 : Y = 2199
        · refine ⟨0, 50, fun wx => refOf_bad _ _ _ wx (fun o => by have := o.2.1; omega), Or.inr ⟨rfl, ?_⟩⟩
          rw [← hE, h9]; exact ny_last
        · have ho : okD (Y + 1) 1 1 := ⟨by omega, by omega, by omega, by omega, by omega, by have := len_lo (Y + 1) 1; omega⟩
          refine ⟨_, _, fun wx => refOf_ok _ _ _ wx ho, Or.inl ⟨rfl, ?_⟩⟩
          unfold dayI
          rw [cum_first, ← hE]; omega
      obtain ⟨P, F, hof, hPF⟩ := HOf.out
      have HOf' := hideS hof
      clear hof HOf
      obtain ⟨n, hn, hnE⟩ : ∃ n, min E b - X = n ∧ ((E ≤ b ∧ n = E - X) ∨ (b < E ∧ n = b - X)) := ⟨_, rfl, by omega⟩
      have hn0 : 0 < n := by rw [hE] at e3; omega
      have HAc : Hid (O + (366 - lpI Y) * n = accI Y (X + n) - accI ya a) := by
        show _ = _
        rw [acc_add, e4]; omega
      have hle2 : X + n ≤ nyI (Y + 1) := by rw [hE]; omega
      have HBd : Hid (accI Y (X + n) ≤ 50000000 ∧ 0 ≤ accI ya a) := by
        have q1 := (acc_bd (y := Y) (n := X + n) (by omega) (by omega) (by omega) hle2).2
        have q2 := (acc_bd (y := ya) (n := a) (by omega) (by omega) HYA.out.1 (by have := HYA.out.2; omega)).1
        exact ⟨q1, q2⟩
      have HNx : Hid ((nyI (Y + 1) ≤ X + n ∧ Y + 1 ≤ yb ∧ X + n < nyI (Y + 1 + 1) ∧ O + (366 - lpI Y) * n = accI (Y + 1) (X + n) - accI ya a) ∨ (X + n = b ∧ O + (366 - lpI Y) * n = R)) := by
        rcases hnE with ⟨q1, q2⟩ | ⟨q1, q2⟩
        · have hXE : X + n = nyI (Y + 1) := by rw [hE]; omega
          have hYb : Y + 1 ≤ yb := by
            by_cases e : Y + 1 ≤ yb
            · exact e
            · have := HYB.out.2
              rw [show yb = Y by omega, hE] at this
              omega
          refine Or.inl ⟨by omega, hYb, ?_, ?_⟩
          · rw [hXE, ny_succ (y := Y + 1) (by omega)]
            have := lp_lo (Y + 1)
            omega
          · rw [HAc.out, hXE, acc_turn (by omega)]
        · have hYb : Y = yb := by
            by_cases e : Y = yb
            · exact e
            · have := ny_mono (y := Y + 1) (z := yb) (by omega) (by omega)
              have := HYB.out.1
              rw [hE] at *
              omega
          refine Or.inr ⟨by omega, ?_⟩
          rw [HAc.out, ← HR.out, show X + n = b by omega, hYb]
      rw [hE] at e3
      clear hE hle2 e4 HI e1
      rcases hPF with ⟨rfl, rfl⟩ | ⟨rfl, rfl⟩
      all_goals
        cases hl : leapB Y
        all_goals
          first | rw [lp_false hl, show (366 - 0 : Int) = 366 from rfl] at HAc HNx | rw [lp_true hl, show (366 - 1 : Int) = 365 from rfl] at HAc HNx
          rcases hnE with ⟨q1, q2⟩ | ⟨q1, q2⟩
          all_goals try (exfalso; omega)
          all_goals
            clear hn
            subst q2
            go_wp2_with (first | (go_at_call 31; refine (HOf'.out _).mono ?_; rintro e w2 ⟨rfl, rfl⟩) | (go_at_call 32; refine (refLeap_any _ _).mono ?_; rintro e w2 ⟨rfl, rfl⟩))
            go_round
            case rel => exact ⟨_, _, Y + 1, by omega, by omega, by omega, by omega, by omega, by have := HAc.out; have := HBd.out.1; have := HBd.out.2; omega, rfl, rfl, rfl, HNx⟩
            case measure => simp [intOf]; omega
    · have HE : Hid (O = R) := by
        rcases HI.out with ⟨e1, e2, e3, e4⟩ | ⟨_, e⟩
        · have hXb : X = b := by omega
          have hYb : Y = yb := by
            have h1 := HYB.out
            rcases Int.lt_trichotomy Y yb with q | q | q
            · have := ny_mono (y := Y + 1) (z := yb) (by omega) (by omega)
              omega
            · exact q
            · omega
          show _ = _
          rw [e4, ← HR.out, hXb, hYb]
        · exact e
      clear HI
      rcases (show Y ≤ 2199 ∨ ¬ Y ≤ 2199 by omega) with h9 | h9
      all_goals
        go_wp2_with fail
        go_ret
        obtain rfl := HE.out
        exact ⟨rfl, HB1.out⟩

theorem retI {k : IntKind} {a b : Int} (h : a = b) : Ending.returned (.int k a) = .returned (.int k b) := by rw [h]
theorem two_dates {w w1 w2 : World} {y m d : Int} {t : TypeId} (h1 : Below w.heap.size w w1) (h2 : Below (w1.alloc (.cells #[.int .i64 y, .int .i64 m, .int .i64 d] t)).heap.size (w1.alloc (.cells #[.int .i64 y, .int .i64 m, .int .i64 d] t)) w2) :
    (∀ o, (w2.alloc o).cell? ⟨w1.heap.size, 0, none⟩ = some (.int .i64 y)) ∧ (∀ o, (w2.alloc o).cell? ⟨w1.heap.size, 1, none⟩ = some (.int .i64 m)) ∧ (∀ o, (w2.alloc o).cell? ⟨w1.heap.size, 2, none⟩ = some (.int .i64 d)) ∧ Hid (∀ o, Below w.heap.size w (w2.alloc o)) := by
  have hz : w1.heap.size < w2.heap.size := by have := h2.size; simp at this; omega
  have hb : Below w.heap.size w w2 := h1.trans ((((Below.refl _ w1).alloc (Nat.le_refl _) _).trans (h2.mono (by simp))).mono h1.size)
  refine ⟨fun o => ?_, fun o => ?_, fun o => ?_, fun o => hb.alloc hb.size o⟩
  · rw [old_cell o ⟨w1.heap.size, 0, none⟩ hz, h2.cell (p := ⟨w1.heap.size, 0, none⟩) (by simp)]; simp
  · rw [old_cell o ⟨w1.heap.size, 1, none⟩ hz, h2.cell (p := ⟨w1.heap.size, 1, none⟩) (by simp)]; simp
  · rw [old_cell o ⟨w1.heap.size, 2, none⟩ hz, h2.cell (p := ⟨w1.heap.size, 2, none⟩) (by simp)]; simp

set_option maxHeartbeats 1600000 in
theorem refThirty_any (kind a b ya ma da yb mb db : Int) (w : World) (hA : IsD a ya ma da) (hB : IsD b yb mb db) :
    Calls Try.prog 19 #[.int .i64 kind, .int .i64 a, .int .i64 b] w fun e w' => e = .returned (.int .i64 (thirI kind ya ma da yb mb db)) ∧ Below w.heap.size w w' := by
  have HC := hideS (fun wx => refCiv_ok a ya ma da wx hA)
  have HC2 := hideS (fun wx => refCiv_ok b yb mb db wx hB)
  unfold dateV at HC HC2
  obtain ⟨y0, y1, m0, m1, d0, d1⟩ := hA.1
  obtain ⟨y2, y3, m2, m3, d2, d3⟩ := hB.1
  have d4 := len_hi ya ma
  have d5 := len_hi yb mb
  have d6 : da ≤ 31 := by omega
  have d7 : db ≤ 31 := by omega
  clear hA hB d1 d3 d4 d5
  obtain ⟨R, hR⟩ : ∃ R, thirI kind ya ma da yb mb db = R := ⟨_, rfl⟩
  rw [hR]
  have HR := hideS hR
  clear hR
  have hcase : ∃ d f, ((da ≤ 30 ∧ d = da) ∨ (30 < da ∧ d = 30)) ∧ (((kind = 5 ∨ (kind ≠ 5 ∧ d = 30)) ∧ ((db ≤ 30 ∧ f = db) ∨ (30 < db ∧ f = 30))) ∨ ((kind ≠ 5 ∧ d ≠ 30) ∧ f = db)) ∧ 360 * (yb - ya) + 30 * (mb - ma) + f - d = R := by
    have h1 := HR.out
    unfold thirI at h1
    refine ⟨min da 30, if kind = 5 ∨ min da 30 = 30 then min db 30 else db, by omega, ?_, h1⟩
    by_cases hk : kind = 5 ∨ min da 30 = 30
    · rw [if_pos hk]
      exact Or.inl ⟨by omega, by omega⟩
    · rw [if_neg hk]
      exact Or.inr ⟨by omega, rfl⟩
  obtain ⟨d, f, hd, hf, he⟩ := hcase
  have HE := hideS he
  clear he HR
  rcases hd with ⟨q1, rfl⟩ | ⟨q1, rfl⟩ <;> rcases hf with ⟨rfl | ⟨hk, hk2⟩, ⟨q2, rfl⟩ | ⟨q2, rfl⟩⟩ | ⟨⟨hk, hk2⟩, rfl⟩
  all_goals try (exfalso; omega)
  all_goals
    try (have hk5 : (kind == 5) = false := beq_eq_false_iff_ne.2 hk)
    try subst hk2
    go_enter Try.func19, Try.ntmps19
    go_wp2_with fail
    refine (HC.out _).mono ?_
    rintro e w1 ⟨rfl, hb1⟩
    have HB1 := hideS hb1
    clear hb1
    go_wp2_with fail
    refine (HC2.out _).mono ?_
    rintro e w2 ⟨rfl, hb2⟩
    obtain ⟨c0, c1, c2, HB2⟩ := two_dates (t := 63) HB1.out hb2
    clear hb2
    go_wp2_with fail
    go_ret
    refine ⟨retI (Eq.trans ?_ HE.out), HB2.out _⟩
    omega
end Go.Proofs.Ytcbbbkngjdlcjaa
