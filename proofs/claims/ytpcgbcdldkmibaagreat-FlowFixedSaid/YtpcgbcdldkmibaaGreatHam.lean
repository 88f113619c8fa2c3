/- The contract of the document's fit of an HFix rule, and of Check. The contracts of the document's Check, asked, open, Holiday and Open. The contracts of the document's in, Check and point of schedules. The contracts of the program's isBetween, isDay, isWeekend and moved. The contracts of the program's rules: may they be? -/
import Derived.Test.YtpcgbcdldkmibaaGreatHal
import Derived.Test.YtpcgbcdldkmibaaGreatHak
import Derived.Laws.BitsAllLaws
import Derived.Laws.Bits64b
namespace Go.Proofs.YtpcgbcdldkmibaaGreat
open Go.RowKit

theorem below_drewN' {B : Nat} {w w2 : World} {n : Nat} (hb : Below B w w2) : Below B w (w2.drewN n) := ⟨hb.os, hb.tape, hb.output, hb.size, hb.block⟩
def mostL : Array Value := #[.int .i64 0, .int .i64 31, .int .i64 29, .int .i64 31, .int .i64 30, .int .i64 31, .int .i64 30, .int .i64 31, .int .i64 31, .int .i64 30, .int .i64 31, .int .i64 30, .int .i64 31]
theorem old_cell {w : World} (o : Obj) (p : Addr) (h : p.block < w.heap.size) : (w.alloc o).cell? p = w.cell? p := ((Below.refl _ w).alloc (Nat.le_refl _) o).cell h
theorem new_cell {w : World} {v : Value} (cs : Array Value) (t : TypeId) (k : Nat) (h : cs[k]? = some v) {o : Obj} : ((w.alloc o).alloc (.cells cs t)).cell? ⟨w.heap.size + 1, k, none⟩ = some v := by
  rw [show w.heap.size + 1 = (w.alloc o).heap.size by simp]
  simp [h]
theorem new_cell0 (W : World) (cs : Array Value) (t : TypeId) (k : Nat) : (W.alloc (.cells cs t)).cell? ⟨W.heap.size, k, none⟩ = cs[k]? := by simp
theorem new_cell2 {w : World} {v : Option Value} (cs : Array Value) (t : TypeId) (o o' : Obj) {k : Nat} (h : cs[k]? = v) : (((w.alloc o).alloc o').alloc (.cells cs t)).cell? ⟨w.heap.size + 1 + 1, k, none⟩ = v := by
  have e := new_cell0 ((w.alloc o).alloc o') cs t k
  rw [show ((w.alloc o).alloc o').heap.size = w.heap.size + 1 + 1 by simp] at e
  rw [e, h]
theorem three_boxes (w : World) (kind mon day nth wd off fr to mv : Int) : ∃ wq,
    ((w.alloc (.cells #[.int .i64 kind, .int .i64 mon, .int .i64 day, .int .i64 nth, .int .i64 wd, .int .i64 off, .int .i64 fr, .int .i64 to, .int .i64 mv] 178)).alloc (.cells #[.int .i64 kind, .int .i64 mon, .int .i64 day, .int .i64 0, .int .i64 0, .int .i64 0, .int .i64 fr, .int .i64 to, .int .i64 mv] 178)).alloc (.cells #[.int .i64 0, .int .i64 31, .int .i64 29, .int .i64 31, .int .i64 30, .int .i64 31, .int .i64 30, .int .i64 31, .int .i64 31, .int .i64 30, .int .i64 31, .int .i64 30, .int .i64 31] 3) = wq ∧
    Hid (Below w.heap.size w wq) ∧
    wq.cell? ⟨w.heap.size, 0, none⟩ = some (.int .i64 kind) ∧ wq.cell? ⟨w.heap.size, 1, none⟩ = some (.int .i64 mon) ∧ wq.cell? ⟨w.heap.size, 2, none⟩ = some (.int .i64 day) ∧ wq.cell? ⟨w.heap.size, 3, none⟩ = some (.int .i64 nth) ∧ wq.cell? ⟨w.heap.size, 4, none⟩ = some (.int .i64 wd) ∧ wq.cell? ⟨w.heap.size, 5, none⟩ = some (.int .i64 off) ∧ wq.cell? ⟨w.heap.size, 6, none⟩ = some (.int .i64 fr) ∧ wq.cell? ⟨w.heap.size, 7, none⟩ = some (.int .i64 to) ∧ wq.cell? ⟨w.heap.size, 8, none⟩ = some (.int .i64 mv) ∧
    wq.cell? ⟨w.heap.size + 1, 0, none⟩ = some (.int .i64 kind) ∧ wq.cell? ⟨w.heap.size + 1, 1, none⟩ = some (.int .i64 mon) ∧ wq.cell? ⟨w.heap.size + 1, 2, none⟩ = some (.int .i64 day) ∧ wq.cell? ⟨w.heap.size + 1, 3, none⟩ = some (.int .i64 0) ∧ wq.cell? ⟨w.heap.size + 1, 4, none⟩ = some (.int .i64 0) ∧ wq.cell? ⟨w.heap.size + 1, 5, none⟩ = some (.int .i64 0) ∧ wq.cell? ⟨w.heap.size + 1, 6, none⟩ = some (.int .i64 fr) ∧ wq.cell? ⟨w.heap.size + 1, 7, none⟩ = some (.int .i64 to) ∧ wq.cell? ⟨w.heap.size + 1, 8, none⟩ = some (.int .i64 mv) ∧
    Hid (∀ k < 13, wq.cell? ⟨w.heap.size + 1 + 1, k, none⟩ = mostL[k]?) := by
  refine ⟨_, rfl, (((Below.refl w.heap.size w).alloc (Nat.le_refl _) _).alloc (by simp) _).alloc (by simp; omega) _, ?_⟩
  refine ⟨by rw [old_cell _ _ (by simp; omega), old_cell _ _ (by simp)]; simp, by rw [old_cell _ _ (by simp; omega), old_cell _ _ (by simp)]; simp, by rw [old_cell _ _ (by simp; omega), old_cell _ _ (by simp)]; simp, by rw [old_cell _ _ (by simp; omega), old_cell _ _ (by simp)]; simp, by rw [old_cell _ _ (by simp; omega), old_cell _ _ (by simp)]; simp, by rw [old_cell _ _ (by simp; omega), old_cell _ _ (by simp)]; simp, by rw [old_cell _ _ (by simp; omega), old_cell _ _ (by simp)]; simp, by rw [old_cell _ _ (by simp; omega), old_cell _ _ (by simp)]; simp, by rw [old_cell _ _ (by simp; omega), old_cell _ _ (by simp)]; simp, by rw [old_cell _ _ (by simp)]; exact new_cell _ _ 0 (by simp), by rw [old_cell _ _ (by simp)]; exact new_cell _ _ 1 (by simp), by rw [old_cell _ _ (by simp)]; exact new_cell _ _ 2 (by simp), by rw [old_cell _ _ (by simp)]; exact new_cell _ _ 3 (by simp), by rw [old_cell _ _ (by simp)]; exact new_cell _ _ 4 (by simp), by rw [old_cell _ _ (by simp)]; exact new_cell _ _ 5 (by simp), by rw [old_cell _ _ (by simp)]; exact new_cell _ _ 6 (by simp), by rw [old_cell _ _ (by simp)]; exact new_cell _ _ 7 (by simp), by rw [old_cell _ _ (by simp)]; exact new_cell _ _ 8 (by simp), fun k hk => ?_⟩
  rcases (show k = 0 ∨ k = 1 ∨ k = 2 ∨ k = 3 ∨ k = 4 ∨ k = 5 ∨ k = 6 ∨ k = 7 ∨ k = 8 ∨ k = 9 ∨ k = 10 ∨ k = 11 ∨ k = 12 by omega) with rfl | rfl | rfl | rfl | rfl | rfl | rfl | rfl | rfl | rfl | rfl | rfl | rfl <;> exact new_cell2 _ _ _ _ (by simp [mostL])

set_option maxRecDepth 10000 in
set_option maxHeartbeats 3200000 in
theorem refFit_oneA (mon day nth wd off fr to mv : Int) (w : World) (h : RngR fr to mv) (hz : ¬ (nth = 0 ∧ wd = 0 ∧ off = 0)) :
    Calls Tryz.prog 119 #[.agg #[.int .i64 1, .int .i64 mon, .int .i64 day, .int .i64 nth, .int .i64 wd, .int .i64 off, .int .i64 fr, .int .i64 to, .int .i64 mv]] w fun e w' => e = .returned (.bool false) ∧ Below w.heap.size w w' := by
  have HI := hideS (fun (n lo hi : Int) (wx : World) => refIn_any n lo hi wx)
  have ia := hideS (fun wx => HI.out fr 1900 2199 wx)
  have ib := hideS (fun wx => HI.out to fr 2199 wx)
  have ic := hideS (fun wx => HI.out mv 0 2 wx)
  rw [decide_eq_true ⟨h.1, h.2.1⟩] at ia
  rw [decide_eq_true ⟨h.2.2.1, h.2.2.2.1⟩] at ib
  rw [decide_eq_true ⟨h.2.2.2.2.1, h.2.2.2.2.2⟩] at ic
  clear h
  have hz' : (nth ≠ 0) ∨ (nth = 0 ∧ wd ≠ 0) ∨ (nth = 0 ∧ wd = 0 ∧ off ≠ 0) := by omega
  clear hz
  go_enter Tryz.func119, Tryz.ntmps119
  go_wp2_with (first | (go_at_call_of 114 (Value.int IntKind.i64 1900); refine (ia.out _).mono ?_; rintro e w1 ⟨rfl, rfl⟩) | (go_at_call_of 114 (Value.int IntKind.i64 2199); refine (ib.out _).mono ?_; rintro e w1 ⟨rfl, rfl⟩) | (go_at_call_of 114 (Value.int IntKind.i64 2); refine (ic.out _).mono ?_; rintro e w1 ⟨rfl, rfl⟩))
  obtain ⟨wq, hwq, HB, x0, x1, x2, x3, x4, x5, x6, x7, x8, z0, z1, z2, z3, z4, z5, z6, z7, z8, HM⟩ := three_boxes w 1 mon day nth wd off fr to mv
  rw [hwq]
  clear hwq
  rcases hz' with a | ⟨rfl, a⟩ | ⟨rfl, rfl, a⟩
  all_goals
    go_quiet (fail)
    go_wp2_with fail
    go_ret
    exact ⟨rfl, below_drewN' HB.out⟩

set_option maxRecDepth 10000 in
set_option maxHeartbeats 3200000 in
theorem refFit_oneB (mon day fr to mv : Int) (w : World) (h : RngR fr to mv) (hz : ¬ (1 ≤ mon ∧ mon ≤ 12)) :
    Calls Tryz.prog 119 #[.agg #[.int .i64 1, .int .i64 mon, .int .i64 day, .int .i64 0, .int .i64 0, .int .i64 0, .int .i64 fr, .int .i64 to, .int .i64 mv]] w fun e w' => e = .returned (.bool false) ∧ Below w.heap.size w w' := by
  have HI := hideS (fun (n lo hi : Int) (wx : World) => refIn_any n lo hi wx)
  have ia := hideS (fun wx => HI.out fr 1900 2199 wx)
  have ib := hideS (fun wx => HI.out to fr 2199 wx)
  have ic := hideS (fun wx => HI.out mv 0 2 wx)
  rw [decide_eq_true ⟨h.1, h.2.1⟩] at ia
  rw [decide_eq_true ⟨h.2.2.1, h.2.2.2.1⟩] at ib
  rw [decide_eq_true ⟨h.2.2.2.2.1, h.2.2.2.2.2⟩] at ic
  clear h
  have im := hideS (fun wx => HI.out mon 1 12 wx)
  rw [decide_eq_false hz] at im
  clear hz
  go_enter Tryz.func119, Tryz.ntmps119
  go_wp2_with (first | (go_at_call_of 114 (Value.int IntKind.i64 1900); refine (ia.out _).mono ?_; rintro e w1 ⟨rfl, rfl⟩) | (go_at_call_of 114 (Value.int IntKind.i64 2199); refine (ib.out _).mono ?_; rintro e w1 ⟨rfl, rfl⟩) | (go_at_call_of 114 (Value.int IntKind.i64 2); refine (ic.out _).mono ?_; rintro e w1 ⟨rfl, rfl⟩))
  obtain ⟨wq, hwq, HB, x0, x1, x2, x3, x4, x5, x6, x7, x8, z0, z1, z2, z3, z4, z5, z6, z7, z8, HM⟩ := three_boxes w 1 mon day 0 0 0 fr to mv
  rw [hwq]
  clear hwq
  go_quiet ((go_at_call 114; exact Calls.quiet_of_same (im.out _)))
  go_wp2_with fail
  go_ret
  exact ⟨rfl, below_drewN' HB.out⟩

theorem most_at {m : Int} (h1 : 1 ≤ m) (h2 : m ≤ 12) : mostL[m.toNat]? = some (.int .i64 (mostI m)) := by
  rcases month_cases h1 h2 with rfl | rfl | rfl | rfl | rfl | rfl | rfl | rfl | rfl | rfl | rfl | rfl <;> rfl

set_option maxRecDepth 10000 in
set_option maxHeartbeats 3200000 in
theorem refFit_oneC (mon day fr to mv : Int) (w : World) (h : RngR fr to mv) (hm1 : 1 ≤ mon) (hm2 : mon ≤ 12) :
    Calls Tryz.prog 119 #[.agg #[.int .i64 1, .int .i64 mon, .int .i64 day, .int .i64 0, .int .i64 0, .int .i64 0, .int .i64 fr, .int .i64 to, .int .i64 mv]] w fun e w' => e = .returned (.bool (decide (1 ≤ day ∧ day ≤ mostI mon))) ∧ Below w.heap.size w w' := by
  have HI := hideS (fun (n lo hi : Int) (wx : World) => refIn_any n lo hi wx)
  have ia := hideS (fun wx => HI.out fr 1900 2199 wx)
  have ib := hideS (fun wx => HI.out to fr 2199 wx)
  have ic := hideS (fun wx => HI.out mv 0 2 wx)
  rw [decide_eq_true ⟨h.1, h.2.1⟩] at ia
  rw [decide_eq_true ⟨h.2.2.1, h.2.2.2.1⟩] at ib
  rw [decide_eq_true ⟨h.2.2.2.2.1, h.2.2.2.2.2⟩] at ic
  clear h
  have im := hideS (fun wx => HI.out mon 1 12 wx)
  rw [decide_eq_true ⟨hm1, hm2⟩] at im
  have id := hideS (fun wx => HI.out day 1 (mostI mon) wx)
  have hcell := most_at hm1 hm2
  have ht : mon.toNat < 13 := by omega
  generalize decide (1 ≤ day ∧ day ≤ mostI mon) = R at *
  generalize mostI mon = L at *
  obtain ⟨k, hk⟩ : ∃ k : Nat, mon = k := ⟨mon.toNat, by omega⟩
  have hkt : mon.toNat = k := by omega
  rw [hkt] at hcell ht
  clear hkt
  go_enter Tryz.func119, Tryz.ntmps119
  have HK := hideS hk
  clear hk
  go_wp2_with (first | (go_at_call_of 114 (Value.int IntKind.i64 1900); refine (ia.out _).mono ?_; rintro e w1 ⟨rfl, rfl⟩) | (go_at_call_of 114 (Value.int IntKind.i64 2199); refine (ib.out _).mono ?_; rintro e w1 ⟨rfl, rfl⟩) | (go_at_call_of 114 (Value.int IntKind.i64 2); refine (ic.out _).mono ?_; rintro e w1 ⟨rfl, rfl⟩))
  obtain ⟨wq, hwq, HB, x0, x1, x2, x3, x4, x5, x6, x7, x8, z0, z1, z2, z3, z4, z5, z6, z7, z8, HM⟩ := three_boxes w 1 mon day 0 0 0 fr to mv
  rw [hwq]
  clear hwq
  have hc := (HM.out k ht).trans hcell
  obtain rfl := HK.out
  clear hcell HM
  go_quiet (first | (go_at_call_of 114 (Value.int IntKind.i64 12); exact Calls.quiet_of_same (im.out _)) | (go_at_call 114; exact Calls.quiet_of_same (id.out _)))
  go_wp2_with fail
  go_ret
  exact ⟨rfl, below_drewN' HB.out⟩

theorem refFit_any (r : Rul) (w : World) :
    Calls Tryz.prog 119 #[.agg #[.int .i64 r.kind, .int .i64 r.mon, .int .i64 r.day, .int .i64 r.nth, .int .i64 r.wd, .int .i64 r.off, .int .i64 r.fr, .int .i64 r.to, .int .i64 r.mv]] w fun e w' => e = .returned (.bool (fitB r)) ∧ Below w.heap.size w w' := by
  obtain ⟨kind, mon, day, nth, wd, off, fr, to, mv⟩ := r
  dsimp only
  by_cases k4 : kind = 4
  · subst k4; exact refFit_four mon day nth wd off fr to mv w
  · by_cases hr : RngR fr to mv
    · by_cases k1 : kind = 1
      · subst k1
        rw [fit1 hr]
        by_cases hz : nth = 0 ∧ wd = 0 ∧ off = 0
        · obtain ⟨rfl, rfl, rfl⟩ := hz
          by_cases hm : 1 ≤ mon ∧ mon ≤ 12
          · rw [show decide ((0 : Int) = 0 ∧ (0 : Int) = 0 ∧ (0 : Int) = 0 ∧ 1 ≤ mon ∧ mon ≤ 12 ∧ 1 ≤ day ∧ day ≤ mostI mon) = decide (1 ≤ day ∧ day ≤ mostI mon) from decide_eq_decide.2 (by omega)]
            exact refFit_oneC mon day fr to mv w hr hm.1 hm.2
          · rw [decide_eq_false (fun a => hm ⟨a.2.2.2.1, a.2.2.2.2.1⟩)]
            exact refFit_oneB mon day fr to mv w hr hm
        · rw [decide_eq_false (fun a => hz ⟨a.1, a.2.1, a.2.2.1⟩)]
          exact refFit_oneA mon day nth wd off fr to mv w hr hz
      · exact refFit_rest kind mon day nth wd off fr to mv w k1 k4 hr
    · exact refFit_rng kind mon day nth wd off fr to mv w k4 hr
end Go.Proofs.YtpcgbcdldkmibaaGreat
namespace Go.Proofs.YtpcgbcdldkmibaaGreat
open Go.RowKit

set_option maxHeartbeats 1600000 in
theorem refCheck_loop (W : Int) (p : Option Addr) (b off c : Nat) (rs : List Rul) (K : Nat) (A B : Int) (w : World) (w0 : 0 ≤ W ∧ W ≤ 126) (hs : RSrc w p b off rs) (hl : rs.length ≤ 64) (hK : K ≤ rs.length) (hf : ∀ j < K, fitB (rs.getD j rul0) = true)
    (hE : (K = rs.length ∧ A = 0 ∧ B = 0) ∨ (K < rs.length ∧ fitB (rs.getD K rul0) = false ∧ A = 60 ∧ B = K)) :
    Calls Tryz.prog 66 #[.agg #[.int .i64 W, .slice p rs.length c]] w fun e w' => e = .returned (.tuple #[.int .i64 A, .int .i64 B]) ∧ Below w.heap.size w w' := by
  have hi := fun wx => refIn_any W 0 126 wx
  rw [decide_eq_true w0] at hi
  have HI := hideS hi
  clear hi w0
  have HS := hideS hs
  have HF := hideS hf
  have HE := hideS hE
  clear hs hf hE
  obtain ⟨N, hN⟩ : ∃ N, rs.length = N := ⟨_, rfl⟩
  have HN := hideS hN
  rw [hN] at hl hK ⊢
  rw [hN] at HE
  clear hN
  go_enter Tryz.func66, Tryz.ntmps66
  go_wp2_with (go_at_call 114; refine (HI.out _).mono ?_; rintro e w1 ⟨rfl, rfl⟩)
  have HB0 : Hid (CBox w W (.slice p N c) (w.alloc (.cells #[.int .i64 W, .slice p N c] 25))) := Below.refl _ _
  go_loopw [4] (fun i wr => ∃ (k : Nat), k ≤ K ∧ i = .int .i64 k ∧ Hid (CBox w W (.slice p N c) wr)) (fun i _ => N - (intOf i).toNat)
  case atStart => exact ⟨0, by omega, rfl, HB0⟩
  case round =>
    obtain ⟨k, hk, rfl, HB⟩ := hrel
    obtain ⟨c0, c1⟩ := cal_cells HB.out
    by_cases hlt : k < N
    · have hx : k < rs.length := by rw [HN.out]; exact hlt
      obtain rfl := HS.out.at_ (by omega)
      have hrc := (HS.out.cell k hx).below HB.out.below (HS.out.lt (by omega))
      obtain ⟨r, hr⟩ : ∃ r, rs.getD k rul0 = r := ⟨_, rfl⟩
      rw [hr] at hrc
      have HRk := hideS hr
      clear hr hx
      obtain ⟨g0, g1, g2, g3, g4, g5, g6, g7, g8⟩ := hrc
      have hft := fun wx => refFit_any r wx
      by_cases hkK : k < K
      · have e1 := HF.out k hkK
        rw [HRk.out] at e1
        rw [e1] at hft
        have HFt := hideS hft
        clear hft e1
        obtain ⟨kind, mon, day, nth, wd, offs, fr, to, mv⟩ := r
        dsimp only at *
        go_wp2_with (go_at_call 119; refine (HFt.out _).mono ?_; rintro e w2 ⟨rfl, hb2⟩; have HB2 := hideS (HB.out.step hb2); clear hb2)
        go_roundw
        case rel => exact ⟨k + 1, by omega, by go_num, HB2⟩
        case measure => simp [intOf]; omega
      · obtain rfl : k = K := by omega
        have hEE : fitB r = false ∧ A = 60 ∧ B = k := by
          rcases HE.out with ⟨a, _⟩ | ⟨_, a, b⟩
          · omega
          · rw [HRk.out] at a; exact ⟨a, b⟩
        rw [hEE.1] at hft
        have HFt := hideS hft
        have HA := hideS hEE.2
        clear hft hEE
        obtain ⟨kind, mon, day, nth, wd, offs, fr, to, mv⟩ := r
        dsimp only at *
        go_wp2_with (go_at_call 119; refine (HFt.out _).mono ?_; rintro e w2 ⟨rfl, hb2⟩; have HB2 := hideS (HB.out.step hb2); clear hb2)
        go_ret2
        obtain ⟨rfl, rfl⟩ := HA.out
        exact ⟨rfl, HB2.out.below⟩
    · have HA : Hid (A = 0 ∧ B = 0) := by
        rcases HE.out with ⟨_, a⟩ | ⟨a, _⟩
        · exact a
        · omega
      have hge : ¬ (k : Int) < N := by omega
      go_wp2_with fail
      go_ret2
      obtain ⟨rfl, rfl⟩ := HA.out
      exact ⟨rfl, HB.out.below⟩

set_option maxHeartbeats 400000 in
theorem refCheck_any (W : Int) (p : Option Addr) (b off c : Nat) (rs : List Rul) (A B : Int) (w : World) (h : ChkR W rs A B) (hs : RSrc w p b off rs) (hl : rs.length ≤ 1000000) :
    Calls Tryz.prog 66 #[.agg #[.int .i64 W, .slice p rs.length c]] w fun e w' => e = .returned (.tuple #[.int .i64 A, .int .i64 B]) ∧ Below w.heap.size w w' := by
  cases h with
  | long h =>
    generalize rs.length = N at *
    have h' : (64 : Int) < N := by omega
    clear hs h
    go_enter Tryz.func66, Tryz.ntmps66
    go_wp2_with fail
    go_ret2
    exact ⟨rfl, (Below.refl w.heap.size w).alloc (Nat.le_refl _) _⟩
  | week h h2 =>
    have hi := fun wx => refIn_any W 0 126 wx
    rw [decide_eq_false h2] at hi
    have HI := hideS hi
    generalize rs.length = N at *
    have h' : ¬ (64 : Int) < N := by omega
    clear hs h hi h2
    go_enter Tryz.func66, Tryz.ntmps66
    go_wp2_with (go_at_call 114; refine (HI.out _).mono ?_; rintro e w1 ⟨rfl, rfl⟩)
    go_ret2
    exact ⟨rfl, (Below.refl w.heap.size w).alloc (Nat.le_refl _) _⟩
  | rule k h1 h2 h3 h4 h5 => exact refCheck_loop W p b off c rs k 60 k w h2 hs h1 (by omega) h5 (Or.inr ⟨h3, h4, rfl, rfl⟩)
  | ok h => exact refCheck_loop W p b off c rs rs.length 0 0 w ⟨h.w0, h.w1⟩ hs h.len (Nat.le_refl _) (fun j hj => h.fit _ (getD_mem hj)) (Or.inl ⟨rfl, rfl, rfl⟩)
end Go.Proofs.YtpcgbcdldkmibaaGreat
namespace Go.Proofs.YtpcgbcdldkmibaaGreat
open Go.RowKit

theorem ref8In_any (n lo hi : Int) (w : World) :
    Calls Tryz.prog 159 #[.int .i64 n, .int .i64 lo, .int .i64 hi] w fun e w' => e = .returned (.bool (decide (lo ≤ n ∧ n ≤ hi))) ∧ w' = w := by
  by_cases h1 : lo ≤ n <;> by_cases h2 : n ≤ hi
  all_goals
    first | rw [decide_eq_true (⟨h1, h2⟩ : lo ≤ n ∧ n ≤ hi)] | rw [decide_eq_false (fun h : lo ≤ n ∧ n ≤ hi => by omega)]
    go_enter Tryz.func159, Tryz.ntmps159
    go_wp2
    go_ret
    exact ⟨rfl, rfl⟩

def SBox (w : World) (s : Spc) (W : Int) (v : Value) (wr : World) : Prop := Below (w.heap.size + 1) (w.alloc (.cells #[.int .i64 s.st, .int .i64 s.en, .int .i64 s.n, .int .i64 s.unit, .int .i64 s.stub, .int .i64 s.roll, .int .i64 s.conv, .int .i64 s.lag, .int .i64 W, v] 27)) wr
theorem SBox.step {w wr w' : World} {s : Spc} {W : Int} {v : Value} (h : SBox w s W v wr) (hb : Below wr.heap.size wr w') : SBox w s W v w' :=
  Below.trans h (hb.mono (by have := Below.size h; simp at this; omega))
theorem SBox.below {w wr : World} {s : Spc} {W : Int} {v : Value} (h : SBox w s W v wr) : Below w.heap.size w wr :=
  ((Below.refl w.heap.size w).alloc (Nat.le_refl _) _).trans (Below.mono h (by omega))
theorem SBox.zero (w : World) (s : Spc) (W : Int) (v : Value) : SBox w s W v (w.alloc (.cells #[.int .i64 s.st, .int .i64 s.en, .int .i64 s.n, .int .i64 s.unit, .int .i64 s.stub, .int .i64 s.roll, .int .i64 s.conv, .int .i64 s.lag, .int .i64 W, v] 27)) := Below.refl _ _
structure SCells (w : World) (s : Spc) (W : Int) (v : Value) (wr : World) : Prop where
  c0 : wr.cell? ⟨w.heap.size, 0, none⟩ = some (.int .i64 s.st)
  c1 : wr.cell? ⟨w.heap.size, 1, none⟩ = some (.int .i64 s.en)
  c2 : wr.cell? ⟨w.heap.size, 2, none⟩ = some (.int .i64 s.n)
  c3 : wr.cell? ⟨w.heap.size, 3, none⟩ = some (.int .i64 s.unit)
  c4 : wr.cell? ⟨w.heap.size, 4, none⟩ = some (.int .i64 s.stub)
  c5 : wr.cell? ⟨w.heap.size, 5, none⟩ = some (.int .i64 s.roll)
  c6 : wr.cell? ⟨w.heap.size, 6, none⟩ = some (.int .i64 s.conv)
  c7 : wr.cell? ⟨w.heap.size, 7, none⟩ = some (.int .i64 s.lag)
  c8 : wr.cell? ⟨w.heap.size, 8, none⟩ = some (.int .i64 W)
  c9 : wr.cell? ⟨w.heap.size, 9, none⟩ = some v
theorem SBox.cells {w wr : World} {s : Spc} {W : Int} {v : Value} (h : SBox w s W v wr) : SCells w s W v wr := by
  have e : ∀ j, wr.cell? ⟨w.heap.size, j, none⟩ = (#[.int .i64 s.st, .int .i64 s.en, .int .i64 s.n, .int .i64 s.unit, .int .i64 s.stub, .int .i64 s.roll, .int .i64 s.conv, .int .i64 s.lag, .int .i64 W, v] : Array Value)[j]? := fun j => by
    rw [Below.cell h (p := ⟨w.heap.size, j, none⟩) (by simp)]
    exact new_cell0 w _ _ j
  exact ⟨e 0, e 1, e 2, e 3, e 4, e 5, e 6, e 7, e 8, e 9⟩

set_option maxHeartbeats 3200000 in
theorem ref8Check_range (s : Spc) (W : Int) (v : Value) (w : World) (h : ¬ (isDayP s.st ∧ isDayP s.en)) :
    Calls Tryz.prog 112 #[.agg #[.int .i64 s.st, .int .i64 s.en, .int .i64 s.n, .int .i64 s.unit, .int .i64 s.stub, .int .i64 s.roll, .int .i64 s.conv, .int .i64 s.lag, .int .i64 W, v]] w fun e w' => e = .returned (.int .i64 51) ∧ Below w.heap.size w w' := by
  have HB := hideS (SBox.zero w s W v).below
  obtain ⟨st, en, n, unit, stub, roll, conv, lag⟩ := s
  dsimp only at *
  have H1 := hideS (fun wx => ref8In_any st 0 109572 wx)
  have H2 := hideS (fun wx => ref8In_any en 0 109572 wx)
  by_cases a : 0 ≤ st ∧ st ≤ 109572
  · rw [decide_eq_true a] at H1
    rw [decide_eq_false (fun b : 0 ≤ en ∧ en ≤ 109572 => h ⟨a, b⟩)] at H2
    clear a h
    go_enter Tryz.func112, Tryz.ntmps112
    go_wp2_with fail
    refine (H1.out _).mono ?_
    rintro e w1 ⟨rfl, rfl⟩
    go_wp2_with fail
    refine (H2.out _).mono ?_
    rintro e w1 ⟨rfl, rfl⟩
    go_wp2_with fail
    go_ret
    exact ⟨rfl, HB.out⟩
  · rw [decide_eq_false a] at H1
    clear a h
    go_enter Tryz.func112, Tryz.ntmps112
    go_wp2_with (go_at_call 159; refine (H1.out _).mono ?_; rintro e w1 ⟨rfl, rfl⟩)
    go_ret
    exact ⟨rfl, HB.out⟩

structure InH (st en n unit stub roll conv lag : Int) : Prop where
  hs : ∀ wx, Calls Tryz.prog 159 #[.int .i64 st, .int .i64 0, .int .i64 109572] wx fun e w' => e = .returned (.bool (decide (0 ≤ st ∧ st ≤ 109572))) ∧ wx = w'
  he : ∀ wx, Calls Tryz.prog 159 #[.int .i64 en, .int .i64 0, .int .i64 109572] wx fun e w' => e = .returned (.bool (decide (0 ≤ en ∧ en ≤ 109572))) ∧ wx = w'
  hn : ∀ wx, Calls Tryz.prog 159 #[.int .i64 n, .int .i64 1, .int .i64 1200] wx fun e w' => e = .returned (.bool (decide (1 ≤ n ∧ n ≤ 1200))) ∧ wx = w'
  hu : ∀ wx, Calls Tryz.prog 159 #[.int .i64 unit, .int .i64 1, .int .i64 4] wx fun e w' => e = .returned (.bool (decide (1 ≤ unit ∧ unit ≤ 4))) ∧ wx = w'
  ht : ∀ wx, Calls Tryz.prog 159 #[.int .i64 stub, .int .i64 1, .int .i64 4] wx fun e w' => e = .returned (.bool (decide (1 ≤ stub ∧ stub ≤ 4))) ∧ wx = w'
  hr : ∀ wx, Calls Tryz.prog 159 #[.int .i64 roll, .int .i64 0, .int .i64 2] wx fun e w' => e = .returned (.bool (decide (0 ≤ roll ∧ roll ≤ 2))) ∧ wx = w'
  hc : ∀ wx, Calls Tryz.prog 159 #[.int .i64 conv, .int .i64 0, .int .i64 4] wx fun e w' => e = .returned (.bool (decide (0 ≤ conv ∧ conv ≤ 4))) ∧ wx = w'
  hl : ∀ wx, Calls Tryz.prog 159 #[.int .i64 lag, .int .i64 0, .int .i64 30] wx fun e w' => e = .returned (.bool (decide (0 ≤ lag ∧ lag ≤ 30))) ∧ wx = w'
theorem inH (st en n unit stub roll conv lag : Int) : InH st en n unit stub roll conv lag :=
  have t : ∀ x lo hi wx, Calls Tryz.prog 159 #[.int .i64 x, .int .i64 lo, .int .i64 hi] wx fun e w' => e = .returned (.bool (decide (lo ≤ x ∧ x ≤ hi))) ∧ wx = w' := fun x lo hi wx => (ref8In_any x lo hi wx).mono fun _ _ ⟨a, b⟩ => ⟨a, b.symm⟩
  ⟨fun wx => t _ _ _ wx, fun wx => t _ _ _ wx, fun wx => t _ _ _ wx, fun wx => t _ _ _ wx, fun wx => t _ _ _ wx, fun wx => t _ _ _ wx, fun wx => t _ _ _ wx, fun wx => t _ _ _ wx⟩

set_option maxHeartbeats 6400000 in
theorem ref8Check_spec (s : Spc) (W : Int) (v : Value) (w : World) (h0 : isDayP s.st) (h1 : isDayP s.en) (h : ¬ SpcOk s) :
    Calls Tryz.prog 112 #[.agg #[.int .i64 s.st, .int .i64 s.en, .int .i64 s.n, .int .i64 s.unit, .int .i64 s.stub, .int .i64 s.roll, .int .i64 s.conv, .int .i64 s.lag, .int .i64 W, v]] w fun e w' => e = .returned (.int .i64 80) ∧ Below w.heap.size w w' := by
  have HB := hideS (SBox.zero w s W v).below
  have hc := spc_cases h0 h1 h
  clear h
  obtain ⟨st, en, n, unit, stub, roll, conv, lag⟩ := s
  dsimp only at *
  obtain ⟨hs, he, hn, hu, ht, hr, hcv, hlg⟩ := inH st en n unit stub roll conv lag
  have hs := hideS hs
  have he := hideS he
  have hn := hideS hn
  have hu := hideS hu
  have ht := hideS ht
  have hr := hideS hr
  have hcv := hideS hcv
  have hlg := hideS hlg
  rw [decide_eq_true (⟨h0.1, h0.2⟩ : 0 ≤ st ∧ st ≤ 109572)] at hs
  rw [decide_eq_true (⟨h1.1, h1.2⟩ : 0 ≤ en ∧ en ≤ 109572)] at he
  clear h0 h1
  rcases hc with a | ⟨a, b⟩ | ⟨a, b, c⟩ | ⟨a, b, c, d⟩ | ⟨a, b, c, d, f⟩ | ⟨a, b, c, d, f, g, g2⟩ | ⟨a, b, c, d, f, g, k⟩ | ⟨a, b, c, d, f, g, k, l⟩
  · go_enter Tryz.func112, Tryz.ntmps112
    go_wp2_with fail
    refine (hs.out _).mono ?_
    rintro e w1 ⟨rfl, rfl⟩
    go_wp2_with fail
    refine (he.out _).mono ?_
    rintro e w1 ⟨rfl, rfl⟩
    go_wp2_with fail
    go_ret
    exact ⟨rfl, HB.out⟩
  · rw [decide_eq_false b] at hn
    clear b
    have a' : ¬ en ≤ st := by omega
    go_enter Tryz.func112, Tryz.ntmps112
    go_wp2_with fail
    refine (hs.out _).mono ?_
    rintro e w1 ⟨rfl, rfl⟩
    go_wp2_with fail
    refine (he.out _).mono ?_
    rintro e w1 ⟨rfl, rfl⟩
    go_wp2_with fail
    refine (hn.out _).mono ?_
    rintro e w1 ⟨rfl, rfl⟩
    go_wp2_with fail
    go_ret
    exact ⟨rfl, HB.out⟩
  · rw [decide_eq_true b] at hn
    rw [decide_eq_false c] at hu
    clear b c
    have a' : ¬ en ≤ st := by omega
    go_enter Tryz.func112, Tryz.ntmps112
    go_wp2_with fail
    refine (hs.out _).mono ?_
    rintro e w1 ⟨rfl, rfl⟩
    go_wp2_with fail
    refine (he.out _).mono ?_
    rintro e w1 ⟨rfl, rfl⟩
    go_wp2_with fail
    refine (hn.out _).mono ?_
    rintro e w1 ⟨rfl, rfl⟩
    go_wp2_with fail
    refine (hu.out _).mono ?_
    rintro e w1 ⟨rfl, rfl⟩
    go_wp2_with fail
    go_ret
    exact ⟨rfl, HB.out⟩
  · rw [decide_eq_true b] at hn
    rw [decide_eq_true c] at hu
    rw [decide_eq_false d] at ht
    clear b c d
    have a' : ¬ en ≤ st := by omega
    go_enter Tryz.func112, Tryz.ntmps112
    go_wp2_with fail
    refine (hs.out _).mono ?_
    rintro e w1 ⟨rfl, rfl⟩
    go_wp2_with fail
    refine (he.out _).mono ?_
    rintro e w1 ⟨rfl, rfl⟩
    go_wp2_with fail
    refine (hn.out _).mono ?_
    rintro e w1 ⟨rfl, rfl⟩
    go_wp2_with fail
    refine (hu.out _).mono ?_
    rintro e w1 ⟨rfl, rfl⟩
    go_wp2_with fail
    refine (ht.out _).mono ?_
    rintro e w1 ⟨rfl, rfl⟩
    go_wp2_with fail
    go_ret
    exact ⟨rfl, HB.out⟩
  · rw [decide_eq_true b] at hn
    rw [decide_eq_true c] at hu
    rw [decide_eq_true d] at ht
    rw [decide_eq_false f] at hr
    clear b c d f
    have a' : ¬ en ≤ st := by omega
    go_enter Tryz.func112, Tryz.ntmps112
    go_wp2_with fail
    refine (hs.out _).mono ?_
    rintro e w1 ⟨rfl, rfl⟩
    go_wp2_with fail
    refine (he.out _).mono ?_
    rintro e w1 ⟨rfl, rfl⟩
    go_wp2_with fail
    refine (hn.out _).mono ?_
    rintro e w1 ⟨rfl, rfl⟩
    go_wp2_with fail
    refine (hu.out _).mono ?_
    rintro e w1 ⟨rfl, rfl⟩
    go_wp2_with fail
    refine (ht.out _).mono ?_
    rintro e w1 ⟨rfl, rfl⟩
    go_wp2_with fail
    refine (hr.out _).mono ?_
    rintro e w1 ⟨rfl, rfl⟩
    go_wp2_with fail
    go_ret
    exact ⟨rfl, HB.out⟩
  · rw [decide_eq_true b] at hn
    rw [decide_eq_true c] at hu
    rw [decide_eq_true d] at ht
    rw [decide_eq_true f] at hr
    clear b c d f
    have a' : ¬ en ≤ st := by omega
    have g' : (roll != 0) = true := bne_iff_ne.2 g
    go_enter Tryz.func112, Tryz.ntmps112
    go_wp2_with fail
    refine (hs.out _).mono ?_
    rintro e w1 ⟨rfl, rfl⟩
    go_wp2_with fail
    refine (he.out _).mono ?_
    rintro e w1 ⟨rfl, rfl⟩
    go_wp2_with fail
    refine (hn.out _).mono ?_
    rintro e w1 ⟨rfl, rfl⟩
    go_wp2_with fail
    refine (hu.out _).mono ?_
    rintro e w1 ⟨rfl, rfl⟩
    go_wp2_with fail
    refine (ht.out _).mono ?_
    rintro e w1 ⟨rfl, rfl⟩
    go_wp2_with fail
    refine (hr.out _).mono ?_
    rintro e w1 ⟨rfl, rfl⟩
    go_wp2_with fail
    go_ret
    exact ⟨rfl, HB.out⟩
  · rw [decide_eq_true b] at hn
    rw [decide_eq_true c] at hu
    rw [decide_eq_true d] at ht
    rw [decide_eq_true f] at hr
    rw [decide_eq_false k] at hcv
    clear b c d f k
    have a' : ¬ en ≤ st := by omega
    have g' : (roll != 0) = false ∨ ((roll != 0) = true ∧ ¬ unit < 3) := by
      by_cases e : roll = 0
      · exact Or.inl (by rw [e]; rfl)
      · exact Or.inr ⟨bne_iff_ne.2 e, by omega⟩
    clear g
    rcases g' with g | ⟨g, g2⟩
    all_goals
      go_enter Tryz.func112, Tryz.ntmps112
      go_wp2_with fail
      refine (hs.out _).mono ?_
      rintro e w1 ⟨rfl, rfl⟩
      go_wp2_with fail
      refine (he.out _).mono ?_
      rintro e w1 ⟨rfl, rfl⟩
      go_wp2_with fail
      refine (hn.out _).mono ?_
      rintro e w1 ⟨rfl, rfl⟩
      go_wp2_with fail
      refine (hu.out _).mono ?_
      rintro e w1 ⟨rfl, rfl⟩
      go_wp2_with fail
      refine (ht.out _).mono ?_
      rintro e w1 ⟨rfl, rfl⟩
      go_wp2_with fail
      refine (hr.out _).mono ?_
      rintro e w1 ⟨rfl, rfl⟩
      go_wp2_with fail
      refine (hcv.out _).mono ?_
      rintro e w1 ⟨rfl, rfl⟩
      go_wp2_with fail
      go_ret
      exact ⟨rfl, HB.out⟩
  · rw [decide_eq_true b] at hn
    rw [decide_eq_true c] at hu
    rw [decide_eq_true d] at ht
    rw [decide_eq_true f] at hr
    rw [decide_eq_true k] at hcv
    rw [decide_eq_false l] at hlg
    clear b c d f k l
    have a' : ¬ en ≤ st := by omega
    have g' : (roll != 0) = false ∨ ((roll != 0) = true ∧ ¬ unit < 3) := by
      by_cases e : roll = 0
      · exact Or.inl (by rw [e]; rfl)
      · exact Or.inr ⟨bne_iff_ne.2 e, by omega⟩
    clear g
    rcases g' with g | ⟨g, g2⟩
    all_goals
      go_enter Tryz.func112, Tryz.ntmps112
      go_wp2_with fail
      refine (hs.out _).mono ?_
      rintro e w1 ⟨rfl, rfl⟩
      go_wp2_with fail
      refine (he.out _).mono ?_
      rintro e w1 ⟨rfl, rfl⟩
      go_wp2_with fail
      refine (hn.out _).mono ?_
      rintro e w1 ⟨rfl, rfl⟩
      go_wp2_with fail
      refine (hu.out _).mono ?_
      rintro e w1 ⟨rfl, rfl⟩
      go_wp2_with fail
      refine (ht.out _).mono ?_
      rintro e w1 ⟨rfl, rfl⟩
      go_wp2_with fail
      refine (hr.out _).mono ?_
      rintro e w1 ⟨rfl, rfl⟩
      go_wp2_with fail
      refine (hcv.out _).mono ?_
      rintro e w1 ⟨rfl, rfl⟩
      go_wp2_with fail
      refine (hlg.out _).mono ?_
      rintro e w1 ⟨rfl, rfl⟩
      go_wp2_with fail
      go_ret
      exact ⟨rfl, HB.out⟩

set_option maxHeartbeats 3200000 in
theorem ref8Check_cal (s : Spc) (W A B : Int) (v : Value) (w : World) (h : SpcOk s) (HC : Hid (∀ wx, Below w.heap.size w wx → Calls Tryz.prog 66 #[.agg #[.int .i64 W, v]] wx fun e w' => e = .returned (.tuple #[.int .i64 A, .int .i64 B]) ∧ Below wx.heap.size wx w')) :
    Calls Tryz.prog 112 #[.agg #[.int .i64 s.st, .int .i64 s.en, .int .i64 s.n, .int .i64 s.unit, .int .i64 s.stub, .int .i64 s.roll, .int .i64 s.conv, .int .i64 s.lag, .int .i64 W, v]] w fun e w' => e = .returned (.int .i64 A) ∧ Below w.heap.size w w' := by
  have HB := hideS (SBox.zero w s W v).below
  obtain ⟨h0, h1, lt, n1, n2, u1, u2, t1, t2, r1, r2, ru, c1, c2, l1, l2⟩ := h
  obtain ⟨st, en, n, unit, stub, roll, conv, lag⟩ := s
  dsimp only at *
  obtain ⟨hs, he, hn, hu, ht, hr, hcv, hlg⟩ := inH st en n unit stub roll conv lag
  have hs := hideS hs
  have he := hideS he
  have hn := hideS hn
  have hu := hideS hu
  have ht := hideS ht
  have hr := hideS hr
  have hcv := hideS hcv
  have hlg := hideS hlg
  rw [decide_eq_true (⟨h0.1, h0.2⟩ : 0 ≤ st ∧ st ≤ 109572)] at hs
  rw [decide_eq_true (⟨h1.1, h1.2⟩ : 0 ≤ en ∧ en ≤ 109572)] at he
  rw [decide_eq_true ⟨n1, n2⟩] at hn
  rw [decide_eq_true ⟨u1, u2⟩] at hu
  rw [decide_eq_true ⟨t1, t2⟩] at ht
  rw [decide_eq_true ⟨r1, r2⟩] at hr
  rw [decide_eq_true ⟨c1, c2⟩] at hcv
  rw [decide_eq_true ⟨l1, l2⟩] at hlg
  have a' : ¬ en ≤ st := by omega
  have g' : (roll != 0) = false ∨ ((roll != 0) = true ∧ ¬ unit < 3) := by
    by_cases e : roll = 0
    · exact Or.inl (by rw [e]; rfl)
    · exact Or.inr ⟨bne_iff_ne.2 e, by omega⟩
  clear h0 h1 lt n1 n2 u1 u2 t1 t2 r1 r2 ru c1 c2 l1 l2
  rcases g' with g | ⟨g, g2⟩
  all_goals
    go_enter Tryz.func112, Tryz.ntmps112
    go_wp2_with fail
    refine (hs.out _).mono ?_
    rintro e w1 ⟨rfl, rfl⟩
    go_wp2_with fail
    refine (he.out _).mono ?_
    rintro e w1 ⟨rfl, rfl⟩
    go_wp2_with fail
    refine (hn.out _).mono ?_
    rintro e w1 ⟨rfl, rfl⟩
    go_wp2_with fail
    refine (hu.out _).mono ?_
    rintro e w1 ⟨rfl, rfl⟩
    go_wp2_with fail
    refine (ht.out _).mono ?_
    rintro e w1 ⟨rfl, rfl⟩
    go_wp2_with fail
    refine (hr.out _).mono ?_
    rintro e w1 ⟨rfl, rfl⟩
    go_wp2_with fail
    refine (hcv.out _).mono ?_
    rintro e w1 ⟨rfl, rfl⟩
    go_wp2_with fail
    refine (hlg.out _).mono ?_
    rintro e w1 ⟨rfl, rfl⟩
    go_wp2_with fail
    refine (HC.out _ HB.out).mono ?_
    rintro e w2 ⟨rfl, hb2⟩
    go_wp2_with fail
    go_ret
    exact ⟨rfl, HB.out.trans (hb2.mono HB.out.size)⟩
end Go.Proofs.YtpcgbcdldkmibaaGreat
namespace Go.Proofs.YtpcgbcdldkmibaaGreat
open Go.RowKit

theorem betweenQ_any (n lo hi : Int) (w : World) :
    Calls Tryz.prog 151 #[.int .i64 n, .int .i64 lo, .int .i64 hi] w fun e w' => e = .returned (.bool (decide (lo ≤ n ∧ n ≤ hi))) ∧ w' = w := by
  by_cases h1 : lo ≤ n <;> by_cases h2 : n ≤ hi
  all_goals
    first | rw [decide_eq_true (⟨h1, h2⟩ : lo ≤ n ∧ n ≤ hi)] | rw [decide_eq_false (fun h : lo ≤ n ∧ n ≤ hi => by omega)]
    go_enter Tryz.func151, Tryz.ntmps151
    go_wp2
    go_ret
    exact ⟨rfl, rfl⟩

theorem isDay6_any (n : Int) (w : World) :
    Calls Tryz.prog 107 #[.int .i64 n] w fun e w' => e = .returned (.bool (decide (isDayP n))) ∧ w' = w := by
  have HI := hideS (fun wx => betweenQ_any n 0 109572 wx)
  rw [show decide (isDayP n) = decide (0 ≤ n ∧ n ≤ 109572) from decide_eq_decide.2 Iff.rfl]
  generalize decide (0 ≤ n ∧ n ≤ 109572) = R at *
  go_enter Tryz.func107, Tryz.ntmps107
  go_wp2_with (go_at_call 151; refine (HI.out _).mono ?_; rintro e w1 ⟨rfl, rfl⟩)
  go_ret
  exact ⟨rfl, rfl⟩

theorem and_oneP (n : Int) : bits .and .i64 n 1 = n % 2 := by
  have h1 : (BitVec.ofInt 64 1).toNat = 2 ^ 1 - 1 := by decide
  have key : (BitVec.ofInt 64 n &&& BitVec.ofInt 64 1).toNat = (n % ((2 ^ 64 : Nat) : Int)).toNat % 2 ^ 1 := by
    rw [BitVec.toNat_and, BitVec.toNat_ofInt, h1, Nat.and_two_pow_sub_one_eq_mod]
  show IntKind.i64.wrap ((BitVec.ofInt 64 n &&& BitVec.ofInt 64 1).toNat : Nat) = n % 2
  rw [key, IntKind.wrap_i64]
  omega

set_option maxHeartbeats 400000 in
theorem isWeekend_any (W n : Int) (w : World) (n0 : -7 ≤ n) (n1 : n ≤ 1000000) :
    Calls Tryz.prog 180 #[.int .i64 W, .int .i64 n] w fun e w' => e = .returned (.bool (offB W n)) ∧ w' = w := by
  obtain ⟨k, hk⟩ : ∃ k : Nat, n % 7 = k := ⟨(n % 7).toNat, by omega⟩
  have hak : (n + 7) % 7 = (k : Int) := by omega
  have hk6 : k ≤ 6 := by omega
  have hand := and_oneP (W / 2 ^ k)
  unfold offB
  rw [hk]
  have HE : Hid ((W / ((2 ^ (((k : Nat) : Int)).toNat : Nat) : Int) % 2 == 1) = (W / 2 ^ k % 2 == 1)) := by
    show _ = _
    rw [Int.toNat_natCast, Int.natCast_pow]; rfl
  clear hk
  rw [HE.out]
  clear HE
  go_enter Tryz.func180, Tryz.ntmps180
  go_wp2_with fail
  go_ret
  exact ⟨rfl, rfl⟩

theorem mov_free {W n mv : Int} {u d : Nat} (hu : Ups W n u d) (h0 : u = 0) : movI W n mv u d = n := by
  unfold movI
  rw [if_pos (Or.inr (by have := hu.uf; rw [h0] at this; simpa using this))]
theorem mov_up {W n mv : Int} {u d : Nat} (hu : Ups W n u d) (hm : mv ≠ 0) (hd : mv = 2 → u ≤ d) : movI W n mv u d = n + u := by
  by_cases h0 : u = 0
  · rw [mov_free hu h0, h0]; omega
  · unfold movI
    have ho : offB W n = true := by have := hu.uo 0 (by omega); simpa using this
    rw [if_neg (fun a => by
      rcases a with a | a
      · exact hm a
      · rw [ho] at a; exact Bool.noConfusion a), if_neg (fun a => by have := hd a.1; omega)]
theorem mov_down {W n mv : Int} {u d : Nat} (hu : Ups W n u d) (hm : mv = 2) (hd : d < u) : movI W n mv u d = n - d := by
  unfold movI
  have ho : offB W n = true := by have := hu.uo 0 (by omega); simpa using this
  rw [if_neg (fun a => by
      rcases a with a | a
      · omega
      · rw [ho] at a; exact Bool.noConfusion a), if_pos ⟨hm, by omega⟩]

set_option maxHeartbeats 1600000 in
theorem moved_any (W n mv : Int) (u d : Nat) (w : World) (n0 : -1 ≤ n) (n1 : n ≤ 500000) (hu : Ups W n u d) :
    Calls Tryz.prog 203 #[.int .i64 n, .int .i64 mv, .int .i64 W] w fun e w' => e = .returned (.int .i64 (movI W n mv u d)) ∧ w' = w := by
  have HO : Hid (∀ x wx, -7 ≤ x → x ≤ 1000000 → Calls Tryz.prog 180 #[.int .i64 W, .int .i64 x] wx fun e w' => e = .returned (.bool (offB W x)) ∧ w' = wx) := fun x wx a b => isWeekend_any W x wx a b
  have HU := hideS hu
  have u6 := hu.ub
  have d6 := hu.db
  obtain ⟨R, hR⟩ : ∃ R, movI W n mv u d = R := ⟨_, rfl⟩
  rw [hR]
  have HR := hideS hR
  clear hR hu
  by_cases hz : mv = 0
  · have HE : Hid (n = R) := by
      show _ = _
      rw [← HR.out]; unfold movI; rw [if_pos (Or.inl hz)]
    subst hz
    go_enter Tryz.func203, Tryz.ntmps203
    go_wp2_with fail
    go_ret
    obtain rfl := HE.out
    exact ⟨rfl, rfl⟩
  · have hz' : (mv == 0) = false := beq_eq_false_iff_ne.2 hz
    have HZ := hideS hz
    clear hz
    go_enter Tryz.func203, Tryz.ntmps203
    go_wp2_with fail
    go_loop [11] (fun i => ∃ (k : Nat), k ≤ u ∧ i = .int .i64 k ∧ Hid (mv = 2 → k ≤ d)) (fun i => u + 1 - (intOf i).toNat)
    case atStart => exact ⟨0, by omega, rfl, fun _ => by omega⟩
    case round =>
      obtain ⟨k, hk, rfl, HK⟩ := hrel
      have hk7 : (k : Int) < 7 := by omega
      have H1 := hideS (fun wx => HO.out (n + k) wx (by omega) (by omega))
      by_cases hlt : k < u
      · have e1 : offB W (n + k) = true := HU.out.uo k hlt
        rw [e1] at H1
        clear e1
        by_cases h2 : mv = 2
        · have H2 := hideS (fun wx => HO.out (n - k) wx (by omega) (by omega))
          have hkd := HK.out h2
          by_cases hld : k < d
          · have e2 : offB W (n - k) = true := HU.out.dn k hld
            rw [e2] at H2
            clear e2
            subst h2
            go_wp2_with (first | (go_at_call_of 180 (Value.int IntKind.i64 (n + k)); refine (H1.out _).mono ?_; rintro e w' ⟨rfl, rfl⟩) | (go_at_call_of 180 (Value.int IntKind.i64 (n - k)); refine (H2.out _).mono ?_; rintro e w' ⟨rfl, rfl⟩))
            go_round
            case rel => exact ⟨k + 1, by omega, by go_num, fun _ => by omega⟩
            case measure => simp [intOf]; omega
          · obtain rfl : k = d := by omega
            have e2 : offB W (n - k) = false := HU.out.df
            rw [e2] at H2
            clear e2
            have HE : Hid (n - k = R) := by
              show _ = _
              rw [← HR.out, mov_down HU.out h2 hlt]
            subst h2
            go_wp2_with (first | (go_at_call_of 180 (Value.int IntKind.i64 (n + k)); refine (H1.out _).mono ?_; rintro e w' ⟨rfl, rfl⟩) | (go_at_call_of 180 (Value.int IntKind.i64 (n - k)); refine (H2.out _).mono ?_; rintro e w' ⟨rfl, rfl⟩))
            go_ret
            obtain rfl := HE.out
            exact ⟨rfl, rfl⟩
        · have h2' : (mv == 2) = false := beq_eq_false_iff_ne.2 h2
          have HK' : Hid (mv = 2 → k + 1 ≤ d) := fun a => absurd a h2
          clear h2
          go_wp2_with (go_at_call 180; refine (H1.out _).mono ?_; rintro e w' ⟨rfl, rfl⟩)
          go_round
          case rel => exact ⟨k + 1, by omega, by go_num, HK'⟩
          case measure => simp [intOf]; omega
      · obtain rfl : k = u := by omega
        have e1 : offB W (n + k) = false := HU.out.uf
        rw [e1] at H1
        clear e1
        have HE : Hid (n + k = R) := by
          show _ = _
          rw [← HR.out, mov_up HU.out HZ.out HK.out]
        go_wp2_with (go_at_call 180; refine (H1.out _).mono ?_; rintro e w' ⟨rfl, rfl⟩)
        go_ret
        obtain rfl := HE.out
        exact ⟨rfl, rfl⟩
end Go.Proofs.YtpcgbcdldkmibaaGreat
namespace Go.Proofs.YtpcgbcdldkmibaaGreat
open Go.RowKit

theorem fit1' (mon day nth wd off fr to mv : Int) : fitB ⟨1, mon, day, nth, wd, off, fr, to, mv⟩ = decide ((1900 ≤ fr ∧ fr ≤ 2199 ∧ fr ≤ to ∧ to ≤ 2199 ∧ 0 ≤ mv ∧ mv ≤ 2) ∧ nth = 0 ∧ wd = 0 ∧ off = 0 ∧ 1 ≤ mon ∧ mon ≤ 12 ∧ 1 ≤ day ∧ day ≤ mostI mon) := by
  by_cases h : RngR fr to mv
  · rw [fit1 h]; exact decide_eq_decide.2 ⟨fun a => ⟨h, a⟩, fun a => a.2⟩
  · rw [fit_rng (by decide) h, decide_eq_false (fun a => h a.1)]
theorem fit2' (mon day nth wd off fr to mv : Int) : fitB ⟨2, mon, day, nth, wd, off, fr, to, mv⟩ = decide ((1900 ≤ fr ∧ fr ≤ 2199 ∧ fr ≤ to ∧ to ≤ 2199 ∧ 0 ≤ mv ∧ mv ≤ 2) ∧ day = 0 ∧ off = 0 ∧ 1 ≤ mon ∧ mon ≤ 12 ∧ 0 ≤ wd ∧ wd ≤ 6 ∧ 1 ≤ nth ∧ nth ≤ 5) := by
  by_cases h : RngR fr to mv
  · rw [fit2 h]; exact decide_eq_decide.2 ⟨fun a => ⟨h, a⟩, fun a => a.2⟩
  · rw [fit_rng (by decide) h, decide_eq_false (fun a => h a.1)]
theorem fit3' (mon day nth wd off fr to mv : Int) : fitB ⟨3, mon, day, nth, wd, off, fr, to, mv⟩ = decide ((1900 ≤ fr ∧ fr ≤ 2199 ∧ fr ≤ to ∧ to ≤ 2199 ∧ 0 ≤ mv ∧ mv ≤ 2) ∧ mon = 0 ∧ day = 0 ∧ nth = 0 ∧ wd = 0 ∧ -100 ≤ off ∧ off ≤ 100) := by
  by_cases h : RngR fr to mv
  · rw [fit3 h]; exact decide_eq_decide.2 ⟨fun a => ⟨h, a⟩, fun a => a.2⟩
  · rw [fit_rng (by decide) h, decide_eq_false (fun a => h a.1)]
theorem below2 (w : World) (o1 o2 : Obj) : Below w.heap.size w ((w.alloc o1).alloc o2) := ((Below.refl w.heap.size w).alloc (Nat.le_refl _) _).alloc (by simp) _

theorem isDay6_lit (n : Int) (w : World) :
    Calls Tryz.prog 107 #[.int .i64 n] w fun e w' => e = .returned (.bool (decide (0 ≤ n ∧ n ≤ 109572))) ∧ w' = w := by
  have := isDay6_any n w
  rw [show decide (isDayP n) = decide (0 ≤ n ∧ n ≤ 109572) from decide_eq_decide.2 Iff.rfl] at this
  exact this

set_option maxHeartbeats 1600000 in
theorem again_any (kind mon day nth wd off fr to mv : Int) (w : World) :
    Calls Tryz.prog 224 #[.agg #[.int .i64 kind, .int .i64 mon, .int .i64 day, .int .i64 nth, .int .i64 wd, .int .i64 off, .int .i64 fr, .int .i64 to, .int .i64 mv]] w fun e w' => e = .returned (.bool (decide (1900 ≤ fr ∧ fr ≤ 2199 ∧ fr ≤ to ∧ to ≤ 2199 ∧ 0 ≤ mv ∧ mv ≤ 2))) ∧ Below w.heap.size w w' := by
  obtain ⟨R, hR⟩ : ∃ R, decide (1900 ≤ fr ∧ fr ≤ 2199 ∧ fr ≤ to ∧ to ≤ 2199 ∧ 0 ≤ mv ∧ mv ≤ 2) = R := ⟨_, rfl⟩
  rw [hR]
  have HR := hideS hR
  clear hR
  go_enter Tryz.func224, Tryz.ntmps224
  go_wp2_with (go_at_call 151; refine (betweenQ_any _ _ _ _).mono ?_; rintro e w1 ⟨rfl, rfl⟩)
  all_goals
    go_ret
    refine ⟨retB (Eq.trans ?_ HR.out), (Below.refl w.heap.size w).alloc (Nat.le_refl _) _⟩
    first | exact (decide_eq_false (by omega)).symm | exact decide_eq_decide.2 (by omega) | (rw [Bool.eq_iff_iff]; simp only [Bool.and_eq_true, decide_eq_true_eq]; omega)

theorem most_len {m : Int} (h1 : 1 ≤ m) (h2 : m ≤ 12) : lenI 2000 m = mostI m := by
  rcases month_cases h1 h2 with rfl | rfl | rfl | rfl | rfl | rfl | rfl | rfl | rfl | rfl | rfl | rfl <;> decide

set_option maxHeartbeats 3200000 in
theorem may4_any (mon day nth wd off fr to mv : Int) (w : World) :
    Calls Tryz.prog 232 #[.agg #[.int .i64 4, .int .i64 mon, .int .i64 day, .int .i64 nth, .int .i64 wd, .int .i64 off, .int .i64 fr, .int .i64 to, .int .i64 mv]] w fun e w' => e = .returned (.bool (fitB ⟨4, mon, day, nth, wd, off, fr, to, mv⟩)) ∧ Below w.heap.size w w' := by
  rw [fit4]
  obtain ⟨R, hR⟩ : ∃ R, decide (mon = 0 ∧ nth = 0 ∧ wd = 0 ∧ off = 0 ∧ fr = 0 ∧ to = 0 ∧ mv = 0 ∧ 0 ≤ day ∧ day ≤ 109572) = R := ⟨_, rfl⟩
  rw [hR]
  have HR := hideS hR
  clear hR
  go_enter Tryz.func232, Tryz.ntmps232
  go_wp2_with (go_at_call 107; refine (isDay6_lit _ _).mono ?_; rintro e w1 ⟨rfl, rfl⟩)
  all_goals
    go_ret
    refine ⟨retB (Eq.trans ?_ HR.out), (Below.refl w.heap.size w).alloc (Nat.le_refl _) _⟩
    first | exact (decide_eq_false (by omega)).symm | exact decide_eq_decide.2 (by omega) | (rw [Bool.eq_iff_iff]; simp only [Bool.and_eq_true, decide_eq_true_eq]; omega)

set_option maxHeartbeats 3200000 in
theorem may3_any (mon day nth wd off fr to mv : Int) (w : World) :
    Calls Tryz.prog 228 #[.agg #[.int .i64 3, .int .i64 mon, .int .i64 day, .int .i64 nth, .int .i64 wd, .int .i64 off, .int .i64 fr, .int .i64 to, .int .i64 mv]] w fun e w' => e = .returned (.bool (fitB ⟨3, mon, day, nth, wd, off, fr, to, mv⟩)) ∧ Below w.heap.size w w' := by
  rw [fit3']
  obtain ⟨R, hR⟩ : ∃ R, decide ((1900 ≤ fr ∧ fr ≤ 2199 ∧ fr ≤ to ∧ to ≤ 2199 ∧ 0 ≤ mv ∧ mv ≤ 2) ∧ mon = 0 ∧ day = 0 ∧ nth = 0 ∧ wd = 0 ∧ -100 ≤ off ∧ off ≤ 100) = R := ⟨_, rfl⟩
  rw [hR]
  have HR := hideS hR
  clear hR
  have HB2 := hideS (below2 w)
  have HA := hideS (fun kind mon day nth wd off fr to mv wx => again_any kind mon day nth wd off fr to mv wx)
  go_enter Tryz.func228, Tryz.ntmps228
  go_wp2_with (first | (go_at_call 151; refine (betweenQ_any _ _ _ _).mono ?_; rintro e w1 ⟨rfl, rfl⟩) | (go_at_call 224; refine (HA.out _ _ _ _ _ _ _ _ _ _).mono ?_; rintro e w1 ⟨rfl, hb1⟩))
  all_goals
    go_ret
    first
    | refine ⟨retB (Eq.trans ?_ HR.out), HB2.out _ _⟩
    | refine ⟨retB (Eq.trans ?_ HR.out), (HB2.out _ _).trans (hb1.mono (by simp <;> omega))⟩
    first | exact (decide_eq_false (by omega)).symm | exact decide_eq_decide.2 (by omega) | (rw [Bool.eq_iff_iff]; simp only [Bool.and_eq_true, decide_eq_true_eq]; omega)

set_option maxHeartbeats 3200000 in
theorem may2_any (mon day nth wd off fr to mv : Int) (w : World) :
    Calls Tryz.prog 226 #[.agg #[.int .i64 2, .int .i64 mon, .int .i64 day, .int .i64 nth, .int .i64 wd, .int .i64 off, .int .i64 fr, .int .i64 to, .int .i64 mv]] w fun e w' => e = .returned (.bool (fitB ⟨2, mon, day, nth, wd, off, fr, to, mv⟩)) ∧ Below w.heap.size w w' := by
  rw [fit2']
  obtain ⟨R, hR⟩ : ∃ R, decide ((1900 ≤ fr ∧ fr ≤ 2199 ∧ fr ≤ to ∧ to ≤ 2199 ∧ 0 ≤ mv ∧ mv ≤ 2) ∧ day = 0 ∧ off = 0 ∧ 1 ≤ mon ∧ mon ≤ 12 ∧ 0 ≤ wd ∧ wd ≤ 6 ∧ 1 ≤ nth ∧ nth ≤ 5) = R := ⟨_, rfl⟩
  rw [hR]
  have HR := hideS hR
  clear hR
  have HB2 := hideS (below2 w)
  have HA := hideS (fun kind mon day nth wd off fr to mv wx => again_any kind mon day nth wd off fr to mv wx)
  go_enter Tryz.func226, Tryz.ntmps226
  go_wp2_with (first | (go_at_call 151; refine (betweenQ_any _ _ _ _).mono ?_; rintro e w1 ⟨rfl, rfl⟩) | (go_at_call 224; refine (HA.out _ _ _ _ _ _ _ _ _ _).mono ?_; rintro e w1 ⟨rfl, hb1⟩))
  all_goals
    go_ret
    first
    | refine ⟨retB (Eq.trans ?_ HR.out), HB2.out _ _⟩
    | refine ⟨retB (Eq.trans ?_ HR.out), (HB2.out _ _).trans (hb1.mono (by simp <;> omega))⟩
    first | exact (decide_eq_false (by omega)).symm | exact decide_eq_decide.2 (by omega) | (rw [Bool.eq_iff_iff]; simp only [Bool.and_eq_true, decide_eq_true_eq]; omega)

set_option maxHeartbeats 3200000 in
theorem may1_any (mon day nth wd off fr to mv : Int) (w : World) :
    Calls Tryz.prog 223 #[.agg #[.int .i64 1, .int .i64 mon, .int .i64 day, .int .i64 nth, .int .i64 wd, .int .i64 off, .int .i64 fr, .int .i64 to, .int .i64 mv]] w fun e w' => e = .returned (.bool (fitB ⟨1, mon, day, nth, wd, off, fr, to, mv⟩)) ∧ Below w.heap.size w w' := by
  rw [fit1']
  have HB2 := hideS (below2 w)
  have HA := hideS (fun kind mon day nth wd off fr to mv wx => again_any kind mon day nth wd off fr to mv wx)
  by_cases hm : 1 ≤ mon ∧ mon ≤ 12
  · have HL := hideS (fun wx => lengthP_ok 2000 mon wx ⟨by decide, by decide, hm.1, hm.2⟩)
    rw [most_len hm.1 hm.2] at HL
    generalize mostI mon = L at *
    obtain ⟨R, hR⟩ : ∃ R, decide ((1900 ≤ fr ∧ fr ≤ 2199 ∧ fr ≤ to ∧ to ≤ 2199 ∧ 0 ≤ mv ∧ mv ≤ 2) ∧ nth = 0 ∧ wd = 0 ∧ off = 0 ∧ 1 ≤ mon ∧ mon ≤ 12 ∧ 1 ≤ day ∧ day ≤ L) = R := ⟨_, rfl⟩
    rw [hR]
    have HR := hideS hR
    clear hR
    go_enter Tryz.func223, Tryz.ntmps223
    go_wp2_with (first | (go_at_call 189; refine (HL.out _).mono ?_; rintro e w1 ⟨rfl, rfl⟩) | (go_at_call 151; refine (betweenQ_any _ _ _ _).mono ?_; rintro e w1 ⟨rfl, rfl⟩) | (go_at_call 224; refine (HA.out _ _ _ _ _ _ _ _ _ _).mono ?_; rintro e w1 ⟨rfl, hb1⟩))
    all_goals
      go_ret
      first
      | refine ⟨retB (Eq.trans ?_ HR.out), HB2.out _ _⟩
      | refine ⟨retB (Eq.trans ?_ HR.out), (HB2.out _ _).trans (hb1.mono (by simp <;> omega))⟩
      first | exact (decide_eq_false (by omega)).symm | exact decide_eq_decide.2 (by omega) | (rw [Bool.eq_iff_iff]; simp only [Bool.and_eq_true, decide_eq_true_eq]; omega)
  · have HL := hideS (fun wx => lengthP_bad 2000 mon wx (fun a => hm ⟨a.2.2.1, a.2.2.2⟩))
    rw [decide_eq_false (fun a => hm ⟨a.2.2.2.2.1, a.2.2.2.2.2.1⟩)]
    clear hm
    go_enter Tryz.func223, Tryz.ntmps223
    go_wp2_with (go_at_call 189; refine (HL.out _).mono ?_; rintro e w1 ⟨rfl, rfl⟩)
    all_goals
      go_ret
      exact ⟨rfl, HB2.out _ _⟩

set_option maxHeartbeats 400000 in
theorem may0_any (w : World) :
    Calls Tryz.prog 234 #[.agg #[]] w fun e w' => e = .returned (.bool false) ∧ Below w.heap.size w w' := by
  go_enter Tryz.func234, Tryz.ntmps234
  go_wp2_with fail
  go_ret
  exact ⟨rfl, (Below.refl w.heap.size w).alloc (Nat.le_refl _) _⟩

def tyK (k : Int) : Nat := if k = 1 then 230 else if k = 2 then 231 else if k = 3 then 232 else 233
set_option maxHeartbeats 1600000 in
theorem holidayOf_any (kind mon day nth wd off fr to mv : Int) (w : World) (hk : kind = 1 ∨ kind = 2 ∨ kind = 3 ∨ kind = 4) :
    Calls Tryz.prog 177 #[.agg #[.int .i64 kind, .int .i64 mon, .int .i64 day, .int .i64 nth, .int .i64 wd, .int .i64 off, .int .i64 fr, .int .i64 to, .int .i64 mv]] w fun e w' => e = .returned (.iface (tyK kind) (.agg #[.int .i64 kind, .int .i64 mon, .int .i64 day, .int .i64 nth, .int .i64 wd, .int .i64 off, .int .i64 fr, .int .i64 to, .int .i64 mv])) ∧ Below w.heap.size w w' := by
  rcases hk with rfl | rfl | rfl | rfl
  all_goals
    go_enter Tryz.func177, Tryz.ntmps177
    go_wp2_with fail
    go_ret
    exact ⟨rfl, (Below.refl w.heap.size w).alloc (Nat.le_refl _) _⟩
set_option maxHeartbeats 1600000 in
theorem holidayOf_none (kind mon day nth wd off fr to mv : Int) (w : World) (hk : ¬ (kind = 1 ∨ kind = 2 ∨ kind = 3 ∨ kind = 4)) :
    Calls Tryz.prog 177 #[.agg #[.int .i64 kind, .int .i64 mon, .int .i64 day, .int .i64 nth, .int .i64 wd, .int .i64 off, .int .i64 fr, .int .i64 to, .int .i64 mv]] w fun e w' => e = .returned (.iface 235 (.agg #[])) ∧ Below w.heap.size w w' := by
  have k1 : (kind == 1) = false := beq_eq_false_iff_ne.2 (fun a => hk (by omega))
  have k2 : (kind == 2) = false := beq_eq_false_iff_ne.2 (fun a => hk (by omega))
  have k3 : (kind == 3) = false := beq_eq_false_iff_ne.2 (fun a => hk (by omega))
  have k4 : (kind == 4) = false := beq_eq_false_iff_ne.2 (fun a => hk (by omega))
  clear hk
  go_enter Tryz.func177, Tryz.ntmps177
  go_wp2_with fail
  go_ret
  exact ⟨rfl, (Below.refl w.heap.size w).alloc (Nat.le_refl _) _⟩
end Go.Proofs.YtpcgbcdldkmibaaGreat
