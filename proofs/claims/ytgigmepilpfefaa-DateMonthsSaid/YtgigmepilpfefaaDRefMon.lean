/- The contract of the document's Months. -/
import Derived.Test.YtgigmepilpfefaaDMonths
namespace Go.Proofs.Ytgigmepilpfefaa
open Go.RowKit

set_option maxHeartbeats 800000 in
theorem refMonth_ok (y m d k : Int) (w : World) (y1 : 1900 ≤ y) (y2 : y ≤ 2199) (m1 : 1 ≤ m) (m2 : m ≤ 12) (h0 : 0 ≤ atI y m k) (h1 : atI y m k < 3600) :
    Calls Try.prog 33 #[.agg #[.int .i64 y, .int .i64 m, .int .i64 d], .int .i64 k] w fun e w' => e = .returned (.tuple #[.int .i64 (toY y m k), .int .i64 (toM y m k), .bool true]) ∧ Below w.heap.size w w' := by
  have hY : (12 * y + m - 1 + k) / 12 = toY y m k := by unfold toY atI; omega
  have hM : (12 * y + m - 1 + k) % 12 + 1 = toM y m k := by unfold toM atI; omega
  unfold atI at h0 h1
  generalize toY y m k = Y at *
  generalize toM y m k = M at *
  go_enter Try.func33, Try.ntmps33
  go_wp2_with fail
  go_ret3
  obtain rfl := hY
  exact ⟨rfl, (Below.refl w.heap.size w).alloc (Nat.le_refl _) _⟩
theorem refMonth_far (y m d k : Int) (w : World) (y1 : 1900 ≤ y) (y2 : y ≤ 2199) (m1 : 1 ≤ m) (m2 : m ≤ 12) (hk : ¬ (0 ≤ atI y m k ∧ atI y m k < 3600)) :
    Calls Try.prog 33 #[.agg #[.int .i64 y, .int .i64 m, .int .i64 d], .int .i64 k] w fun e w' => e = .returned (.tuple #[.int .i64 0, .int .i64 0, .bool false]) ∧ Below w.heap.size w w' := by
  unfold atI at hk
  rcases (show k < -4000 ∨ (-4000 ≤ k ∧ 4000 < k) ∨ ((-4000 ≤ k ∧ k ≤ 4000) ∧ 12 * y + m - 1 + k < 22800) ∨ ((-4000 ≤ k ∧ k ≤ 4000) ∧ 22800 ≤ 12 * y + m - 1 + k ∧ 26399 < 12 * y + m - 1 + k) by omega) with hd | ⟨hd, hd'⟩ | ⟨⟨hd, hd'⟩, he⟩ | ⟨⟨hd, hd'⟩, he, he'⟩
  all_goals
    clear hk
    go_enter Try.func33, Try.ntmps33
    go_wp2_with fail
    go_ret3
    exact ⟨rfl, (Below.refl w.heap.size w).alloc (Nat.le_refl _) _⟩

theorem date_cells {w w1 : World} {y m d : Int} (hb : Below (w.alloc (.cells #[.int .i64 y, .int .i64 m, .int .i64 d] 32)).heap.size (w.alloc (.cells #[.int .i64 y, .int .i64 m, .int .i64 d] 32)) w1) :
    w1.cell? ⟨w.heap.size, 0, none⟩ = some (.int .i64 y) ∧ w1.cell? ⟨w.heap.size, 1, none⟩ = some (.int .i64 m) ∧ w1.cell? ⟨w.heap.size, 2, none⟩ = some (.int .i64 d) := by
  refine ⟨?_, ?_, ?_⟩
  · rw [hb.cell (p := ⟨w.heap.size, 0, none⟩) (by simp)]; simp
  · rw [hb.cell (p := ⟨w.heap.size, 1, none⟩) (by simp)]; simp
  · rw [hb.cell (p := ⟨w.heap.size, 2, none⟩) (by simp)]; simp
theorem month_below {w w1 w2 : World} {o : Obj} (hb1 : Below w.heap.size w w1) (hb2 : Below (w1.alloc o).heap.size (w1.alloc o) w2) : Below w.heap.size w w2 :=
  hb1.trans ((((Below.refl _ w1).alloc (Nat.le_refl _) _).trans (hb2.mono (by simp))).mono hb1.size)

theorem letter3 {w w2 : World} {y m d : Int} {b : Nat} (nq : Nat) (c0 : w2.cell? ⟨b, 0, none⟩ = some (.int .i64 y)) (c1 : w2.cell? ⟨b, 1, none⟩ = some (.int .i64 m)) (c2 : w2.cell? ⟨b, 2, none⟩ = some (.int .i64 d)) (hb : Hid (Below w.heap.size w w2)) :
    ∃ w3, w2.drewN nq = w3 ∧ w3.cell? ⟨b, 0, none⟩ = some (.int .i64 y) ∧ w3.cell? ⟨b, 1, none⟩ = some (.int .i64 m) ∧ w3.cell? ⟨b, 2, none⟩ = some (.int .i64 d) ∧ Hid (Below w.heap.size w w3) :=
  ⟨_, rfl, c0, c1, c2, ⟨hb.out.os, hb.out.tape, hb.out.output, hb.out.size, hb.out.block⟩⟩
theorem below_drewN {B : Nat} {w w2 : World} {n : Nat} (hb : Below B w w2) : Below B w (w2.drewN n) := ⟨hb.os, hb.tape, hb.output, hb.size, hb.block⟩
theorem toD_end {d L l : Int} (he : d = l) : toD d L l true = L := by
  unfold toD
  by_cases hd : L < d
  · rw [if_pos hd]
  · rw [if_neg hd, if_pos ⟨rfl, he⟩]
theorem toD_far {d L l : Int} {e : Bool} (hd : L < d) : toD d L l e = L := by unfold toD; rw [if_pos hd]
theorem toD_in {d L l : Int} {e : Bool} (hd : d ≤ L) (he : ¬ (e = true ∧ d = l)) : toD d L l e = d := by unfold toD; rw [if_neg (by omega), if_neg he]

set_option maxRecDepth 10000 in
set_option maxHeartbeats 1600000 in
theorem refMonths_ok (n y m d k : Int) (en : Bool) (w : World) (h : IsD n y m d) (h0 : 0 ≤ atI y m k) (h1 : atI y m k < 3600) :
    Calls Try.prog 19 #[.int .i64 n, .int .i64 k, .bool en] w fun e w' => e = .returned (.tuple #[.int .i64 (monI y m d k en), .int .i64 0]) ∧ Below w.heap.size w w' := by
  have HC := hideS (fun w => refCiv_ok n y m d w h)
  unfold dateV at HC
  obtain ⟨y1, y2, m1, m2, d1, d2⟩ := h.1
  have HO := hideS (fun wx => refOf_ok _ _ _ wx (mon_ok (y := y) (m := m) (d := d) (k := k) (e := en) d1 h0 h1))
  obtain ⟨a1, a2, a3, a4⟩ := toYM h0 h1
  have HL1 := hideS (fun wx => refLength_any (toY y m k) (toM y m k) wx a3 a4)
  have HL2 := hideS (fun wx => refLength_any y m wx m1 m2)
  have HM := hideS (fun wx => refMonth_ok y m d k wx y1 y2 m1 m2 h0 h1)
  unfold monI
  have l1 := len_lo (toY y m k) (toM y m k)
  have l2 := len_lo y m
  clear h h0 h1
  generalize toY y m k = Y at *
  generalize toM y m k = M at *
  generalize lenI Y M = L at *
  generalize lenI y m = l at *
  rcases (show (L < d ∧ en = true ∧ d = l) ∨ (d ≤ L ∧ en = true ∧ d = l) ∨ (L < d ∧ en = true ∧ d ≠ l) ∨ (d ≤ L ∧ en = true ∧ d ≠ l) ∨ (L < d ∧ en = false) ∨ (d ≤ L ∧ en = false) by cases en <;> simp <;> omega) with ⟨hd, rfl, he⟩ | ⟨hd, rfl, he⟩ | ⟨hd, rfl, he⟩ | ⟨hd, rfl, he⟩ | ⟨hd, rfl⟩ | ⟨hd, rfl⟩
  · have hD := toD_end (L := L) he
    rw [hD] at HO ⊢
    clear hD
    have he' : (d == l) = true := by rw [beq_iff_eq]; exact he
    clear he
    generalize dayI Y M L = R at *
    go_enter Try.func19, Try.ntmps19
    go_wp2_with (first | (go_at_call 12; refine (HC.out _).mono ?_; rintro e w1 ⟨rfl, hb1⟩) | (go_at_call 33; refine (HM.out _).mono ?_; rintro e w2 ⟨rfl, hb2⟩))
    obtain ⟨c0, c1, c2⟩ := date_cells hb2
    have HB := hideS (month_below hb1 hb2)
    clear hb1 hb2
    go_quiet ((go_at_call 27; exact Calls.quiet_of_same (HL1.out _)))
    go_wp2_with fail
    obtain ⟨w3, hw3, c0, c1, c2, HB⟩ := letter3 nq c0 c1 c2 HB
    rw [hw3]
    clear hw3
    go_quiet ((go_at_call 27; exact Calls.quiet_of_same (HL2.out _)))
    go_wp2_with (first | (go_at_call 27; refine (HL1.out _).mono ?_; rintro e w' ⟨rfl, rfl⟩) | (go_at_call 10; refine (HO.out _).mono ?_; rintro e w' ⟨rfl, rfl⟩))
    go_ret2
    exact ⟨rfl, below_drewN HB.out⟩
  · have hD := toD_end (L := L) he
    rw [hD] at HO ⊢
    clear hD
    have he' : (d == l) = true := by rw [beq_iff_eq]; exact he
    clear he
    generalize dayI Y M L = R at *
    go_enter Try.func19, Try.ntmps19
    go_wp2_with (first | (go_at_call 12; refine (HC.out _).mono ?_; rintro e w1 ⟨rfl, hb1⟩) | (go_at_call 33; refine (HM.out _).mono ?_; rintro e w2 ⟨rfl, hb2⟩))
    obtain ⟨c0, c1, c2⟩ := date_cells hb2
    have HB := hideS (month_below hb1 hb2)
    clear hb1 hb2
    go_quiet ((go_at_call 27; exact Calls.quiet_of_same (HL1.out _)))
    go_wp2_with fail
    obtain ⟨w3, hw3, c0, c1, c2, HB⟩ := letter3 nq c0 c1 c2 HB
    rw [hw3]
    clear hw3
    go_quiet ((go_at_call 27; exact Calls.quiet_of_same (HL2.out _)))
    go_wp2_with (first | (go_at_call 27; refine (HL1.out _).mono ?_; rintro e w' ⟨rfl, rfl⟩) | (go_at_call 10; refine (HO.out _).mono ?_; rintro e w' ⟨rfl, rfl⟩))
    go_ret2
    exact ⟨rfl, below_drewN HB.out⟩
  · have hD := toD_far (l := l) (e := true) hd
    rw [hD] at HO ⊢
    clear hD
    have he' : (d == l) = false := by rw [beq_eq_false_iff_ne]; exact he
    clear he
    generalize dayI Y M L = R at *
    go_enter Try.func19, Try.ntmps19
    go_wp2_with (first | (go_at_call 12; refine (HC.out _).mono ?_; rintro e w1 ⟨rfl, hb1⟩) | (go_at_call 33; refine (HM.out _).mono ?_; rintro e w2 ⟨rfl, hb2⟩))
    obtain ⟨c0, c1, c2⟩ := date_cells hb2
    have HB := hideS (month_below hb1 hb2)
    clear hb1 hb2
    go_quiet ((go_at_call 27; exact Calls.quiet_of_same (HL1.out _)))
    go_wp2_with fail
    obtain ⟨w3, hw3, c0, c1, c2, HB⟩ := letter3 nq c0 c1 c2 HB
    rw [hw3]
    clear hw3
    go_quiet ((go_at_call 27; exact Calls.quiet_of_same (HL2.out _)))
    go_wp2_with (first | (go_at_call 27; refine (HL1.out _).mono ?_; rintro e w' ⟨rfl, rfl⟩) | (go_at_call 10; refine (HO.out _).mono ?_; rintro e w' ⟨rfl, rfl⟩))
    go_ret2
    exact ⟨rfl, below_drewN HB.out⟩
  · have hD := toD_in (l := l) (e := true) hd (fun a => he a.2)
    rw [hD] at HO ⊢
    clear hD
    have he' : (d == l) = false := by rw [beq_eq_false_iff_ne]; exact he
    clear he
    generalize dayI Y M d = R at *
    go_enter Try.func19, Try.ntmps19
    go_wp2_with (first | (go_at_call 12; refine (HC.out _).mono ?_; rintro e w1 ⟨rfl, hb1⟩) | (go_at_call 33; refine (HM.out _).mono ?_; rintro e w2 ⟨rfl, hb2⟩))
    obtain ⟨c0, c1, c2⟩ := date_cells hb2
    have HB := hideS (month_below hb1 hb2)
    clear hb1 hb2
    go_quiet ((go_at_call 27; exact Calls.quiet_of_same (HL1.out _)))
    go_wp2_with fail
    obtain ⟨w3, hw3, c0, c1, c2, HB⟩ := letter3 nq c0 c1 c2 HB
    rw [hw3]
    clear hw3
    go_quiet ((go_at_call 27; exact Calls.quiet_of_same (HL2.out _)))
    go_wp2_with (first | (go_at_call 27; refine (HL1.out _).mono ?_; rintro e w' ⟨rfl, rfl⟩) | (go_at_call 10; refine (HO.out _).mono ?_; rintro e w' ⟨rfl, rfl⟩))
    go_ret2
    exact ⟨rfl, below_drewN HB.out⟩
  · have hD := toD_far (l := l) (e := false) hd
    rw [hD] at HO ⊢
    clear hD
    generalize dayI Y M L = R at *
    go_enter Try.func19, Try.ntmps19
    go_wp2_with (first | (go_at_call 12; refine (HC.out _).mono ?_; rintro e w1 ⟨rfl, hb1⟩) | (go_at_call 33; refine (HM.out _).mono ?_; rintro e w2 ⟨rfl, hb2⟩))
    obtain ⟨c0, c1, c2⟩ := date_cells hb2
    have HB := hideS (month_below hb1 hb2)
    clear hb1 hb2
    go_quiet ((go_at_call 27; exact Calls.quiet_of_same (HL1.out _)))
    go_wp2_with fail
    obtain ⟨w3, hw3, c0, c1, c2, HB⟩ := letter3 nq c0 c1 c2 HB
    rw [hw3]
    clear hw3
    go_quiet ((go_at_call 27; exact Calls.quiet_of_same (HL2.out _)))
    go_wp2_with (first | (go_at_call 27; refine (HL1.out _).mono ?_; rintro e w' ⟨rfl, rfl⟩) | (go_at_call 10; refine (HO.out _).mono ?_; rintro e w' ⟨rfl, rfl⟩))
    go_ret2
    exact ⟨rfl, below_drewN HB.out⟩
  · have hD := toD_in (l := l) (e := false) hd (fun a => Bool.noConfusion a.1)
    rw [hD] at HO ⊢
    clear hD
    generalize dayI Y M d = R at *
    go_enter Try.func19, Try.ntmps19
    go_wp2_with (first | (go_at_call 12; refine (HC.out _).mono ?_; rintro e w1 ⟨rfl, hb1⟩) | (go_at_call 33; refine (HM.out _).mono ?_; rintro e w2 ⟨rfl, hb2⟩))
    obtain ⟨c0, c1, c2⟩ := date_cells hb2
    have HB := hideS (month_below hb1 hb2)
    clear hb1 hb2
    go_quiet ((go_at_call 27; exact Calls.quiet_of_same (HL1.out _)))
    go_wp2_with fail
    obtain ⟨w3, hw3, c0, c1, c2, HB⟩ := letter3 nq c0 c1 c2 HB
    rw [hw3]
    clear hw3
    go_quiet ((go_at_call 27; exact Calls.quiet_of_same (HL2.out _)))
    go_wp2_with (first | (go_at_call 27; refine (HL1.out _).mono ?_; rintro e w' ⟨rfl, rfl⟩) | (go_at_call 10; refine (HO.out _).mono ?_; rintro e w' ⟨rfl, rfl⟩))
    go_ret2
    exact ⟨rfl, below_drewN HB.out⟩
end Go.Proofs.Ytgigmepilpfefaa
