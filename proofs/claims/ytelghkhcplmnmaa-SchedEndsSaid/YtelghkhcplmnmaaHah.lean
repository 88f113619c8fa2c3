/- The contract of the document's Months. The contracts of the document's off, moved and nth. -/
import Derived.Test.YtelghkhcplmnmaaHag
import Derived.Test.YtelghkhcplmnmaaHab
import Derived.Test.YtelghkhcplmnmaaHaf
import Derived.Test.YtelghkhcplmnmaaHad
import Derived.Laws.BitsAllLaws
import Derived.Laws.Bits64b
namespace Go.Proofs.Ytelghkhcplmnmaa
open Go.RowKit

set_option maxHeartbeats 800000 in
theorem refMonth_ok (y m d k : Int) (w : World) (y1 : 1900 ≤ y) (y2 : y ≤ 2199) (m1 : 1 ≤ m) (m2 : m ≤ 12) (h0 : 0 ≤ atI y m k) (h1 : atI y m k < 3600) :
    Calls Try.prog 42 #[.agg #[.int .i64 y, .int .i64 m, .int .i64 d], .int .i64 k] w fun e w' => e = .returned (.tuple #[.int .i64 (toY y m k), .int .i64 (toM y m k), .bool true]) ∧ Below w.heap.size w w' := by
  have hY : (12 * y + m - 1 + k) / 12 = toY y m k := by unfold toY atI; omega
  have hM : (12 * y + m - 1 + k) % 12 + 1 = toM y m k := by unfold toM atI; omega
  unfold atI at h0 h1
  generalize toY y m k = Y at *
  generalize toM y m k = M at *
  go_enter Try.func42, Try.ntmps42
  go_wp2_with fail
  go_ret3
  obtain rfl := hY
  exact ⟨rfl, (Below.refl w.heap.size w).alloc (Nat.le_refl _) _⟩
theorem refMonth_far (y m d k : Int) (w : World) (y1 : 1900 ≤ y) (y2 : y ≤ 2199) (m1 : 1 ≤ m) (m2 : m ≤ 12) (hk : ¬ (0 ≤ atI y m k ∧ atI y m k < 3600)) :
    Calls Try.prog 42 #[.agg #[.int .i64 y, .int .i64 m, .int .i64 d], .int .i64 k] w fun e w' => e = .returned (.tuple #[.int .i64 0, .int .i64 0, .bool false]) ∧ Below w.heap.size w w' := by
  unfold atI at hk
  rcases (show k < -4000 ∨ (-4000 ≤ k ∧ 4000 < k) ∨ ((-4000 ≤ k ∧ k ≤ 4000) ∧ 12 * y + m - 1 + k < 22800) ∨ ((-4000 ≤ k ∧ k ≤ 4000) ∧ 22800 ≤ 12 * y + m - 1 + k ∧ 26399 < 12 * y + m - 1 + k) by omega) with hd | ⟨hd, hd'⟩ | ⟨⟨hd, hd'⟩, he⟩ | ⟨⟨hd, hd'⟩, he, he'⟩
  all_goals
    clear hk
    go_enter Try.func42, Try.ntmps42
    go_wp2_with fail
    go_ret3
    exact ⟨rfl, (Below.refl w.heap.size w).alloc (Nat.le_refl _) _⟩

theorem date_cells {w w1 : World} {y m d : Int} (hb : Below (w.alloc (.cells #[.int .i64 y, .int .i64 m, .int .i64 d] 73)).heap.size (w.alloc (.cells #[.int .i64 y, .int .i64 m, .int .i64 d] 73)) w1) :
    w1.cell? ⟨w.heap.size, 0, none⟩ = some (.int .i64 y) ∧ w1.cell? ⟨w.heap.size, 1, none⟩ = some (.int .i64 m) ∧ w1.cell? ⟨w.heap.size, 2, none⟩ = some (.int .i64 d) := by
  refine ⟨?_, ?_, ?_⟩
  · rw [hb.cell (p := ⟨w.heap.size, 0, none⟩) (by simp)]; simp
  · rw [hb.cell (p := ⟨w.heap.size, 1, none⟩) (by simp)]; simp
  · rw [hb.cell (p := ⟨w.heap.size, 2, none⟩) (by simp)]; simp
theorem month_below {w w1 w2 : World} {o : Obj} (hb1 : Below w.heap.size w w1) (hb2 : Below (w1.alloc o).heap.size (w1.alloc o) w2) : Below w.heap.size w w2 :=
  hb1.trans ((((Below.refl _ w1).alloc (Nat.le_refl _) _).trans (hb2.mono (by simp))).mono hb1.size)

theorem letter3 {w w2 : World} {y m d : Int} {b : Nat} (nq : Nat) (c0 : w2.cell? ⟨b, 0, none⟩ = some (.int .i64 y)) (c1 : w2.cell? ⟨b, 1, none⟩ = some (.int .i64 m)) (c2 : w2.cell? ⟨b, 2, none⟩ = some (.int .i64 d)) (hb : Hid (Below w.heap.size w w2)) :
    ∃ w3, w2.drewN nq = w3 ∧ w3.cell? ⟨b, 0, none⟩ = some (.int .i64 y) ∧ w3.cell? ⟨b, 1, none⟩ = some (.int .i64 m) ∧ w3.cell? ⟨b, 2, none⟩ = some (.int .i64 d) ∧ Hid (Below w.heap.size w w3) :=
  ⟨_, rfl, c0, c1, c2, ⟨hb.out.os, hb.out.tape, hb.out.output, hb.out.size, hb.out.block⟩⟩
theorem below_drewN {B : Nat} {w w2 : World} {n : Nat} (hb : Below B w w2) : Below B w (w2.drewN n) := ⟨hb.os, hb.tape, hb.output, hb.size, hb.block⟩
theorem toD_end {d L l : Int} (he : d = l) : toD d L l true = L := by
  unfold toD
  by_cases hd : L < d
  · rw [if_pos hd]
  · rw [if_neg hd, if_pos ⟨rfl, he⟩]
theorem toD_far {d L l : Int} {e : Bool} (hd : L < d) : toD d L l e = L := by unfold toD; rw [if_pos hd]
theorem toD_in {d L l : Int} {e : Bool} (hd : d ≤ L) (he : ¬ (e = true ∧ d = l)) : toD d L l e = d := by unfold toD; rw [if_neg (by omega), if_neg he]

set_option maxRecDepth 10000 in
set_option maxHeartbeats 1600000 in
theorem refMonths_ok (n y m d k : Int) (en : Bool) (w : World) (h : IsD n y m d) (h0 : 0 ≤ atI y m k) (h1 : atI y m k < 3600) :
    Calls Try.prog 43 #[.int .i64 n, .int .i64 k, .bool en] w fun e w' => e = .returned (.tuple #[.int .i64 (monI y m d k en), .int .i64 0]) ∧ Below w.heap.size w w' := by
  have HC := hideS (fun w => refCiv_ok n y m d w h)
  unfold dateV at HC
  obtain ⟨y1, y2, m1, m2, d1, d2⟩ := h.1
  have HO := hideS (fun wx => refOf_ok _ _ _ wx (mon_ok (y := y) (m := m) (d := d) (k := k) (e := en) d1 h0 h1))
  obtain ⟨a1, a2, a3, a4⟩ := toYM h0 h1
  have HL1 := hideS (fun wx => refLength_any (toY y m k) (toM y m k) wx a3 a4)
  have HL2 := hideS (fun wx => refLength_any y m wx m1 m2)
  have HM := hideS (fun wx => refMonth_ok y m d k wx y1 y2 m1 m2 h0 h1)
  unfold monI
  have l1 := len_lo (toY y m k) (toM y m k)
  have l2 := len_lo y m
  clear h h0 h1
  generalize toY y m k = Y at *
  generalize toM y m k = M at *
  generalize lenI Y M = L at *
  generalize lenI y m = l at *
  rcases (show (L < d ∧ en = true ∧ d = l) ∨ (d ≤ L ∧ en = true ∧ d = l) ∨ (L < d ∧ en = true ∧ d ≠ l) ∨ (d ≤ L ∧ en = true ∧ d ≠ l) ∨ (L < d ∧ en = false) ∨ (d ≤ L ∧ en = false) by cases en <;> simp <;> omega) with ⟨hd, rfl, he⟩ | ⟨hd, rfl, he⟩ | ⟨hd, rfl, he⟩ | ⟨hd, rfl, he⟩ | ⟨hd, rfl⟩ | ⟨hd, rfl⟩
  · have hD := toD_end (L := L) he
    rw [hD] at HO ⊢
    clear hD
    have he' : (d == l) = true := by rw [beq_iff_eq]; exact he
    clear he
    generalize dayI Y M L = R at *
    go_enter Try.func43, Try.ntmps43
    go_wp2_with (first | (go_at_call 41; refine (HC.out _).mono ?_; rintro e w1 ⟨rfl, hb1⟩) | (go_at_call 42; refine (HM.out _).mono ?_; rintro e w2 ⟨rfl, hb2⟩))
    obtain ⟨c0, c1, c2⟩ := date_cells hb2
    have HB := hideS (month_below hb1 hb2)
    clear hb1 hb2
    go_quiet ((go_at_call 63; exact Calls.quiet_of_same (HL1.out _)))
    go_wp2_with fail
    obtain ⟨w3, hw3, c0, c1, c2, HB⟩ := letter3 nq c0 c1 c2 HB
    rw [hw3]
    clear hw3
    go_quiet ((go_at_call 63; exact Calls.quiet_of_same (HL2.out _)))
    go_wp2_with (first | (go_at_call 63; refine (HL1.out _).mono ?_; rintro e w' ⟨rfl, rfl⟩) | (go_at_call 45; refine (HO.out _).mono ?_; rintro e w' ⟨rfl, rfl⟩))
    go_ret2
    exact ⟨rfl, below_drewN HB.out⟩
  · have hD := toD_end (L := L) he
    rw [hD] at HO ⊢
    clear hD
    have he' : (d == l) = true := by rw [beq_iff_eq]; exact he
    clear he
    generalize dayI Y M L = R at *
    go_enter Try.func43, Try.ntmps43
    go_wp2_with (first | (go_at_call 41; refine (HC.out _).mono ?_; rintro e w1 ⟨rfl, hb1⟩) | (go_at_call 42; refine (HM.out _).mono ?_; rintro e w2 ⟨rfl, hb2⟩))
    obtain ⟨c0, c1, c2⟩ := date_cells hb2
    have HB := hideS (month_below hb1 hb2)
    clear hb1 hb2
    go_quiet ((go_at_call 63; exact Calls.quiet_of_same (HL1.out _)))
    go_wp2_with fail
    obtain ⟨w3, hw3, c0, c1, c2, HB⟩ := letter3 nq c0 c1 c2 HB
    rw [hw3]
    clear hw3
    go_quiet ((go_at_call 63; exact Calls.quiet_of_same (HL2.out _)))
    go_wp2_with (first | (go_at_call 63; refine (HL1.out _).mono ?_; rintro e w' ⟨rfl, rfl⟩) | (go_at_call 45; refine (HO.out _).mono ?_; rintro e w' ⟨rfl, rfl⟩))
    go_ret2
    exact ⟨rfl, below_drewN HB.out⟩
  · have hD := toD_far (l := l) (e := true) hd
    rw [hD] at HO ⊢
    clear hD
    have he' : (d == l) = false := by rw [beq_eq_false_iff_ne]; exact he
    clear he
    generalize dayI Y M L = R at *
    go_enter Try.func43, Try.ntmps43
    go_wp2_with (first | (go_at_call 41; refine (HC.out _).mono ?_; rintro e w1 ⟨rfl, hb1⟩) | (go_at_call 42; refine (HM.out _).mono ?_; rintro e w2 ⟨rfl, hb2⟩))
    obtain ⟨c0, c1, c2⟩ := date_cells hb2
    have HB := hideS (month_below hb1 hb2)
    clear hb1 hb2
    go_quiet ((go_at_call 63; exact Calls.quiet_of_same (HL1.out _)))
    go_wp2_with fail
    obtain ⟨w3, hw3, c0, c1, c2, HB⟩ := letter3 nq c0 c1 c2 HB
    rw [hw3]
    clear hw3
    go_quiet ((go_at_call 63; exact Calls.quiet_of_same (HL2.out _)))
    go_wp2_with (first | (go_at_call 63; refine (HL1.out _).mono ?_; rintro e w' ⟨rfl, rfl⟩) | (go_at_call 45; refine (HO.out _).mono ?_; rintro e w' ⟨rfl, rfl⟩))
    go_ret2
    exact ⟨rfl, below_drewN HB.out⟩
  · have hD := toD_in (l := l) (e := true) hd (fun a => he a.2)
    rw [hD] at HO ⊢
    clear hD
    have he' : (d == l) = false := by rw [beq_eq_false_iff_ne]; exact he
    clear he
    generalize dayI Y M d = R at *
    go_enter Try.func43, Try.ntmps43
    go_wp2_with (first | (go_at_call 41; refine (HC.out _).mono ?_; rintro e w1 ⟨rfl, hb1⟩) | (go_at_call 42; refine (HM.out _).mono ?_; rintro e w2 ⟨rfl, hb2⟩))
    obtain ⟨c0, c1, c2⟩ := date_cells hb2
    have HB := hideS (month_below hb1 hb2)
    clear hb1 hb2
    go_quiet ((go_at_call 63; exact Calls.quiet_of_same (HL1.out _)))
    go_wp2_with fail
    obtain ⟨w3, hw3, c0, c1, c2, HB⟩ := letter3 nq c0 c1 c2 HB
    rw [hw3]
    clear hw3
    go_quiet ((go_at_call 63; exact Calls.quiet_of_same (HL2.out _)))
    go_wp2_with (first | (go_at_call 63; refine (HL1.out _).mono ?_; rintro e w' ⟨rfl, rfl⟩) | (go_at_call 45; refine (HO.out _).mono ?_; rintro e w' ⟨rfl, rfl⟩))
    go_ret2
    exact ⟨rfl, below_drewN HB.out⟩
  · have hD := toD_far (l := l) (e := false) hd
    rw [hD] at HO ⊢
    clear hD
    generalize dayI Y M L = R at *
    go_enter Try.func43, Try.ntmps43
    go_wp2_with (first | (go_at_call 41; refine (HC.out _).mono ?_; rintro e w1 ⟨rfl, hb1⟩) | (go_at_call 42; refine (HM.out _).mono ?_; rintro e w2 ⟨rfl, hb2⟩))
    obtain ⟨c0, c1, c2⟩ := date_cells hb2
    have HB := hideS (month_below hb1 hb2)
    clear hb1 hb2
    go_quiet ((go_at_call 63; exact Calls.quiet_of_same (HL1.out _)))
    go_wp2_with fail
    obtain ⟨w3, hw3, c0, c1, c2, HB⟩ := letter3 nq c0 c1 c2 HB
    rw [hw3]
    clear hw3
    go_quiet ((go_at_call 63; exact Calls.quiet_of_same (HL2.out _)))
    go_wp2_with (first | (go_at_call 63; refine (HL1.out _).mono ?_; rintro e w' ⟨rfl, rfl⟩) | (go_at_call 45; refine (HO.out _).mono ?_; rintro e w' ⟨rfl, rfl⟩))
    go_ret2
    exact ⟨rfl, below_drewN HB.out⟩
  · have hD := toD_in (l := l) (e := false) hd (fun a => Bool.noConfusion a.1)
    rw [hD] at HO ⊢
    clear hD
    generalize dayI Y M d = R at *
    go_enter Try.func43, Try.ntmps43
    go_wp2_with (first | (go_at_call 41; refine (HC.out _).mono ?_; rintro e w1 ⟨rfl, hb1⟩) | (go_at_call 42; refine (HM.out _).mono ?_; rintro e w2 ⟨rfl, hb2⟩))
    obtain ⟨c0, c1, c2⟩ := date_cells hb2
    have HB := hideS (month_below hb1 hb2)
    clear hb1 hb2
    go_quiet ((go_at_call 63; exact Calls.quiet_of_same (HL1.out _)))
    go_wp2_with fail
    obtain ⟨w3, hw3, c0, c1, c2, HB⟩ := letter3 nq c0 c1 c2 HB
    rw [hw3]
    clear hw3
    go_quiet ((go_at_call 63; exact Calls.quiet_of_same (HL2.out _)))
    go_wp2_with (first | (go_at_call 63; refine (HL1.out _).mono ?_; rintro e w' ⟨rfl, rfl⟩) | (go_at_call 45; refine (HO.out _).mono ?_; rintro e w' ⟨rfl, rfl⟩))
    go_ret2
    exact ⟨rfl, below_drewN HB.out⟩
end Go.Proofs.Ytelghkhcplmnmaa
namespace Go.Proofs.Ytelghkhcplmnmaa
open Go.RowKit

theorem and_one (n : Int) : bits .and .i64 n 1 = n % 2 := by
  have h1 : (BitVec.ofInt 64 1).toNat = 2 ^ 1 - 1 := by decide
  have key : (BitVec.ofInt 64 n &&& BitVec.ofInt 64 1).toNat = (n % ((2 ^ 64 : Nat) : Int)).toNat % 2 ^ 1 := by
    rw [BitVec.toNat_and, BitVec.toNat_ofInt, h1, Nat.and_two_pow_sub_one_eq_mod]
  show IntKind.i64.wrap ((BitVec.ofInt 64 n &&& BitVec.ofInt 64 1).toNat : Nat) = n % 2
  rw [key, IntKind.wrap_i64]
  omega
theorem tmod7 (n : Int) : ∃ a, n.tmod 7 = a ∧ -6 ≤ a ∧ a ≤ 6 ∧ (a + 7) % 7 = n % 7 := by
  rcases Int.le_total 0 n with h | h
  · exact ⟨n % 7, Int.tmod_eq_emod_of_nonneg h, by omega, by omega, by omega⟩
  · refine ⟨-((-n) % 7), ?_, by omega, by omega, by omega⟩
    have e := Int.neg_tmod (-n) 7
    rw [Int.neg_neg] at e
    rw [e, Int.tmod_eq_emod_of_nonneg (by omega)]

def calV (W : Int) (v : Value) : Value := .agg #[.int .i64 W, v]

set_option maxHeartbeats 400000 in
theorem refOff_any (W n : Int) (v : Value) (w : World) :
    Calls Try.prog 74 #[.agg #[.int .i64 W, v], .int .i64 n] w fun e w' => e = .returned (.bool (offB W n)) ∧ Below w.heap.size w w' := by
  obtain ⟨a, ha, a0, a1, hak0⟩ := tmod7 n
  obtain ⟨k, hk⟩ : ∃ k : Nat, n % 7 = k := ⟨(n % 7).toNat, by omega⟩
  have hak : (a + 7) % 7 = (k : Int) := by omega
  have hk6 : k ≤ 6 := by omega
  have hand := and_one (W / 2 ^ k)
  unfold offB
  rw [hk]
  have HE : Hid ((W / ((2 ^ (((k : Nat) : Int)).toNat : Nat) : Int) % 2 == 1) = (W / 2 ^ k % 2 == 1)) := by
    show _ = _
    rw [Int.toNat_natCast, Int.natCast_pow]; rfl
  clear hak0 hk
  rw [HE.out]
  clear HE
  go_enter Try.func74, Try.ntmps74
  go_wp2_with fail
  go_ret
  exact ⟨rfl, (Below.refl w.heap.size w).alloc (Nat.le_refl _) _⟩

theorem cal_cells {w w1 : World} {W : Int} {v : Value} (hb : Below (w.heap.size + 1) (w.alloc (.cells #[.int .i64 W, v] 24)) w1) :
    w1.cell? ⟨w.heap.size, 0, none⟩ = some (.int .i64 W) ∧ w1.cell? ⟨w.heap.size, 1, none⟩ = some v := by
  refine ⟨?_, ?_⟩
  · rw [hb.cell (p := ⟨w.heap.size, 0, none⟩) (by simp)]; simp
  · rw [hb.cell (p := ⟨w.heap.size, 1, none⟩) (by simp)]; simp

/-- A box with a calendar in it stands at the call's first block. -/
def CBox (w : World) (W : Int) (v : Value) (wr : World) : Prop := Below (w.heap.size + 1) (w.alloc (.cells #[.int .i64 W, v] 24)) wr
theorem CBox.step {w wr w' : World} {W : Int} {v : Value} (h : CBox w W v wr) (hb : Below wr.heap.size wr w') : CBox w W v w' :=
  h.trans (hb.mono (by have := h.size; simp at this; omega))
theorem CBox.below {w wr : World} {W : Int} {v : Value} (h : CBox w W v wr) : Below w.heap.size w wr :=
  ((Below.refl w.heap.size w).alloc (Nat.le_refl _) _).trans (h.mono (by omega))
theorem CBox.first {w w' : World} {W : Int} {v : Value} (hb : Below (w.alloc (.cells #[.int .i64 W, v] 24)).heap.size (w.alloc (.cells #[.int .i64 W, v] 24)) w') : CBox w W v w' :=
  hb.mono (by simp)
theorem mov_cases {n mv : Int} {u d : Nat} {R : Int} (h : (if mv = 2 ∧ (d : Int) < u then n - d else n + u) = R) : (mv = 2 ∧ (d : Int) < u ∧ n - d = R) ∨ (mv = 2 ∧ ¬ (d : Int) < u ∧ n + u = R) ∨ (mv ≠ 2 ∧ n + u = R) := by
  by_cases a : mv = 2
  · by_cases b : (d : Int) < u
    · rw [if_pos ⟨a, b⟩] at h; exact Or.inl ⟨a, b, h⟩
    · rw [if_neg (fun c => b c.2)] at h; exact Or.inr (Or.inl ⟨a, b, h⟩)
  · rw [if_neg (fun c => a c.1)] at h; exact Or.inr (Or.inr ⟨a, h⟩)

set_option maxHeartbeats 1600000 in
theorem refMoved_any (W n mv : Int) (v : Value) (u d : Nat) (w : World) (n0 : -500000 ≤ n) (n1 : n ≤ 500000) (hu : Ups W n u d) :
    Calls Try.prog 83 #[.agg #[.int .i64 W, v], .int .i64 n, .int .i64 mv] w fun e w' => e = .returned (.int .i64 (movI W n mv u d)) ∧ Below w.heap.size w w' := by
  have HO := hideS (fun (k : Int) (wx : World) => refOff_any W k v wx)
  have HU := hideS hu
  have u6 := hu.ub
  have d6 := hu.db
  obtain ⟨R, hR⟩ : ∃ R, movI W n mv u d = R := ⟨_, rfl⟩
  rw [hR]
  have HR := hideS hR
  clear hR hu
  by_cases hz : mv = 0
  · have HE : Hid (n = R) := by
      show _ = _
      rw [← HR.out]; unfold movI; rw [if_pos (Or.inl hz)]
    go_enter Try.func83, Try.ntmps83
    go_wp2_with fail
    go_ret
    obtain rfl := HE.out
    exact ⟨rfl, (Below.refl w.heap.size w).alloc (Nat.le_refl _) _⟩
  · have hz' : (mv == 0) = false := by rw [beq_eq_false_iff_ne]; exact hz
    have HOn := hideS (fun wx => HO.out n wx)
    cases ho : offB W n
    · rw [ho] at HOn
      have HE : Hid (n = R) := by
        show _ = _
        rw [← HR.out]; unfold movI; rw [if_pos (Or.inr ho)]
      clear hz
      go_enter Try.func83, Try.ntmps83
      go_wp2_with (go_at_call 74; refine (HOn.out _).mono ?_; rintro e w1 ⟨rfl, hb1⟩)
      go_ret
      obtain rfl := HE.out
      exact ⟨rfl, ((Below.refl w.heap.size w).alloc (Nat.le_refl _) _).trans (hb1.mono (by simp))⟩
    · rw [ho] at HOn
      have HE : Hid ((if mv = 2 ∧ (d : Int) < u then n - d else n + u) = R) := by
        show _ = _
        rw [← HR.out]
        show _ = if mv = 0 ∨ offB W n = false then n else _
        rw [if_neg (show ¬ (mv = 0 ∨ offB W n = false) from fun a => by
          rcases a with a | a
          · exact hz a
          · rw [ho] at a; exact Bool.noConfusion a)]
      clear hz ho HR
      go_enter Try.func83, Try.ntmps83
      go_wp2_with (go_at_call 74; refine (HOn.out _).mono ?_; rintro e w1 ⟨rfl, hb1⟩; have HB1 := hideS (CBox.first hb1); clear hb1)
      go_loopw [7] (fun i wr => ∃ (j : Nat) (I : Int), j ≤ u ∧ n ≤ I ∧ I ≤ n + 6 ∧ i = .int .i64 I ∧ Hid (I = n + j) ∧ Hid (CBox w W v wr)) (fun i _ => (n + u - intOf i).toNat)
      case atStart => exact ⟨0, n, by omega, by omega, by omega, rfl, by show _ = _; omega, HB1⟩
      case round =>
        obtain ⟨j, I, hj, hI0, hI1, rfl, HI, HB⟩ := hrel
        obtain ⟨c0, c1⟩ := cal_cells HB.out
        have HOi := hideS (fun wx => HO.out I wx)
        by_cases hlt : j < u
        · have e1 : offB W I = true := by rw [HI.out]; exact HU.out.uo j hlt
          rw [e1] at HOi
          have HIl : Hid (I < n + u) := by have := HI.out; show _ < _; omega
          clear e1
          go_wp2_with (go_at_call 74; refine (HOi.out _).mono ?_; rintro e w2 ⟨rfl, hb2⟩; have HB2 := hideS (HB.out.step hb2); clear hb2)
          go_roundw
          case rel => exact ⟨j + 1, I + 1, by omega, by omega, by have := HIl.out; omega, rfl, by have := HI.out; show _ = _; omega, HB2⟩
          case measure => have := HIl.out; simp [intOf]; omega
        · have hju : j = u := by omega
          have e1 : offB W I = false := by rw [HI.out, hju]; exact HU.out.uf
          rw [e1] at HOi
          have HIu : Hid (I = n + u) := by have := HI.out; show _ = _; omega
          clear e1 hju hlt hj HI HB1
          go_wp2_with (go_at_call 74; refine (HOi.out _).mono ?_; rintro e w2 ⟨rfl, hb2⟩; have HB2 := hideS (HB.out.step hb2); clear hb2)
          go_loopw [8] (fun i wr => ∃ (j : Nat) (K : Int), j ≤ d ∧ n - 6 ≤ K ∧ K ≤ n ∧ i = .int .i64 K ∧ Hid (K = n - j) ∧ Hid (CBox w W v wr)) (fun i _ => (intOf i - (n - d)).toNat)
          case atStart => exact ⟨0, n, by omega, by omega, by omega, rfl, by show _ = _; omega, HB2⟩
          case round =>
            clear c0 c1 HB HB2 HOi
            obtain ⟨j, K, hj, hK0, hK1, rfl, HK, HB⟩ := hrel
            obtain ⟨c0, c1⟩ := cal_cells HB.out
            have HOi := hideS (fun wx => HO.out K wx)
            by_cases hlt : j < d
            · have e1 : offB W K = true := by rw [HK.out]; exact HU.out.dn j hlt
              rw [e1] at HOi
              have HKl : Hid (n - d < K) := by have := HK.out; show _ < _; omega
              clear e1
              go_wp2_with (go_at_call 74; refine (HOi.out _).mono ?_; rintro e w2 ⟨rfl, hb2⟩; have HB2 := hideS (HB.out.step hb2); clear hb2)
              go_roundw
              case rel => exact ⟨j + 1, K - 1, by omega, by have := HKl.out; omega, by omega, rfl, by have := HK.out; show _ = _; omega, HB2⟩
              case measure => have := HKl.out; simp [intOf]; omega
            · have hju : j = d := by omega
              have e1 : offB W K = false := by rw [HK.out, hju]; exact HU.out.df
              rw [e1] at HOi
              have HKd : Hid (K = n - d) := by have := HK.out; show _ = _; omega
              clear e1 hju hlt hj HK
              rcases mov_cases HE.out with ⟨a, b, c⟩ | ⟨a, b, c⟩ | ⟨a, c⟩
              · have hlt : n - K < I - n := by have := HKd.out; have := HIu.out; omega
                have HRR : Hid (K = R) := by have := HKd.out; show _ = _; omega
                clear b c HE HKd HIu
                go_wp2_with (go_at_call 74; refine (HOi.out _).mono ?_; rintro e w2 ⟨rfl, hb2⟩; have HB2 := hideS (HB.out.step hb2); clear hb2)
                go_ret
                obtain rfl := HRR.out
                exact ⟨rfl, HB2.out.below⟩
              · have hlt : ¬ n - K < I - n := by have := HKd.out; have := HIu.out; omega
                have HRR : Hid (I = R) := by have := HIu.out; show _ = _; omega
                clear b c HE HKd HIu
                go_wp2_with (go_at_call 74; refine (HOi.out _).mono ?_; rintro e w2 ⟨rfl, hb2⟩; have HB2 := hideS (HB.out.step hb2); clear hb2)
                go_ret
                obtain rfl := HRR.out
                exact ⟨rfl, HB2.out.below⟩
              · have ha : (mv == 2) = false := by rw [beq_eq_false_iff_ne]; exact a
                have HRR : Hid (I = R) := by have := HIu.out; show _ = _; omega
                clear a c HE HKd HIu
                go_wp2_with (go_at_call 74; refine (HOi.out _).mono ?_; rintro e w2 ⟨rfl, hb2⟩; have HB2 := hideS (HB.out.step hb2); clear hb2)
                go_ret
                obtain rfl := HRR.out
                exact ⟨rfl, HB2.out.below⟩

set_option maxHeartbeats 800000 in
theorem refNth_any (y m wd k : Int) (w : World) (h : ymB y m) (d0 : 0 ≤ wd) (d1 : wd ≤ 6) (k1 : 1 ≤ k) (k5 : k ≤ 5) :
    Calls Try.prog 81 #[.int .i64 y, .int .i64 m, .int .i64 wd, .int .i64 k] w fun e w' => e = .returned (.int .i64 (nthI y m wd k)) ∧ w' = w := by
  have HOf := hideS (refOf_ok y m 1 w (okD_first h 1 (by omega) (by omega)))
  have HL := hideS (refLengthP_ok y m w h)
  obtain ⟨f0, f1⟩ := (isD_of (okD_first h 1 (by omega) (by omega))).range
  have l0 := len_lo y m
  have l1 := len_hi y m
  obtain ⟨R, hR⟩ : ∃ R, nthI y m wd k = R := ⟨_, rfl⟩
  rw [hR]
  have HR : Hid ((if k = 5 ∧ dayI y m 1 + lenI y m ≤ dayI y m 1 + (wd - dayI y m 1) % 7 + 7 * (k - 1) then dayI y m 1 + (wd - dayI y m 1) % 7 + 7 * (k - 1) - 7 else dayI y m 1 + (wd - dayI y m 1) % 7 + 7 * (k - 1)) = R) := hR
  clear hR h
  generalize dayI y m 1 = f at *
  generalize lenI y m = L at *
  obtain ⟨t, ht⟩ : ∃ t, (wd - f) % 7 = t := ⟨_, rfl⟩
  rw [ht] at HR
  have HT := hideS ht
  have t0 : 0 ≤ t := by omega
  have t1 : t ≤ 6 := by omega
  clear ht
  go_enter Try.func81, Try.ntmps81
  go_wp2_with (first | (go_at_call 45; refine HOf.out.mono ?_; rintro e w' ⟨rfl, rfl⟩) | (go_at_call 44; refine HL.out.mono ?_; rintro e w' ⟨rfl, rfl⟩))
  clear HOf HL
  go_loop [13] (fun i => ∃ (I : Int), f ≤ I ∧ I ≤ f + t ∧ i = .int .i64 I ∧ Hid ((I + (wd - I) % 7) = f + t)) (fun i => (f + t - intOf i).toNat)
  case atStart => exact ⟨f, by omega, by omega, rfl, by have := HT.out; show _ = _; omega⟩
  case round =>
    obtain ⟨I, hI0, hI1, rfl, HI⟩ := hrel
    by_cases hw : I % 7 = wd
    · have HIt : Hid (I = f + t) := by have := HI.out; show _ = _; omega
      by_cases ha : k = 5
      · by_cases hb : f + L ≤ I + 7 * (k - 1)
        · have HRR : Hid (I + 7 * (k - 1) - 7 = R) := by
            have := HIt.out
            show _ = _
            rw [← HR.out, if_pos ⟨ha, by omega⟩]; omega
          clear HR HI HIt HT
          subst ha
          go_wp2_with fail
          go_ret
          obtain rfl := HRR.out
          exact ⟨rfl, rfl⟩
        · have HRR : Hid (I + 7 * (k - 1) = R) := by
            have := HIt.out
            show _ = _
            rw [← HR.out, if_neg (fun c => hb (by omega))]; omega
          clear HR HI HIt HT
          subst ha
          go_wp2_with fail
          go_ret
          obtain rfl := HRR.out
          exact ⟨rfl, rfl⟩
      · have HRR : Hid (I + 7 * (k - 1) = R) := by
          have := HIt.out
          show _ = _
          rw [← HR.out, if_neg (fun c => ha c.1)]; omega
        have ha' : (k == 5) = false := by rw [beq_eq_false_iff_ne]; exact ha
        clear HR HI HIt HT ha
        go_wp2_with fail
        go_ret
        obtain rfl := HRR.out
        exact ⟨rfl, rfl⟩
    · have HI' : Hid (I + 1 + (wd - (I + 1)) % 7 = f + t) := by have := HI.out; show _ = _; omega
      have hlt : I < f + t := by have := HI.out; omega
      have hw' : (I % 7 != wd) = true := by rw [bne_iff_ne]; exact hw
      clear hw
      go_wp2_with fail
      go_round
      case rel => exact ⟨I + 1, by omega, by omega, rfl, HI'⟩
      case measure => simp [intOf]; omega
end Go.Proofs.Ytelghkhcplmnmaa
