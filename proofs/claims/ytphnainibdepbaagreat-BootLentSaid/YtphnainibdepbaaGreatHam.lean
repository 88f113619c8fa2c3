/- The contracts of the document's in, fit and Check. The contract of the document's fit of an HFix rule, and of Check. The contracts of the document's thirty and actual. The contracts of the document's Check, asked, open, Holiday and Open. The contracts of the document's isDay, asked, open, Holiday, Open and search. The contracts of the document's month and Adjust. The contract of the document's Adjust at any calendar that may be. The contracts of the document's Add and Count. The contracts of the document's Count turned round or refused, and of moves. The contract of the document's Fraction. The document's Fraction where it refuses, and turned round. The document's Fraction turned round. The document's Fraction at any days. The document's Year where it refuses. What day counts keep: they add up, turn round and rise. No word of the program. What the program's almanac marks: no word of the program. The contracts of the program's isBetween, isDay, isWeekend and moved. The contracts of the program's rules: may they be? The contracts of the program's rules: their days in a year, ahead of the moving. The contract of the program's Check. The contract of the document's Months. -/
import Derived.Test.YtphnainibdepbaaGreatHal
import Derived.Laws.BitsAllLaws
import Derived.Laws.Bits64b
import Derived.BigQuiet
namespace Go.Proofs.YtphnainibdepbaaGreat
open Go.RowKit

theorem retB {a b : Bool} (h : a = b) : Ending.returned (.bool a) = .returned (.bool b) := by rw [h]
theorem fit4 (mon day nth wd off fr to mv : Int) : fitB ⟨4, mon, day, nth, wd, off, fr, to, mv⟩ = decide (mon = 0 ∧ nth = 0 ∧ wd = 0 ∧ off = 0 ∧ fr = 0 ∧ to = 0 ∧ mv = 0 ∧ 0 ≤ day ∧ day ≤ 109572) := by
  unfold fitB; dsimp only; rw [if_pos rfl]
def RngR (fr to mv : Int) : Prop := 1900 ≤ fr ∧ fr ≤ 2199 ∧ fr ≤ to ∧ to ≤ 2199 ∧ 0 ≤ mv ∧ mv ≤ 2
theorem fit_rng {kind mon day nth wd off fr to mv : Int} (h4 : kind ≠ 4) (h : ¬ RngR fr to mv) : fitB ⟨kind, mon, day, nth, wd, off, fr, to, mv⟩ = false := by
  unfold fitB; dsimp only; rw [if_neg h4, show decide (1900 ≤ fr ∧ fr ≤ 2199 ∧ fr ≤ to ∧ to ≤ 2199 ∧ 0 ≤ mv ∧ mv ≤ 2) = false from decide_eq_false h, Bool.false_and]
theorem fit1 {mon day nth wd off fr to mv : Int} (h : RngR fr to mv) : fitB ⟨1, mon, day, nth, wd, off, fr, to, mv⟩ = decide (nth = 0 ∧ wd = 0 ∧ off = 0 ∧ 1 ≤ mon ∧ mon ≤ 12 ∧ 1 ≤ day ∧ day ≤ mostI mon) := by
  unfold fitB; dsimp only
  rw [if_neg (by decide), show decide (1900 ≤ fr ∧ fr ≤ 2199 ∧ fr ≤ to ∧ to ≤ 2199 ∧ 0 ≤ mv ∧ mv ≤ 2) = true from decide_eq_true h, Bool.true_and, if_pos rfl]
theorem fit2 {mon day nth wd off fr to mv : Int} (h : RngR fr to mv) : fitB ⟨2, mon, day, nth, wd, off, fr, to, mv⟩ = decide (day = 0 ∧ off = 0 ∧ 1 ≤ mon ∧ mon ≤ 12 ∧ 0 ≤ wd ∧ wd ≤ 6 ∧ 1 ≤ nth ∧ nth ≤ 5) := by
  unfold fitB; dsimp only
  rw [if_neg (by decide), show decide (1900 ≤ fr ∧ fr ≤ 2199 ∧ fr ≤ to ∧ to ≤ 2199 ∧ 0 ≤ mv ∧ mv ≤ 2) = true from decide_eq_true h, Bool.true_and, if_neg (by decide), if_pos rfl]
theorem fit3 {mon day nth wd off fr to mv : Int} (h : RngR fr to mv) : fitB ⟨3, mon, day, nth, wd, off, fr, to, mv⟩ = decide (mon = 0 ∧ day = 0 ∧ nth = 0 ∧ wd = 0 ∧ -100 ≤ off ∧ off ≤ 100) := by
  unfold fitB; dsimp only
  rw [if_neg (by decide), show decide (1900 ≤ fr ∧ fr ≤ 2199 ∧ fr ≤ to ∧ to ≤ 2199 ∧ 0 ≤ mv ∧ mv ≤ 2) = true from decide_eq_true h, Bool.true_and, if_neg (by decide), if_neg (by decide), if_pos rfl]
theorem fit_no {kind mon day nth wd off fr to mv : Int} (h1 : kind ≠ 1) (h2 : kind ≠ 2) (h3 : kind ≠ 3) (h4 : kind ≠ 4) : fitB ⟨kind, mon, day, nth, wd, off, fr, to, mv⟩ = false := by
  unfold fitB; dsimp only
  rw [if_neg h4, if_neg h1, if_neg h2, if_neg h3, Bool.and_false]

end Go.Proofs.YtphnainibdepbaaGreat
namespace Go.Proofs.YtphnainibdepbaaGreat
open Go.RowKit

theorem below_drewN' {B : Nat} {w w2 : World} {n : Nat} (hb : Below B w w2) : Below B w (w2.drewN n) := ⟨hb.os, hb.tape, hb.output, hb.size, hb.block⟩
theorem old_cell {w : World} (o : Obj) (p : Addr) (h : p.block < w.heap.size) : (w.alloc o).cell? p = w.cell? p := ((Below.refl _ w).alloc (Nat.le_refl _) o).cell h
theorem new_cell {w : World} {v : Value} (cs : Array Value) (t : TypeId) (k : Nat) (h : cs[k]? = some v) {o : Obj} : ((w.alloc o).alloc (.cells cs t)).cell? ⟨w.heap.size + 1, k, none⟩ = some v := by
  rw [show w.heap.size + 1 = (w.alloc o).heap.size by simp]
  simp [h]
theorem new_cell0 (W : World) (cs : Array Value) (t : TypeId) (k : Nat) : (W.alloc (.cells cs t)).cell? ⟨W.heap.size, k, none⟩ = cs[k]? := by simp
end Go.Proofs.YtphnainibdepbaaGreat
namespace Go.Proofs.YtphnainibdepbaaGreat
open Go.RowKit

end Go.Proofs.YtphnainibdepbaaGreat
namespace Go.Proofs.YtphnainibdepbaaGreat
open Go.RowKit

end Go.Proofs.YtphnainibdepbaaGreat
namespace Go.Proofs.YtphnainibdepbaaGreat
open Go.RowKit

end Go.Proofs.YtphnainibdepbaaGreat
namespace Go.Proofs.YtphnainibdepbaaGreat
open Go.RowKit

end Go.Proofs.YtphnainibdepbaaGreat
namespace Go.Proofs.YtphnainibdepbaaGreat
open Go.RowKit

end Go.Proofs.YtphnainibdepbaaGreat
namespace Go.Proofs.YtphnainibdepbaaGreat
open Go.RowKit

end Go.Proofs.YtphnainibdepbaaGreat
namespace Go.Proofs.YtphnainibdepbaaGreat
open Go.RowKit

end Go.Proofs.YtphnainibdepbaaGreat
namespace Go.Proofs.YtphnainibdepbaaGreat
open Go.RowKit

noncomputable def moD (n : Int) : Int := moI n - 12 * yrI n
noncomputable def daD (n : Int) : Int := n - nyI (yrI n) - cumI (yrI n) (moD n) + 1
theorem date_of {n y m d : Int} (h : IsD n y m d) : yrI n = y ∧ moD n = m ∧ daD n = d := by
  have e1 := yr_eq h
  have e2 : moD n = m := by unfold moD; rw [mo_eq h, e1]; omega
  refine ⟨e1, e2, ?_⟩
  unfold daD
  rw [e1, e2]
  have := h.2
  unfold dayI at this
  omega
noncomputable def fracP (op : Int → Bool) (kind a b : Int) : Int :=
  if kind = 1 ∨ kind = 2 then b - a else if kind = 3 then accI (yrI b) b - accI (yrI a) a else if kind = 6 then (cntN op a (b - a).toNat : Nat) else thirI kind (yrI a) (moD a) (daD a) (yrI b) (moD b) (daD b)
def fracQ (kind : Int) : Int := if kind = 2 then 365 else if kind = 3 then 133590 else if kind = 6 then 252 else 360

structure PBoxN (w : World) (W : Int) (v : Value) (wr : World) : Prop where
  a0 : wr.cell? ⟨w.heap.size, 0, none⟩ = some (.int .i64 W)
  a1 : wr.cell? ⟨w.heap.size, 1, none⟩ = some v
  d0 : wr.cell? ⟨w.heap.size + 1, 0, none⟩ = some (.int .i64 0)
  d1 : wr.cell? ⟨w.heap.size + 1, 1, none⟩ = some (.int .i64 0)
  f0 : wr.frozen? ⟨w.heap.size + 1, 0, none⟩ = false
  f1 : wr.frozen? ⟨w.heap.size + 1, 1, none⟩ = false
  bl : Below w.heap.size w wr
  sz : w.heap.size + 2 ≤ wr.heap.size
theorem PBoxN.step {w wr w' : World} {W : Int} {v : Value} (h : PBoxN w W v wr) (hb : Below wr.heap.size wr w') : PBoxN w W v w' := by
  have hz := h.sz
  have c : ∀ k < w.heap.size + 2, ∀ j, w'.cell? ⟨k, j, none⟩ = wr.cell? ⟨k, j, none⟩ := fun k hk j => hb.cell (p := ⟨k, j, none⟩) (by show k < _; omega)
  have f : ∀ k < w.heap.size + 2, ∀ j, w'.frozen? ⟨k, j, none⟩ = wr.frozen? ⟨k, j, none⟩ := fun k hk j => hb.frozen (p := ⟨k, j, none⟩) (by show k < _; omega)
  exact ⟨(c _ (by omega) _).trans h.a0, (c _ (by omega) _).trans h.a1, (c _ (by omega) _).trans h.d0, (c _ (by omega) _).trans h.d1, (f _ (by omega) _).trans h.f0, (f _ (by omega) _).trans h.f1, h.bl.trans (hb.mono h.bl.size), Nat.le_trans h.sz hb.size⟩
end Go.Proofs.YtphnainibdepbaaGreat
namespace Go.Proofs.YtphnainibdepbaaGreat
open Go.RowKit

def badD (a b : Int) : Prop := ¬ (isDayP a ∧ isDayP b)
end Go.Proofs.YtphnainibdepbaaGreat
namespace Go.Proofs.YtphnainibdepbaaGreat
open Go.RowKit

end Go.Proofs.YtphnainibdepbaaGreat
namespace Go.Proofs.YtphnainibdepbaaGreat
open Go.RowKit

theorem fracP_bd (op : Int → Bool) {kind a b : Int} (ha : isDayP a) (hb : isDayP b) (hab : a ≤ b) : -1000000000 ≤ fracP op kind a b ∧ fracP op kind a b ≤ 1000000000 := by
  obtain ⟨ya, ma, da, hA⟩ := isD_ex ha.1 ha.2
  obtain ⟨yb, mb, db, hB⟩ := isD_ex hb.1 hb.2
  obtain ⟨e1, e2, e3⟩ := date_of hA
  obtain ⟨f1, f2, f3⟩ := date_of hB
  unfold fracP
  rw [e1, e2, e3, f1, f2, f3]
  have ra := hA.year
  have rb := hB.year
  obtain ⟨⟨a1, a2, a3, a4, a5, a6⟩, _⟩ := hA
  obtain ⟨⟨b1, b2, b3, b4, b5, b6⟩, _⟩ := hB
  have la := len_hi ya ma
  have lb := len_hi yb mb
  have c := cnt_le op a (b - a).toNat
  have xa := acc_bd (y := ya) (n := a) a1 (by omega) ra.1 (by omega)
  have xb := acc_bd (y := yb) (n := b) b1 (by omega) rb.1 (by omega)
  obtain ⟨a7, a8⟩ := ha
  obtain ⟨b7, b8⟩ := hb
  split
  · omega
  · split
    · omega
    · split
      · omega
      · unfold thirI
        split <;> omega
noncomputable def fracS (op : Int → Bool) (kind a b : Int) : Int := if b < a then -fracP op kind b a else fracP op kind a b
theorem fracS_bd (op : Int → Bool) {kind a b : Int} (ha : isDayP a) (hb : isDayP b) : -1000000000 ≤ fracS op kind a b ∧ fracS op kind a b ≤ 1000000000 := by
  unfold fracS
  split
  · have := fracP_bd op (kind := kind) hb ha (by omega); omega
  · exact fracP_bd op ha hb (by omega)
end Go.Proofs.YtphnainibdepbaaGreat
namespace Go.Proofs.YtphnainibdepbaaGreat
open Go.RowKit

end Go.Proofs.YtphnainibdepbaaGreat
namespace Go.Proofs.YtphnainibdepbaaGreat
open Go.RowKit

end Go.Proofs.YtphnainibdepbaaGreat
namespace Go.Proofs.YtphnainibdepbaaGreat
open Go.RowKit

open Classical in
noncomputable def givO (r : Rul) (y : Int) : Option Int := if r.kind = 4 then (if yrI r.day = y then some r.day else none) else baseO r y
noncomputable def mkB (W : Int) (r : Rul) (y n : Int) : Bool := (givO r y).map (fun g => mvI W g r.mv) == some n
noncomputable def mkT (W : Int) (r : Rul) (Y n : Int) : Nat → Bool
  | 0 => false
  | t + 1 => mkT W r Y n t || mkB W r (Y - 1 + t) n
noncomputable def mkK (W : Int) (rs : List Rul) (Y n : Int) : Nat → Bool
  | 0 => false
  | k + 1 => mkK W rs Y n k || mkT W (rs.getD k rul0) Y n 3

theorem mv_zero {W n : Int} (h0 : 0 ≤ W) (h1 : W ≤ 126) : mvI W n 0 = n := by
  obtain ⟨u, d, hu⟩ := ups_ex h0 h1 n
  rw [mv_eq hu]; unfold movI; rw [if_pos (Or.inl rfl)]
theorem mkT_hit {W : Int} {r : Rul} {Y n : Int} (h0 : 0 ≤ W) (h1 : W ≤ 126) (hf : fitB r = true) (hy : yrI n = Y) : mkT W r Y n 3 = hitB W r n Y := by
  show (((false || mkB W r (Y - 1 + ((0 : Nat) : Int)) n) || mkB W r (Y - 1 + ((1 : Nat) : Int)) n) || mkB W r (Y - 1 + ((2 : Nat) : Int)) n) = _
  rw [show Y - 1 + ((0 : Nat) : Int) = Y - 1 by omega, show Y - 1 + ((1 : Nat) : Int) = Y by omega, show Y - 1 + ((2 : Nat) : Int) = Y + 1 by omega, Bool.false_or]
  unfold hitB
  by_cases k4 : r.kind = 4
  · rw [if_pos k4]
    have hmv : r.mv = 0 := by
      rcases fit_cases hf with ⟨_, _, _, a⟩ | ⟨_, ⟨a, _⟩ | ⟨a, _⟩ | ⟨a, _⟩⟩
      · exact a
      · omega
      · omega
      · omega
    have key : ∀ y, mkB W r y n = (decide (yrI r.day = y) && (r.day == n)) := fun y => by
      unfold mkB givO
      rw [if_pos k4]
      by_cases e : yrI r.day = y
      · rw [if_pos e, Option.map_some, hmv, mv_zero h0 h1, decide_eq_true e, Bool.true_and]; rfl
      · rw [if_neg e, decide_eq_false e, Bool.false_and]; rfl
    rw [key, key, key]
    by_cases e : r.day = n
    · rw [e, hy, decide_eq_true (rfl : Y = Y)]
      simp
    · rw [beq_eq_false_iff_ne.2 e]
      simp
  · rw [if_neg k4]
    have key : ∀ y, mkB W r y n = (dayO W r y == some n) := fun y => by
      unfold mkB givO dayO
      rw [if_neg k4]
    rw [key, key, key]
theorem mkK_hol {W : Int} {rs : List Rul} {Y n : Int} (h0 : 0 ≤ W) (h1 : W ≤ 126) (hf : ∀ r ∈ rs, fitB r = true) (hy : yrI n = Y) : mkK W rs Y n rs.length = holB W rs n Y := by
  have key : ∀ k, k ≤ rs.length → mkK W rs Y n k = (rs.take k).any fun r => hitB W r n Y := fun k => by
    induction k with
    | zero => intro _; rfl
    | succ k ih =>
      intro hk
      have e : rs[k]? = some (rs.getD k rul0) := by simp [List.getD, List.getElem?_eq_getElem (show k < rs.length by omega)]
      show (mkK W rs Y n k || mkT W (rs.getD k rul0) Y n 3) = _
      rw [ih (by omega), mkT_hit h0 h1 (hf _ (getD_mem (by omega))) hy, List.take_add_one, e, List.any_append]
      simp
  rw [key _ (Nat.le_refl _), List.take_length]
  rfl
theorem yr_of {n Y : Int} (y0 : 1900 ≤ Y) (y1 : Y ≤ 2199) (h : nyI Y ≤ n) (h' : n < nyI (Y + 1)) : yrI n = Y := by
  have a := ny_mono (y := 1900) (z := Y) (by omega) y0
  have b := ny_mono (y := Y + 1) (z := 2200) (by omega) (by omega)
  rw [ny_first] at a
  rw [ny_last] at b
  obtain ⟨y, m, d, hd⟩ := isD_ex (n := n) (by omega) (by omega)
  rw [yr_eq hd]
  have hy := hd.year
  have h0 := hd.1.1
  rcases Int.lt_trichotomy y Y with e | e | e
  · have := ny_mono (y := y + 1) (z := Y) (by omega) (by omega); omega
  · exact e
  · have := ny_mono (y := Y + 1) (z := y) (by omega) (by omega); omega
theorem yr_in {n : Int} (hn : isDayP n) : 1900 ≤ yrI n ∧ yrI n ≤ 2199 ∧ nyI (yrI n) ≤ n ∧ n < nyI (yrI n + 1) := by
  obtain ⟨y, m, d, hd⟩ := isD_ex hn.1 hn.2
  rw [yr_eq hd]
  exact ⟨hd.1.1, hd.1.2.1, hd.year⟩
theorem first_day (Y : Int) : dayI Y 1 1 = nyI Y := by unfold dayI; rw [cum_first]; omega
theorem last_day {Y : Int} (h : 1900 ≤ Y) : dayI Y 12 31 = nyI (Y + 1) - 1 := by
  have e := cum_succ (y := Y) (m := 12) (by omega) (by omega)
  rw [show (12 + 1 : Int) = 13 by decide, cum_last] at e
  have e2 : lenI Y 12 = 31 := by unfold lenI; rw [if_neg (by decide), if_neg (by decide)]
  rw [ny_succ h]
  unfold dayI
  omega
theorem okD_first1 {Y : Int} (y0 : 1900 ≤ Y) (y1 : Y ≤ 2199) : okD Y 1 1 := ⟨y0, y1, by decide, by decide, by decide, by have := len_lo Y 1; omega⟩
theorem okD_last {Y : Int} (y0 : 1900 ≤ Y) (y1 : Y ≤ 2199) : okD Y 12 31 := ⟨y0, y1, by decide, by decide, by decide, by unfold lenI; rw [if_neg (by decide), if_neg (by decide)]; decide⟩
theorem mkB_none {W : Int} {r : Rul} {y n : Int} (h : givO r y = none) : mkB W r y n = false := by unfold mkB; rw [h]; rfl
theorem mkB_some {W : Int} {r : Rul} {y n g : Int} (h : givO r y = some g) : mkB W r y n = decide (mvI W g r.mv = n) := by
  unfold mkB; rw [h, Option.map_some]
  by_cases e : mvI W g r.mv = n
  · rw [e, decide_eq_true rfl]; simp
  · rw [decide_eq_false e]; simpa using e
end Go.Proofs.YtphnainibdepbaaGreat
namespace Go.Proofs.YtphnainibdepbaaGreat
open Go.RowKit

theorem betweenQ_any (n lo hi : Int) (w : World) :
    Calls Tryz.prog 144 #[.int .i64 n, .int .i64 lo, .int .i64 hi] w fun e w' => e = .returned (.bool (decide (lo ≤ n ∧ n ≤ hi))) ∧ w' = w := by
  by_cases h1 : lo ≤ n <;> by_cases h2 : n ≤ hi
  all_goals
    first | rw [decide_eq_true (⟨h1, h2⟩ : lo ≤ n ∧ n ≤ hi)] | rw [decide_eq_false (fun h : lo ≤ n ∧ n ≤ hi => by omega)]
    go_enter Tryz.func144, Tryz.ntmps144
    go_wp2
    go_ret
    exact ⟨rfl, rfl⟩

theorem isDay6_any (n : Int) (w : World) :
    Calls Tryz.prog 132 #[.int .i64 n] w fun e w' => e = .returned (.bool (decide (isDayP n))) ∧ w' = w := by
  have HI := hideS (fun wx => betweenQ_any n 0 109572 wx)
  rw [show decide (isDayP n) = decide (0 ≤ n ∧ n ≤ 109572) from decide_eq_decide.2 Iff.rfl]
  generalize decide (0 ≤ n ∧ n ≤ 109572) = R at *
  go_enter Tryz.func132, Tryz.ntmps132
  go_wp2_with (go_at_call 144; refine (HI.out _).mono ?_; rintro e w1 ⟨rfl, rfl⟩)
  go_ret
  exact ⟨rfl, rfl⟩

theorem and_oneP (n : Int) : bits .and .i64 n 1 = n % 2 := by
  have h1 : (BitVec.ofInt 64 1).toNat = 2 ^ 1 - 1 := by decide
  have key : (BitVec.ofInt 64 n &&& BitVec.ofInt 64 1).toNat = (n % ((2 ^ 64 : Nat) : Int)).toNat % 2 ^ 1 := by
    rw [BitVec.toNat_and, BitVec.toNat_ofInt, h1, Nat.and_two_pow_sub_one_eq_mod]
  show IntKind.i64.wrap ((BitVec.ofInt 64 n &&& BitVec.ofInt 64 1).toNat : Nat) = n % 2
  rw [key, IntKind.wrap_i64]
  omega

set_option maxHeartbeats 400000 in
theorem isWeekend_any (W n : Int) (w : World) (n0 : -7 ≤ n) (n1 : n ≤ 1000000) :
    Calls Tryz.prog 145 #[.int .i64 W, .int .i64 n] w fun e w' => e = .returned (.bool (offB W n)) ∧ w' = w := by
  obtain ⟨k, hk⟩ : ∃ k : Nat, n % 7 = k := ⟨(n % 7).toNat, by omega⟩
  have hak : (n + 7) % 7 = (k : Int) := by omega
  have hk6 : k ≤ 6 := by omega
  have hand := and_oneP (W / 2 ^ k)
  unfold offB
  rw [hk]
  have HE : Hid ((W / ((2 ^ (((k : Nat) : Int)).toNat : Nat) : Int) % 2 == 1) = (W / 2 ^ k % 2 == 1)) := by
    show _ = _
    rw [Int.toNat_natCast, Int.natCast_pow]; rfl
  clear hk
  rw [HE.out]
  clear HE
  go_enter Tryz.func145, Tryz.ntmps145
  go_wp2_with fail
  go_ret
  exact ⟨rfl, rfl⟩

theorem mov_free {W n mv : Int} {u d : Nat} (hu : Ups W n u d) (h0 : u = 0) : movI W n mv u d = n := by
  unfold movI
  rw [if_pos (Or.inr (by have := hu.uf; rw [h0] at this; simpa using this))]
theorem mov_up {W n mv : Int} {u d : Nat} (hu : Ups W n u d) (hm : mv ≠ 0) (hd : mv = 2 → u ≤ d) : movI W n mv u d = n + u := by
  by_cases h0 : u = 0
  · rw [mov_free hu h0, h0]; omega
  · unfold movI
    have ho : offB W n = true := by have := hu.uo 0 (by omega); simpa using this
    rw [if_neg (fun a => by
      rcases a with a | a
      · exact hm a
      · rw [ho] at a; exact Bool.noConfusion a), if_neg (fun a => by have := hd a.1; omega)]
theorem mov_down {W n mv : Int} {u d : Nat} (hu : Ups W n u d) (hm : mv = 2) (hd : d < u) : movI W n mv u d = n - d := by
  unfold movI
  have ho : offB W n = true := by have := hu.uo 0 (by omega); simpa using this
  rw [if_neg (fun a => by
      rcases a with a | a
      · omega
      · rw [ho] at a; exact Bool.noConfusion a), if_pos ⟨hm, by omega⟩]

set_option maxHeartbeats 1600000 in
theorem moved_any (W n mv : Int) (u d : Nat) (w : World) (n0 : -1 ≤ n) (n1 : n ≤ 500000) (hu : Ups W n u d) :
    Calls Tryz.prog 161 #[.int .i64 n, .int .i64 mv, .int .i64 W] w fun e w' => e = .returned (.int .i64 (movI W n mv u d)) ∧ w' = w := by
  have HO : Hid (∀ x wx, -7 ≤ x → x ≤ 1000000 → Calls Tryz.prog 145 #[.int .i64 W, .int .i64 x] wx fun e w' => e = .returned (.bool (offB W x)) ∧ w' = wx) := fun x wx a b => isWeekend_any W x wx a b
  have HU := hideS hu
  have u6 := hu.ub
  have d6 := hu.db
  obtain ⟨R, hR⟩ : ∃ R, movI W n mv u d = R := ⟨_, rfl⟩
  rw [hR]
  have HR := hideS hR
  clear hR hu
  by_cases hz : mv = 0
  · have HE : Hid (n = R) := by
      show _ = _
      rw [← HR.out]; unfold movI; rw [if_pos (Or.inl hz)]
    subst hz
    go_enter Tryz.func161, Tryz.ntmps161
    go_wp2_with fail
    go_ret
    obtain rfl := HE.out
    exact ⟨rfl, rfl⟩
  · have hz' : (mv == 0) = false := beq_eq_false_iff_ne.2 hz
    have HZ := hideS hz
    clear hz
    go_enter Tryz.func161, Tryz.ntmps161
    go_wp2_with fail
    go_loop [11] (fun i => ∃ (k : Nat), k ≤ u ∧ i = .int .i64 k ∧ Hid (mv = 2 → k ≤ d)) (fun i => u + 1 - (intOf i).toNat)
    case atStart => exact ⟨0, by omega, rfl, fun _ => by omega⟩
    case round =>
      obtain ⟨k, hk, rfl, HK⟩ := hrel
      have hk7 : (k : Int) < 7 := by omega
      have H1 := hideS (fun wx => HO.out (n + k) wx (by omega) (by omega))
      by_cases hlt : k < u
      · have e1 : offB W (n + k) = true := HU.out.uo k hlt
        rw [e1] at H1
        clear e1
        by_cases h2 : mv = 2
        · have H2 := hideS (fun wx => HO.out (n - k) wx (by omega) (by omega))
          have hkd := HK.out h2
          by_cases hld : k < d
          · have e2 : offB W (n - k) = true := HU.out.dn k hld
            rw [e2] at H2
            clear e2
            subst h2
            go_wp2_with (first | (go_at_call_of 145 (Value.int IntKind.i64 (n + k)); refine (H1.out _).mono ?_; rintro e w' ⟨rfl, rfl⟩) | (go_at_call_of 145 (Value.int IntKind.i64 (n - k)); refine (H2.out _).mono ?_; rintro e w' ⟨rfl, rfl⟩))
            go_round
            case rel => exact ⟨k + 1, by omega, by go_num, fun _ => by omega⟩
            case measure => simp [intOf]; omega
          · obtain rfl : k = d := by omega
            have e2 : offB W (n - k) = false := HU.out.df
            rw [e2] at H2
            clear e2
            have HE : Hid (n - k = R) := by
              show _ = _
              rw [← HR.out, mov_down HU.out h2 hlt]
            subst h2
            go_wp2_with (first | (go_at_call_of 145 (Value.int IntKind.i64 (n + k)); refine (H1.out _).mono ?_; rintro e w' ⟨rfl, rfl⟩) | (go_at_call_of 145 (Value.int IntKind.i64 (n - k)); refine (H2.out _).mono ?_; rintro e w' ⟨rfl, rfl⟩))
            go_ret
            obtain rfl := HE.out
            exact ⟨rfl, rfl⟩
        · have h2' : (mv == 2) = false := beq_eq_false_iff_ne.2 h2
          have HK' : Hid (mv = 2 → k + 1 ≤ d) := fun a => absurd a h2
          clear h2
          go_wp2_with (go_at_call 145; refine (H1.out _).mono ?_; rintro e w' ⟨rfl, rfl⟩)
          go_round
          case rel => exact ⟨k + 1, by omega, by go_num, HK'⟩
          case measure => simp [intOf]; omega
      · obtain rfl : k = u := by omega
        have e1 : offB W (n + k) = false := HU.out.uf
        rw [e1] at H1
        clear e1
        have HE : Hid (n + k = R) := by
          show _ = _
          rw [← HR.out, mov_up HU.out HZ.out HK.out]
        go_wp2_with (go_at_call 145; refine (H1.out _).mono ?_; rintro e w' ⟨rfl, rfl⟩)
        go_ret
        obtain rfl := HE.out
        exact ⟨rfl, rfl⟩
end Go.Proofs.YtphnainibdepbaaGreat
namespace Go.Proofs.YtphnainibdepbaaGreat
open Go.RowKit

theorem fit1' (mon day nth wd off fr to mv : Int) : fitB ⟨1, mon, day, nth, wd, off, fr, to, mv⟩ = decide ((1900 ≤ fr ∧ fr ≤ 2199 ∧ fr ≤ to ∧ to ≤ 2199 ∧ 0 ≤ mv ∧ mv ≤ 2) ∧ nth = 0 ∧ wd = 0 ∧ off = 0 ∧ 1 ≤ mon ∧ mon ≤ 12 ∧ 1 ≤ day ∧ day ≤ mostI mon) := by
  by_cases h : RngR fr to mv
  · rw [fit1 h]; exact decide_eq_decide.2 ⟨fun a => ⟨h, a⟩, fun a => a.2⟩
  · rw [fit_rng (by decide) h, decide_eq_false (fun a => h a.1)]
theorem fit2' (mon day nth wd off fr to mv : Int) : fitB ⟨2, mon, day, nth, wd, off, fr, to, mv⟩ = decide ((1900 ≤ fr ∧ fr ≤ 2199 ∧ fr ≤ to ∧ to ≤ 2199 ∧ 0 ≤ mv ∧ mv ≤ 2) ∧ day = 0 ∧ off = 0 ∧ 1 ≤ mon ∧ mon ≤ 12 ∧ 0 ≤ wd ∧ wd ≤ 6 ∧ 1 ≤ nth ∧ nth ≤ 5) := by
  by_cases h : RngR fr to mv
  · rw [fit2 h]; exact decide_eq_decide.2 ⟨fun a => ⟨h, a⟩, fun a => a.2⟩
  · rw [fit_rng (by decide) h, decide_eq_false (fun a => h a.1)]
theorem fit3' (mon day nth wd off fr to mv : Int) : fitB ⟨3, mon, day, nth, wd, off, fr, to, mv⟩ = decide ((1900 ≤ fr ∧ fr ≤ 2199 ∧ fr ≤ to ∧ to ≤ 2199 ∧ 0 ≤ mv ∧ mv ≤ 2) ∧ mon = 0 ∧ day = 0 ∧ nth = 0 ∧ wd = 0 ∧ -100 ≤ off ∧ off ≤ 100) := by
  by_cases h : RngR fr to mv
  · rw [fit3 h]; exact decide_eq_decide.2 ⟨fun a => ⟨h, a⟩, fun a => a.2⟩
  · rw [fit_rng (by decide) h, decide_eq_false (fun a => h a.1)]
theorem below2 (w : World) (o1 o2 : Obj) : Below w.heap.size w ((w.alloc o1).alloc o2) := ((Below.refl w.heap.size w).alloc (Nat.le_refl _) _).alloc (by simp) _

theorem isDay6_lit (n : Int) (w : World) :
    Calls Tryz.prog 132 #[.int .i64 n] w fun e w' => e = .returned (.bool (decide (0 ≤ n ∧ n ≤ 109572))) ∧ w' = w := by
  have := isDay6_any n w
  rw [show decide (isDayP n) = decide (0 ≤ n ∧ n ≤ 109572) from decide_eq_decide.2 Iff.rfl] at this
  exact this

set_option maxHeartbeats 1600000 in
theorem again_any (kind mon day nth wd off fr to mv : Int) (w : World) :
    Calls Tryz.prog 187 #[.agg #[.int .i64 kind, .int .i64 mon, .int .i64 day, .int .i64 nth, .int .i64 wd, .int .i64 off, .int .i64 fr, .int .i64 to, .int .i64 mv]] w fun e w' => e = .returned (.bool (decide (1900 ≤ fr ∧ fr ≤ 2199 ∧ fr ≤ to ∧ to ≤ 2199 ∧ 0 ≤ mv ∧ mv ≤ 2))) ∧ Below w.heap.size w w' := by
  obtain ⟨R, hR⟩ : ∃ R, decide (1900 ≤ fr ∧ fr ≤ 2199 ∧ fr ≤ to ∧ to ≤ 2199 ∧ 0 ≤ mv ∧ mv ≤ 2) = R := ⟨_, rfl⟩
  rw [hR]
  have HR := hideS hR
  clear hR
  go_enter Tryz.func187, Tryz.ntmps187
  go_wp2_with (go_at_call 144; refine (betweenQ_any _ _ _ _).mono ?_; rintro e w1 ⟨rfl, rfl⟩)
  all_goals
    go_ret
    refine ⟨retB (Eq.trans ?_ HR.out), (Below.refl w.heap.size w).alloc (Nat.le_refl _) _⟩
    first | exact (decide_eq_false (by omega)).symm | exact decide_eq_decide.2 (by omega) | (rw [Bool.eq_iff_iff]; simp only [Bool.and_eq_true, decide_eq_true_eq]; omega)

theorem most_len {m : Int} (h1 : 1 ≤ m) (h2 : m ≤ 12) : lenI 2000 m = mostI m := by
  rcases month_cases h1 h2 with rfl | rfl | rfl | rfl | rfl | rfl | rfl | rfl | rfl | rfl | rfl | rfl <;> decide

set_option maxHeartbeats 3200000 in
theorem may4_any (mon day nth wd off fr to mv : Int) (w : World) :
    Calls Tryz.prog 195 #[.agg #[.int .i64 4, .int .i64 mon, .int .i64 day, .int .i64 nth, .int .i64 wd, .int .i64 off, .int .i64 fr, .int .i64 to, .int .i64 mv]] w fun e w' => e = .returned (.bool (fitB ⟨4, mon, day, nth, wd, off, fr, to, mv⟩)) ∧ Below w.heap.size w w' := by
  rw [fit4]
  obtain ⟨R, hR⟩ : ∃ R, decide (mon = 0 ∧ nth = 0 ∧ wd = 0 ∧ off = 0 ∧ fr = 0 ∧ to = 0 ∧ mv = 0 ∧ 0 ≤ day ∧ day ≤ 109572) = R := ⟨_, rfl⟩
  rw [hR]
  have HR := hideS hR
  clear hR
  go_enter Tryz.func195, Tryz.ntmps195
  go_wp2_with (go_at_call 132; refine (isDay6_lit _ _).mono ?_; rintro e w1 ⟨rfl, rfl⟩)
  all_goals
    go_ret
    refine ⟨retB (Eq.trans ?_ HR.out), (Below.refl w.heap.size w).alloc (Nat.le_refl _) _⟩
    first | exact (decide_eq_false (by omega)).symm | exact decide_eq_decide.2 (by omega) | (rw [Bool.eq_iff_iff]; simp only [Bool.and_eq_true, decide_eq_true_eq]; omega)

set_option maxHeartbeats 3200000 in
theorem may3_any (mon day nth wd off fr to mv : Int) (w : World) :
    Calls Tryz.prog 191 #[.agg #[.int .i64 3, .int .i64 mon, .int .i64 day, .int .i64 nth, .int .i64 wd, .int .i64 off, .int .i64 fr, .int .i64 to, .int .i64 mv]] w fun e w' => e = .returned (.bool (fitB ⟨3, mon, day, nth, wd, off, fr, to, mv⟩)) ∧ Below w.heap.size w w' := by
  rw [fit3']
  obtain ⟨R, hR⟩ : ∃ R, decide ((1900 ≤ fr ∧ fr ≤ 2199 ∧ fr ≤ to ∧ to ≤ 2199 ∧ 0 ≤ mv ∧ mv ≤ 2) ∧ mon = 0 ∧ day = 0 ∧ nth = 0 ∧ wd = 0 ∧ -100 ≤ off ∧ off ≤ 100) = R := ⟨_, rfl⟩
  rw [hR]
  have HR := hideS hR
  clear hR
  have HB2 := hideS (below2 w)
  have HA := hideS (fun kind mon day nth wd off fr to mv wx => again_any kind mon day nth wd off fr to mv wx)
  go_enter Tryz.func191, Tryz.ntmps191
  go_wp2_with (first | (go_at_call 144; refine (betweenQ_any _ _ _ _).mono ?_; rintro e w1 ⟨rfl, rfl⟩) | (go_at_call 187; refine (HA.out _ _ _ _ _ _ _ _ _ _).mono ?_; rintro e w1 ⟨rfl, hb1⟩))
  all_goals
    go_ret
    first
    | refine ⟨retB (Eq.trans ?_ HR.out), HB2.out _ _⟩
    | refine ⟨retB (Eq.trans ?_ HR.out), (HB2.out _ _).trans (hb1.mono (by simp <;> omega))⟩
    first | exact (decide_eq_false (by omega)).symm | exact decide_eq_decide.2 (by omega) | (rw [Bool.eq_iff_iff]; simp only [Bool.and_eq_true, decide_eq_true_eq]; omega)

set_option maxHeartbeats 3200000 in
theorem may2_any (mon day nth wd off fr to mv : Int) (w : World) :
    Calls Tryz.prog 189 #[.agg #[.int .i64 2, .int .i64 mon, .int .i64 day, .int .i64 nth, .int .i64 wd, .int .i64 off, .int .i64 fr, .int .i64 to, .int .i64 mv]] w fun e w' => e = .returned (.bool (fitB ⟨2, mon, day, nth, wd, off, fr, to, mv⟩)) ∧ Below w.heap.size w w' := by
  rw [fit2']
  obtain ⟨R, hR⟩ : ∃ R, decide ((1900 ≤ fr ∧ fr ≤ 2199 ∧ fr ≤ to ∧ to ≤ 2199 ∧ 0 ≤ mv ∧ mv ≤ 2) ∧ day = 0 ∧ off = 0 ∧ 1 ≤ mon ∧ mon ≤ 12 ∧ 0 ≤ wd ∧ wd ≤ 6 ∧ 1 ≤ nth ∧ nth ≤ 5) = R := ⟨_, rfl⟩
  rw [hR]
  have HR := hideS hR
  clear hR
  have HB2 := hideS (below2 w)
  have HA := hideS (fun kind mon day nth wd off fr to mv wx => again_any kind mon day nth wd off fr to mv wx)
  go_enter Tryz.func189, Tryz.ntmps189
  go_wp2_with (first | (go_at_call 144; refine (betweenQ_any _ _ _ _).mono ?_; rintro e w1 ⟨rfl, rfl⟩) | (go_at_call 187; refine (HA.out _ _ _ _ _ _ _ _ _ _).mono ?_; rintro e w1 ⟨rfl, hb1⟩))
  all_goals
    go_ret
    first
    | refine ⟨retB (Eq.trans ?_ HR.out), HB2.out _ _⟩
    | refine ⟨retB (Eq.trans ?_ HR.out), (HB2.out _ _).trans (hb1.mono (by simp <;> omega))⟩
    first | exact (decide_eq_false (by omega)).symm | exact decide_eq_decide.2 (by omega) | (rw [Bool.eq_iff_iff]; simp only [Bool.and_eq_true, decide_eq_true_eq]; omega)

set_option maxHeartbeats 3200000 in
theorem may1_any (mon day nth wd off fr to mv : Int) (w : World) :
    Calls Tryz.prog 186 #[.agg #[.int .i64 1, .int .i64 mon, .int .i64 day, .int .i64 nth, .int .i64 wd, .int .i64 off, .int .i64 fr, .int .i64 to, .int .i64 mv]] w fun e w' => e = .returned (.bool (fitB ⟨1, mon, day, nth, wd, off, fr, to, mv⟩)) ∧ Below w.heap.size w w' := by
  rw [fit1']
  have HB2 := hideS (below2 w)
  have HA := hideS (fun kind mon day nth wd off fr to mv wx => again_any kind mon day nth wd off fr to mv wx)
  by_cases hm : 1 ≤ mon ∧ mon ≤ 12
  · have HL := hideS (fun wx => lengthP_ok 2000 mon wx ⟨by decide, by decide, hm.1, hm.2⟩)
    rw [most_len hm.1 hm.2] at HL
    generalize mostI mon = L at *
    obtain ⟨R, hR⟩ : ∃ R, decide ((1900 ≤ fr ∧ fr ≤ 2199 ∧ fr ≤ to ∧ to ≤ 2199 ∧ 0 ≤ mv ∧ mv ≤ 2) ∧ nth = 0 ∧ wd = 0 ∧ off = 0 ∧ 1 ≤ mon ∧ mon ≤ 12 ∧ 1 ≤ day ∧ day ≤ L) = R := ⟨_, rfl⟩
    rw [hR]
    have HR := hideS hR
    clear hR
    go_enter Tryz.func186, Tryz.ntmps186
    go_wp2_with (first | (go_at_call 124; refine (HL.out _).mono ?_; rintro e w1 ⟨rfl, rfl⟩) | (go_at_call 144; refine (betweenQ_any _ _ _ _).mono ?_; rintro e w1 ⟨rfl, rfl⟩) | (go_at_call 187; refine (HA.out _ _ _ _ _ _ _ _ _ _).mono ?_; rintro e w1 ⟨rfl, hb1⟩))
    all_goals
      go_ret
      first
      | refine ⟨retB (Eq.trans ?_ HR.out), HB2.out _ _⟩
      | refine ⟨retB (Eq.trans ?_ HR.out), (HB2.out _ _).trans (hb1.mono (by simp <;> omega))⟩
      first | exact (decide_eq_false (by omega)).symm | exact decide_eq_decide.2 (by omega) | (rw [Bool.eq_iff_iff]; simp only [Bool.and_eq_true, decide_eq_true_eq]; omega)
  · have HL := hideS (fun wx => lengthP_bad 2000 mon wx (fun a => hm ⟨a.2.2.1, a.2.2.2⟩))
    rw [decide_eq_false (fun a => hm ⟨a.2.2.2.2.1, a.2.2.2.2.2.1⟩)]
    clear hm
    go_enter Tryz.func186, Tryz.ntmps186
    go_wp2_with (go_at_call 124; refine (HL.out _).mono ?_; rintro e w1 ⟨rfl, rfl⟩)
    all_goals
      go_ret
      exact ⟨rfl, HB2.out _ _⟩

set_option maxHeartbeats 400000 in
theorem may0_any (w : World) :
    Calls Tryz.prog 197 #[.agg #[]] w fun e w' => e = .returned (.bool false) ∧ Below w.heap.size w w' := by
  go_enter Tryz.func197, Tryz.ntmps197
  go_wp2_with fail
  go_ret
  exact ⟨rfl, (Below.refl w.heap.size w).alloc (Nat.le_refl _) _⟩

def tyK (k : Int) : Nat := if k = 1 then 116 else if k = 2 then 117 else if k = 3 then 118 else 119
set_option maxHeartbeats 1600000 in
theorem holidayOf_any (kind mon day nth wd off fr to mv : Int) (w : World) (hk : kind = 1 ∨ kind = 2 ∨ kind = 3 ∨ kind = 4) :
    Calls Tryz.prog 40 #[.agg #[.int .i64 kind, .int .i64 mon, .int .i64 day, .int .i64 nth, .int .i64 wd, .int .i64 off, .int .i64 fr, .int .i64 to, .int .i64 mv]] w fun e w' => e = .returned (.iface (tyK kind) (.agg #[.int .i64 kind, .int .i64 mon, .int .i64 day, .int .i64 nth, .int .i64 wd, .int .i64 off, .int .i64 fr, .int .i64 to, .int .i64 mv])) ∧ Below w.heap.size w w' := by
  rcases hk with rfl | rfl | rfl | rfl
  all_goals
    go_enter Tryz.func40, Tryz.ntmps40
    go_wp2_with fail
    go_ret
    exact ⟨rfl, (Below.refl w.heap.size w).alloc (Nat.le_refl _) _⟩
set_option maxHeartbeats 1600000 in
theorem holidayOf_none (kind mon day nth wd off fr to mv : Int) (w : World) (hk : ¬ (kind = 1 ∨ kind = 2 ∨ kind = 3 ∨ kind = 4)) :
    Calls Tryz.prog 40 #[.agg #[.int .i64 kind, .int .i64 mon, .int .i64 day, .int .i64 nth, .int .i64 wd, .int .i64 off, .int .i64 fr, .int .i64 to, .int .i64 mv]] w fun e w' => e = .returned (.iface 121 (.agg #[])) ∧ Below w.heap.size w w' := by
  have k1 : (kind == 1) = false := beq_eq_false_iff_ne.2 (fun a => hk (by omega))
  have k2 : (kind == 2) = false := beq_eq_false_iff_ne.2 (fun a => hk (by omega))
  have k3 : (kind == 3) = false := beq_eq_false_iff_ne.2 (fun a => hk (by omega))
  have k4 : (kind == 4) = false := beq_eq_false_iff_ne.2 (fun a => hk (by omega))
  clear hk
  go_enter Tryz.func40, Tryz.ntmps40
  go_wp2_with fail
  go_ret
  exact ⟨rfl, (Below.refl w.heap.size w).alloc (Nat.le_refl _) _⟩
end Go.Proofs.YtphnainibdepbaaGreat
namespace Go.Proofs.YtphnainibdepbaaGreat
open Go.RowKit

theorem giv1_ok {mon day nth wd off fr to mv y : Int} (ho : okD y mon day) (hr : fr ≤ y ∧ y ≤ to) : givO ⟨1, mon, day, nth, wd, off, fr, to, mv⟩ y = some (dayI y mon day) := by
  unfold givO baseO
  dsimp only
  rw [if_neg (by decide), if_neg (by omega), if_pos rfl, if_pos ho]
theorem giv1_no {mon day nth wd off fr to mv y : Int} (ho : ¬ okD y mon day) : givO ⟨1, mon, day, nth, wd, off, fr, to, mv⟩ y = none := by
  unfold givO baseO
  dsimp only
  rw [if_neg (by decide), if_pos rfl, if_neg ho]
  split <;> rfl
theorem giv_no {kind mon day nth wd off fr to mv y : Int} (hk : kind ≠ 4) (hr : ¬ (fr ≤ y ∧ y ≤ to)) : givO ⟨kind, mon, day, nth, wd, off, fr, to, mv⟩ y = none := by
  unfold givO baseO
  dsimp only
  rw [if_neg hk, if_pos (by omega)]
theorem giv2_ok {mon day nth wd off fr to mv y : Int} (hr : fr ≤ y ∧ y ≤ to) : givO ⟨2, mon, day, nth, wd, off, fr, to, mv⟩ y = some (nthI y mon wd nth) := by
  unfold givO baseO
  dsimp only
  rw [if_neg (by decide), if_neg (by omega), if_neg (by decide), if_pos rfl]
theorem giv3_ok {mon day nth wd off fr to mv y : Int} (hr : fr ≤ y ∧ y ≤ to) : givO ⟨3, mon, day, nth, wd, off, fr, to, mv⟩ y = some (eaDay y + off) := by
  unfold givO baseO
  dsimp only
  rw [if_neg (by decide), if_neg (by omega), if_neg (by decide), if_neg (by decide), if_pos rfl]
theorem giv4_ok {mon day nth wd off fr to mv y m d : Int} (h : IsD day y m d) : givO ⟨4, mon, day, nth, wd, off, fr, to, mv⟩ y = some day := by
  unfold givO
  dsimp only
  rw [if_pos rfl, if_pos (yr_eq h)]
theorem giv4_no {mon day nth wd off fr to mv y y0 m d : Int} (h : IsD day y0 m d) (hy : y0 ≠ y) : givO ⟨4, mon, day, nth, wd, off, fr, to, mv⟩ y = none := by
  unfold givO
  dsimp only
  rw [if_pos rfl, if_neg (by rw [yr_eq h]; exact hy)]

set_option maxHeartbeats 1600000 in
theorem in1_any (mon day nth wd off fr to mv y : Int) (w : World) :
    Calls Tryz.prog 185 #[.agg #[.int .i64 1, .int .i64 mon, .int .i64 day, .int .i64 nth, .int .i64 wd, .int .i64 off, .int .i64 fr, .int .i64 to, .int .i64 mv], .int .i64 y] w fun e w' => ∃ N, e = .returned (.tuple #[.int .i64 N, .bool (givO ⟨1, mon, day, nth, wd, off, fr, to, mv⟩ y).isSome]) ∧ (∀ g, givO ⟨1, mon, day, nth, wd, off, fr, to, mv⟩ y = some g → N = g) ∧ Below w.heap.size w w' := by
  have HB0 := hideS (fun o => (Below.refl w.heap.size w).alloc (Nat.le_refl _) o)
  by_cases ho : okD y mon day
  · have HO := hideS (fun wx => ofP_ok y mon day wx ho)
    have HI := hideS (fun wx => betweenQ_any y fr to wx)
    by_cases hr : fr ≤ y ∧ y ≤ to
    · rw [giv1_ok ho hr]
      rw [decide_eq_true hr] at HI
      generalize dayI y mon day = D at *
      clear ho hr
      go_enter Tryz.func185, Tryz.ntmps185
      go_wp2_with (first | (go_at_call 126; refine (HO.out _).mono ?_; rintro e w1 ⟨rfl, rfl⟩) | (go_at_call 144; refine (HI.out _).mono ?_; rintro e w1 ⟨rfl, rfl⟩))
      go_ret2
      exact ⟨_, rfl, fun g hg => Option.some.inj hg, HB0.out _⟩
    · rw [giv_no (by decide) hr]
      rw [decide_eq_false hr] at HI
      generalize dayI y mon day = D at *
      clear ho hr
      go_enter Tryz.func185, Tryz.ntmps185
      go_wp2_with (first | (go_at_call 126; refine (HO.out _).mono ?_; rintro e w1 ⟨rfl, rfl⟩) | (go_at_call 144; refine (HI.out _).mono ?_; rintro e w1 ⟨rfl, rfl⟩))
      go_ret2
      exact ⟨_, rfl, fun g hg => (by cases hg), HB0.out _⟩
  · have HO := hideS (fun wx => ofP_bad y mon day wx ho)
    rw [giv1_no ho]
    clear ho
    go_enter Tryz.func185, Tryz.ntmps185
    go_wp2_with (go_at_call 126; refine (HO.out _).mono ?_; rintro e w1 ⟨rfl, rfl⟩)
    go_ret2
    exact ⟨_, rfl, fun g hg => (by cases hg), HB0.out _⟩

theorem nth_prog {f L wd k : Int} (_d0 : 0 ≤ wd) (_d1 : wd ≤ 6) (k1 : 1 ≤ k) (k5 : k ≤ 5) (l0 : 28 ≤ L) (_f0 : 0 ≤ f) :
    (if k = 5 ∧ f + L ≤ f + (wd - f) % 7 + 7 * (k - 1) then f + (wd - f) % 7 + 7 * (k - 1) - 7 else f + (wd - f) % 7 + 7 * (k - 1)) = if f + L ≤ f + (wd + 7 - f % 7) % 7 + 7 * (k - 1) then f + (wd + 7 - f % 7) % 7 + 7 * (k - 1) - 7 else f + (wd + 7 - f % 7) % 7 + 7 * (k - 1) := by
  have e : (wd + 7 - f % 7) % 7 = (wd - f) % 7 := by omega
  rw [e]
  by_cases a : k = 5
  · by_cases b : f + L ≤ f + (wd - f) % 7 + 7 * (k - 1)
    · rw [if_pos ⟨a, b⟩, if_pos b]
    · rw [if_neg (fun c => b c.2), if_neg b]
  · rw [if_neg (fun c => a c.1), if_neg (by omega)]

set_option maxHeartbeats 1600000 in
theorem in2_any (mon day nth wd off fr to mv y : Int) (w : World) (m0 : 1 ≤ mon) (m1 : mon ≤ 12) (d0 : 0 ≤ wd) (d1 : wd ≤ 6) (k1 : 1 ≤ nth) (k5 : nth ≤ 5) (f0 : 1900 ≤ fr) (f1 : to ≤ 2199) :
    Calls Tryz.prog 188 #[.agg #[.int .i64 2, .int .i64 mon, .int .i64 day, .int .i64 nth, .int .i64 wd, .int .i64 off, .int .i64 fr, .int .i64 to, .int .i64 mv], .int .i64 y] w fun e w' => ∃ N, e = .returned (.tuple #[.int .i64 N, .bool (givO ⟨2, mon, day, nth, wd, off, fr, to, mv⟩ y).isSome]) ∧ (∀ g, givO ⟨2, mon, day, nth, wd, off, fr, to, mv⟩ y = some g → N = g) ∧ Below w.heap.size w w' := by
  have HB0 := hideS (fun o => (Below.refl w.heap.size w).alloc (Nat.le_refl _) o)
  have HI := hideS (fun wx => betweenQ_any y fr to wx)
  by_cases hr : fr ≤ y ∧ y ≤ to
  · rw [giv2_ok hr]
    rw [decide_eq_true hr] at HI
    have hym : ymB y mon := ⟨by omega, by omega, m0, m1⟩
    have HL := hideS (fun wx => lengthP_ok y mon wx hym)
    have HO := hideS (fun wx => ofP_ok y mon 1 wx (okD_first hym 1 (by omega) (by omega)))
    obtain ⟨g0, g1⟩ := (isD_of (okD_first hym 1 (by omega) (by omega))).range
    have l0 := len_lo y mon
    have l1 := len_hi y mon
    have hR : nthI y mon wd nth = if dayI y mon 1 + lenI y mon ≤ dayI y mon 1 + (wd + 7 - dayI y mon 1 % 7) % 7 + 7 * (nth - 1) then dayI y mon 1 + (wd + 7 - dayI y mon 1 % 7) % 7 + 7 * (nth - 1) - 7 else dayI y mon 1 + (wd + 7 - dayI y mon 1 % 7) % 7 + 7 * (nth - 1) := nth_prog d0 d1 k1 k5 l0 g0
    obtain ⟨R, hRR⟩ : ∃ R, nthI y mon wd nth = R := ⟨_, rfl⟩
    rw [hRR] at hR ⊢
    clear hRR hym hr
    generalize dayI y mon 1 = f at *
    generalize lenI y mon = L at *
    obtain ⟨a, ha⟩ : ∃ a, f % 7 = a := ⟨_, rfl⟩
    rw [ha] at hR
    obtain ⟨t, ht⟩ : ∃ t, (wd + 7 - a) % 7 = t := ⟨_, rfl⟩
    rw [ht] at hR
    have t0 : 0 ≤ t := by omega
    have t1 : t ≤ 6 := by omega
    by_cases hge : f + L ≤ f + t + 7 * (nth - 1)
    · rw [if_pos hge] at hR
      have HR := hideS hR
      clear hR
      go_enter Tryz.func188, Tryz.ntmps188
      go_wp2_with (first | (go_at_call 124; refine (HL.out _).mono ?_; rintro e w1 ⟨rfl, rfl⟩) | (go_at_call 126; refine (HO.out _).mono ?_; rintro e w1 ⟨rfl, rfl⟩) | (go_at_call 144; refine (HI.out _).mono ?_; rintro e w1 ⟨rfl, rfl⟩))
      go_ret2
      exact ⟨_, rfl, fun g hg => (by rw [← Option.some.inj hg, HR.out]), HB0.out _⟩
    · rw [if_neg hge] at hR
      have HR := hideS hR
      clear hR
      go_enter Tryz.func188, Tryz.ntmps188
      go_wp2_with (first | (go_at_call 124; refine (HL.out _).mono ?_; rintro e w1 ⟨rfl, rfl⟩) | (go_at_call 126; refine (HO.out _).mono ?_; rintro e w1 ⟨rfl, rfl⟩) | (go_at_call 144; refine (HI.out _).mono ?_; rintro e w1 ⟨rfl, rfl⟩))
      go_ret2
      exact ⟨_, rfl, fun g hg => (by rw [← Option.some.inj hg, HR.out]), HB0.out _⟩
  · rw [giv_no (by decide) hr]
    rw [decide_eq_false hr] at HI
    clear hr
    by_cases hym : ymB y mon
    · have HL := hideS (fun wx => lengthP_ok y mon wx hym)
      generalize lenI y mon = L at *
      clear hym
      go_enter Tryz.func188, Tryz.ntmps188
      go_wp2_with (first | (go_at_call 124; refine (HL.out _).mono ?_; rintro e w1 ⟨rfl, rfl⟩) | (go_at_call 144; refine (HI.out _).mono ?_; rintro e w1 ⟨rfl, rfl⟩))
      go_ret2
      exact ⟨_, rfl, fun g hg => (by cases hg), HB0.out _⟩
    · have HL := hideS (fun wx => lengthP_bad y mon wx hym)
      clear hym
      go_enter Tryz.func188, Tryz.ntmps188
      go_wp2_with (go_at_call 124; refine (HL.out _).mono ?_; rintro e w1 ⟨rfl, rfl⟩)
      go_ret2
      exact ⟨_, rfl, fun g hg => (by cases hg), HB0.out _⟩

set_option maxHeartbeats 1600000 in
theorem in4_any (mon day nth wd off fr to mv y : Int) (w : World) (d0 : 0 ≤ day) (d1 : day ≤ 109572) :
    Calls Tryz.prog 194 #[.agg #[.int .i64 4, .int .i64 mon, .int .i64 day, .int .i64 nth, .int .i64 wd, .int .i64 off, .int .i64 fr, .int .i64 to, .int .i64 mv], .int .i64 y] w fun e w' => ∃ N, e = .returned (.tuple #[.int .i64 N, .bool (givO ⟨4, mon, day, nth, wd, off, fr, to, mv⟩ y).isSome]) ∧ (∀ g, givO ⟨4, mon, day, nth, wd, off, fr, to, mv⟩ y = some g → N = g) ∧ Below w.heap.size w w' := by
  have HB0 := hideS (fun o => (Below.refl w.heap.size w).alloc (Nat.le_refl _) o)
  obtain ⟨y0, m0, e0, hd⟩ := isD_ex d0 d1
  have HC := hideS (fun wx => civil_ok day y0 m0 e0 wx hd)
  by_cases hy : y0 = y
  · subst hy
    rw [giv4_ok hd]
    clear hd
    go_enter Tryz.func194, Tryz.ntmps194
    go_wp2_with (go_at_call 110; refine (HC.out _).mono ?_; rintro e w1 ⟨rfl, rfl⟩)
    go_ret2
    exact ⟨_, rfl, fun g hg => Option.some.inj hg, HB0.out _⟩
  · rw [giv4_no hd hy]
    have hy' : (y0 == y) = false := beq_eq_false_iff_ne.2 hy
    clear hd hy
    go_enter Tryz.func194, Tryz.ntmps194
    go_wp2_with (go_at_call 110; refine (HC.out _).mono ?_; rintro e w1 ⟨rfl, rfl⟩)
    go_ret2
    exact ⟨_, rfl, fun g hg => (by cases hg), HB0.out _⟩

set_option maxHeartbeats 1600000 in
theorem in3_any (mon day nth wd off fr to mv y : Int) (w : World) (o0 : -100 ≤ off) (o1 : off ≤ 100) (f0 : 1900 ≤ fr) (f1 : to ≤ 2199) :
    Calls Tryz.prog 190 #[.agg #[.int .i64 3, .int .i64 mon, .int .i64 day, .int .i64 nth, .int .i64 wd, .int .i64 off, .int .i64 fr, .int .i64 to, .int .i64 mv], .int .i64 y] w fun e w' => ∃ N, e = .returned (.tuple #[.int .i64 N, .bool (givO ⟨3, mon, day, nth, wd, off, fr, to, mv⟩ y).isSome]) ∧ (∀ g, givO ⟨3, mon, day, nth, wd, off, fr, to, mv⟩ y = some g → N = g) ∧ Below w.heap.size w w' := by
  have HB0 := hideS (fun o => (Below.refl w.heap.size w).alloc (Nat.le_refl _) o)
  have HI := hideS (fun wx => betweenQ_any y fr to wx)
  obtain ⟨wq, hwq⟩ : ∃ wq, w.alloc (.cells #[.int .i64 3, .int .i64 mon, .int .i64 day, .int .i64 nth, .int .i64 wd, .int .i64 off, .int .i64 fr, .int .i64 to, .int .i64 mv] 118) = wq := ⟨_, rfl⟩
  have c5 : wq.cell? ⟨w.heap.size, 5, none⟩ = some (.int .i64 off) := by rw [← hwq]; simp
  have c6 : wq.cell? ⟨w.heap.size, 6, none⟩ = some (.int .i64 fr) := by rw [← hwq]; simp
  have c7 : wq.cell? ⟨w.heap.size, 7, none⟩ = some (.int .i64 to) := by rw [← hwq]; simp
  have HBq : Hid (Below w.heap.size w wq) := by rw [← hwq]; exact HB0.out _
  have HQ := hideS hwq
  clear hwq HB0
  by_cases hyy : 1900 ≤ y ∧ y ≤ 2199
  · have HE := hideS (fun wx => easter_ok y wx hyy.1 hyy.2)
    obtain ⟨n0, n1⟩ : 0 ≤ eaDay y ∧ eaDay y ≤ 109572 := (isD_of (ea_ok hyy.1 hyy.2).ok).range
    by_cases hr : fr ≤ y ∧ y ≤ to
    · rw [giv3_ok hr]
      rw [decide_eq_true hr] at HI
      generalize eaDay y = D at *
      have hw1 : IntKind.i64.wrap (D + off) = D + off := by rw [IntKind.wrap_i64]; omega
      clear hr hyy
      go_enter Tryz.func190, Tryz.ntmps190
      go_wp2_with (go_at_call 192; refine (HE.out _).mono ?_; rintro e w1 ⟨rfl, rfl⟩)
      rw [HQ.out]
      go_quiet ((go_at_call 144; exact Calls.quiet_of_same (HI.out _)))
      go_wp2_with fail
      go_ret2
      exact ⟨_, rfl, fun g hg => Option.some.inj hg, below_drewN' HBq.out⟩
    · rw [giv_no (by decide) hr]
      rw [decide_eq_false hr] at HI
      generalize eaDay y = D at *
      have hw1 : IntKind.i64.wrap (D + off) = D + off := by rw [IntKind.wrap_i64]; omega
      clear hr hyy
      go_enter Tryz.func190, Tryz.ntmps190
      go_wp2_with (go_at_call 192; refine (HE.out _).mono ?_; rintro e w1 ⟨rfl, rfl⟩)
      rw [HQ.out]
      go_quiet ((go_at_call 144; exact Calls.quiet_of_same (HI.out _)))
      go_wp2_with fail
      go_ret2
      exact ⟨_, rfl, fun g hg => (by cases hg), below_drewN' HBq.out⟩
  · have HE := hideS (fun wx => easter_bad y wx hyy)
    rw [giv_no (by decide) (fun a => hyy (by omega))]
    have hw1 : IntKind.i64.wrap (0 + off) = 0 + off := by rw [IntKind.wrap_i64]; omega
    clear hyy
    go_enter Tryz.func190, Tryz.ntmps190
    go_wp2_with (go_at_call 192; refine (HE.out _).mono ?_; rintro e w1 ⟨rfl, rfl⟩)
    rw [HQ.out]
    go_quiet (fail)
    go_wp2_with fail
    go_ret2
    exact ⟨_, rfl, fun g hg => (by cases hg), below_drewN' HBq.out⟩
end Go.Proofs.YtphnainibdepbaaGreat
namespace Go.Proofs.YtphnainibdepbaaGreat
open Go.RowKit

def CBoxP (w : World) (W : Int) (v : Value) (wr : World) : Prop := Below (w.heap.size + 1) (w.alloc (.cells #[.int .i64 W, v] 24)) wr
theorem CBoxP.cells {w w1 : World} {W : Int} {v : Value} (hb : CBoxP w W v w1) :
    w1.cell? ⟨w.heap.size, 0, none⟩ = some (.int .i64 W) ∧ w1.cell? ⟨w.heap.size, 1, none⟩ = some v := by
  refine ⟨?_, ?_⟩
  · rw [Below.cell hb (p := ⟨w.heap.size, 0, none⟩) (by simp)]; simp
  · rw [Below.cell hb (p := ⟨w.heap.size, 1, none⟩) (by simp)]; simp
theorem CBoxP.step {w wr w' : World} {W : Int} {v : Value} (h : CBoxP w W v wr) (hb : Below wr.heap.size wr w') : CBoxP w W v w' :=
  Below.trans h (hb.mono (by have := Below.size h; simp at this; omega))
theorem CBoxP.below {w wr : World} {W : Int} {v : Value} (h : CBoxP w W v wr) : Below w.heap.size w wr :=
  ((Below.refl w.heap.size w).alloc (Nat.le_refl _) _).trans (Below.mono h (by omega))
theorem CBoxP.first {w w' : World} {W : Int} {v : Value} (hb : Below (w.alloc (.cells #[.int .i64 W, v] 24)).heap.size (w.alloc (.cells #[.int .i64 W, v] 24)) w') : CBoxP w W v w' :=
  hb.mono (by simp)
theorem below3 {wr w2 w3 : World} {o : Obj} (h2 : Below (wr.alloc o).heap.size (wr.alloc o) w2) (h3 : Below w2.heap.size w2 w3) : Below wr.heap.size wr w3 :=
  (((Below.refl wr.heap.size wr).alloc (Nat.le_refl _) o).trans (h2.mono (by simp))).trans (h3.mono (by have := h2.size; simp at this; omega))

set_option maxHeartbeats 3200000 in
theorem check_loop (W : Int) (p : Option Addr) (b off c : Nat) (rs : List Rul) (K : Nat) (A B : Int) (w : World) (w0 : 0 ≤ W ∧ W ≤ 126) (hs : RSrc w p b off rs) (hl : rs.length ≤ 64) (hK : K ≤ rs.length) (hf : ∀ j < K, fitB (rs.getD j rul0) = true)
    (hE : (K = rs.length ∧ A = 0 ∧ B = 0) ∨ (K < rs.length ∧ fitB (rs.getD K rul0) = false ∧ A = 60 ∧ B = K)) :
    Calls Tryz.prog 25 #[.agg #[.int .i64 W, .slice p rs.length c]] w fun e w' => e = .returned (.tuple #[.int .i64 A, .int .i64 B]) ∧ Below w.heap.size w w' := by
  obtain ⟨w0, w1⟩ := w0
  have w1' : ¬ 127 ≤ W := by omega
  have HS := hideS hs
  have HF := hideS hf
  have HE := hideS hE
  clear hs hf hE
  obtain ⟨N, hN⟩ : ∃ N, rs.length = N := ⟨_, rfl⟩
  have HN := hideS hN
  rw [hN] at hl hK ⊢
  rw [hN] at HE
  clear hN
  go_enter Tryz.func25, Tryz.ntmps25
  go_wp2_with fail
  have HB0 : Hid (CBoxP w W (.slice p N c) (w.alloc (.cells #[.int .i64 W, .slice p N c] 24))) := Below.refl _ _
  go_loopw [21] (fun i wr => ∃ (k : Nat), k ≤ K ∧ i = .int .i64 k ∧ Hid (CBoxP w W (.slice p N c) wr)) (fun i _ => N - (intOf i).toNat)
  case atStart => exact ⟨0, by omega, rfl, HB0⟩
  case round =>
    obtain ⟨k, hk, rfl, HB⟩ := hrel
    by_cases hlt : k < N
    · have hx : k < rs.length := by rw [HN.out]; exact hlt
      obtain rfl := HS.out.at_ (by omega)
      have hrc := (HS.out.cell k hx).below HB.out.below (HS.out.lt (by omega))
      have hft := HF.out k
      have hEE : k < K ∨ (fitB (rs.getD k rul0) = false ∧ A = 60 ∧ B = k) := by
        by_cases hkK : k < K
        · exact Or.inl hkK
        · obtain rfl : k = K := by omega
          rcases HE.out with ⟨a, _⟩ | ⟨_, a⟩
          · omega
          · exact Or.inr a
      generalize rs.getD k rul0 = r at hrc hft hEE
      clear hx
      obtain ⟨g0, g1, g2, g3, g4, g5, g6, g7, g8⟩ := hrc
      have key : ∀ R, fitB r = R → (k < K ∧ R = true) ∨ (R = false ∧ A = 60 ∧ B = k) := fun R hR => by
        rw [← hR]
        by_cases a : k < K
        · exact Or.inl ⟨a, hft a⟩
        · rcases hEE with b | b
          · exact absurd b a
          · exact Or.inr b
      clear hft hEE
      have HKey := hideS key
      clear key
      obtain ⟨kind, mon, day, nth, wd, offs, fr, to, mv⟩ := r
      dsimp only at *
      by_cases hkd : kind = 1 ∨ kind = 2 ∨ kind = 3 ∨ kind = 4
      · rcases hkd with rfl | rfl | rfl | rfl
        · have HH := hideS (fun wx => (holidayOf_any 1 mon day nth wd offs fr to mv wx (by omega) : Calls Tryz.prog 40 _ wx fun e w' => e = .returned (.iface 116 _) ∧ Below wx.heap.size wx w'))
          have HM := hideS (fun wx => may1_any mon day nth wd offs fr to mv wx)
          obtain ⟨R, hR⟩ : ∃ R, fitB ⟨1, mon, day, nth, wd, offs, fr, to, mv⟩ = R := ⟨_, rfl⟩
          have hKK := HKey.out R hR
          rw [hR] at HM
          clear hR HKey
          rcases hKK with ⟨a, rfl⟩ | ⟨rfl, a⟩
          · go_wp2_with (first | (go_at_call 40; refine (HH.out _).mono ?_; rintro e w2 ⟨rfl, hb2⟩) | (go_at_call 186; refine (HM.out _).mono ?_; rintro e w3 ⟨rfl, hb3⟩))
            have HB2 := hideS (HB.out.step (below3 hb2 hb3))
            clear hb2 hb3
            go_roundw
            case rel => exact ⟨k + 1, by omega, by go_num, HB2⟩
            case measure => simp [intOf]; omega
          · have HA := hideS a
            clear a
            go_wp2_with (first | (go_at_call 40; refine (HH.out _).mono ?_; rintro e w2 ⟨rfl, hb2⟩) | (go_at_call 186; refine (HM.out _).mono ?_; rintro e w3 ⟨rfl, hb3⟩))
            go_ret2
            obtain ⟨rfl, rfl⟩ := HA.out
            exact ⟨rfl, (HB.out.step (below3 hb2 hb3)).below⟩
        · have HH := hideS (fun wx => (holidayOf_any 2 mon day nth wd offs fr to mv wx (by omega) : Calls Tryz.prog 40 _ wx fun e w' => e = .returned (.iface 117 _) ∧ Below wx.heap.size wx w'))
          have HM := hideS (fun wx => may2_any mon day nth wd offs fr to mv wx)
          obtain ⟨R, hR⟩ : ∃ R, fitB ⟨2, mon, day, nth, wd, offs, fr, to, mv⟩ = R := ⟨_, rfl⟩
          have hKK := HKey.out R hR
          rw [hR] at HM
          clear hR HKey
          rcases hKK with ⟨a, rfl⟩ | ⟨rfl, a⟩
          · go_wp2_with (first | (go_at_call 40; refine (HH.out _).mono ?_; rintro e w2 ⟨rfl, hb2⟩) | (go_at_call 189; refine (HM.out _).mono ?_; rintro e w3 ⟨rfl, hb3⟩))
            have HB2 := hideS (HB.out.step (below3 hb2 hb3))
            clear hb2 hb3
            go_roundw
            case rel => exact ⟨k + 1, by omega, by go_num, HB2⟩
            case measure => simp [intOf]; omega
          · have HA := hideS a
            clear a
            go_wp2_with (first | (go_at_call 40; refine (HH.out _).mono ?_; rintro e w2 ⟨rfl, hb2⟩) | (go_at_call 189; refine (HM.out _).mono ?_; rintro e w3 ⟨rfl, hb3⟩))
            go_ret2
            obtain ⟨rfl, rfl⟩ := HA.out
            exact ⟨rfl, (HB.out.step (below3 hb2 hb3)).below⟩
        · have HH := hideS (fun wx => (holidayOf_any 3 mon day nth wd offs fr to mv wx (by omega) : Calls Tryz.prog 40 _ wx fun e w' => e = .returned (.iface 118 _) ∧ Below wx.heap.size wx w'))
          have HM := hideS (fun wx => may3_any mon day nth wd offs fr to mv wx)
          obtain ⟨R, hR⟩ : ∃ R, fitB ⟨3, mon, day, nth, wd, offs, fr, to, mv⟩ = R := ⟨_, rfl⟩
          have hKK := HKey.out R hR
          rw [hR] at HM
          clear hR HKey
          rcases hKK with ⟨a, rfl⟩ | ⟨rfl, a⟩
          · go_wp2_with (first | (go_at_call 40; refine (HH.out _).mono ?_; rintro e w2 ⟨rfl, hb2⟩) | (go_at_call 191; refine (HM.out _).mono ?_; rintro e w3 ⟨rfl, hb3⟩))
            have HB2 := hideS (HB.out.step (below3 hb2 hb3))
            clear hb2 hb3
            go_roundw
            case rel => exact ⟨k + 1, by omega, by go_num, HB2⟩
            case measure => simp [intOf]; omega
          · have HA := hideS a
            clear a
            go_wp2_with (first | (go_at_call 40; refine (HH.out _).mono ?_; rintro e w2 ⟨rfl, hb2⟩) | (go_at_call 191; refine (HM.out _).mono ?_; rintro e w3 ⟨rfl, hb3⟩))
            go_ret2
            obtain ⟨rfl, rfl⟩ := HA.out
            exact ⟨rfl, (HB.out.step (below3 hb2 hb3)).below⟩
        · have HH := hideS (fun wx => (holidayOf_any 4 mon day nth wd offs fr to mv wx (by omega) : Calls Tryz.prog 40 _ wx fun e w' => e = .returned (.iface 119 _) ∧ Below wx.heap.size wx w'))
          have HM := hideS (fun wx => may4_any mon day nth wd offs fr to mv wx)
          obtain ⟨R, hR⟩ : ∃ R, fitB ⟨4, mon, day, nth, wd, offs, fr, to, mv⟩ = R := ⟨_, rfl⟩
          have hKK := HKey.out R hR
          rw [hR] at HM
          clear hR HKey
          rcases hKK with ⟨a, rfl⟩ | ⟨rfl, a⟩
          · go_wp2_with (first | (go_at_call 40; refine (HH.out _).mono ?_; rintro e w2 ⟨rfl, hb2⟩) | (go_at_call 195; refine (HM.out _).mono ?_; rintro e w3 ⟨rfl, hb3⟩))
            have HB2 := hideS (HB.out.step (below3 hb2 hb3))
            clear hb2 hb3
            go_roundw
            case rel => exact ⟨k + 1, by omega, by go_num, HB2⟩
            case measure => simp [intOf]; omega
          · have HA := hideS a
            clear a
            go_wp2_with (first | (go_at_call 40; refine (HH.out _).mono ?_; rintro e w2 ⟨rfl, hb2⟩) | (go_at_call 195; refine (HM.out _).mono ?_; rintro e w3 ⟨rfl, hb3⟩))
            go_ret2
            obtain ⟨rfl, rfl⟩ := HA.out
            exact ⟨rfl, (HB.out.step (below3 hb2 hb3)).below⟩
      · have HH := hideS (fun wx => holidayOf_none kind mon day nth wd offs fr to mv wx hkd)
        have HM := hideS (fun wx => may0_any wx)
        have HA : Hid (A = 60 ∧ B = k) := by
          rcases HKey.out _ (fit_no (fun a => hkd (by omega)) (fun a => hkd (by omega)) (fun a => hkd (by omega)) (fun a => hkd (by omega))) with ⟨_, a⟩ | ⟨_, a⟩
          · exact Bool.noConfusion a
          · exact a
        clear HKey hkd
        go_wp2_with (first | (go_at_call 40; refine (HH.out _).mono ?_; rintro e w2 ⟨rfl, hb2⟩) | (go_at_call 197; refine (HM.out _).mono ?_; rintro e w3 ⟨rfl, hb3⟩))
        go_ret2
        obtain ⟨rfl, rfl⟩ := HA.out
        exact ⟨rfl, (HB.out.step (below3 hb2 hb3)).below⟩
    · have HA : Hid (A = 0 ∧ B = 0) := by
        rcases HE.out with ⟨_, a⟩ | ⟨a, _⟩
        · exact a
        · omega
      have hge : ¬ (k : Int) < N := by omega
      go_wp2_with fail
      go_ret2
      obtain ⟨rfl, rfl⟩ := HA.out
      exact ⟨rfl, HB.out.below⟩

set_option maxHeartbeats 400000 in
theorem check_any (W : Int) (p : Option Addr) (b off c : Nat) (rs : List Rul) (A B : Int) (w : World) (h : ChkR W rs A B) (hs : RSrc w p b off rs) (hl : rs.length ≤ 9223372036854775807) :
    Calls Tryz.prog 25 #[.agg #[.int .i64 W, .slice p rs.length c]] w fun e w' => e = .returned (.tuple #[.int .i64 A, .int .i64 B]) ∧ Below w.heap.size w w' := by
  cases h with
  | long h =>
    generalize rs.length = N at *
    have h' : (64 : Int) < N := by omega
    clear hs h
    go_enter Tryz.func25, Tryz.ntmps25
    go_wp2_with fail
    go_ret2
    exact ⟨rfl, (Below.refl w.heap.size w).alloc (Nat.le_refl _) _⟩
  | week h h2 =>
    generalize rs.length = N at *
    have h' : ¬ (64 : Int) < N := by omega
    clear hs h
    rcases (show W < 0 ∨ (¬ W < 0 ∧ 127 ≤ W) by omega) with a | ⟨a, a2⟩
    all_goals
      clear h2
      go_enter Tryz.func25, Tryz.ntmps25
      go_wp2_with fail
      go_ret2
      exact ⟨rfl, (Below.refl w.heap.size w).alloc (Nat.le_refl _) _⟩
  | rule k h1 h2 h3 h4 h5 => exact check_loop W p b off c rs k 60 k w h2 hs h1 (by omega) h5 (Or.inr ⟨h3, h4, rfl, rfl⟩)
  | ok h => exact check_loop W p b off c rs rs.length 0 0 w ⟨h.w0, h.w1⟩ hs h.len (Nat.le_refl _) (fun j hj => h.fit _ (getD_mem hj)) (Or.inl ⟨rfl, rfl, rfl⟩)
end Go.Proofs.YtphnainibdepbaaGreat
namespace Go.Proofs.YtphnainibdepbaaGreat
open Go.RowKit

end Go.Proofs.YtphnainibdepbaaGreat
