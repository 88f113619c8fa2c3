/- The contracts of deal's and code's isNumber, and of code's within, isDay, isCurrency. Package deal: terms, and what a field tells of one. Package deal: a field's functions, whatever field it is. Package code: the kinds of ops, looked up. Package code: an op's kind, and a term's. Two ops, two terms are compared. -/
import Derived.Test.YtienedhaogjahaaGreatDoorHak
import Derived.Test.YtienedhaogjahaaGreatDoorHaq
import Derived.LoopTactic
import Derived.Laws.StructEq
namespace Go.Proofs.YtienedhaogjahaaGreatDoor
open Go.RowKit

set_option maxHeartbeats 800000 in
theorem dNum_any (x : Nat) (w : World) (hx : U64 x) :
    Calls Tryz.prog 100 #[.float .f64 x] w fun e w' => e = .returned (.bool (finB x)) ∧ w' = w := by
  have H1 := hidD fun w => isNaN_math x w hx
  cases hn : nanB (x : Int)
  · rw [hn] at H1
    have H2 := hidD fun w => isInf_both x _ w hx (inf_gt hn)
    generalize finB x = b at *
    clear hn hx
    cases b
    all_goals
      go_enter Tryz.func100, Tryz.ntmps100
      go_wp2_with fail
      refine (H1.out _).mono ?_
      rintro e w' ⟨rfl, rfl⟩
      go_wp2_with fail
      refine (H2.out _).mono ?_
      rintro e w' ⟨rfl, rfl⟩
      go_wp2_with fail
      go_ret
      exact ⟨rfl, rfl⟩
  · rw [hn] at H1
    rw [fin_nan hn]
    clear hn hx
    go_enter Tryz.func100, Tryz.ntmps100
    go_wp2_with fail
    refine (H1.out _).mono ?_
    rintro e w' ⟨rfl, rfl⟩
    go_wp2_with fail
    go_ret
    exact ⟨rfl, rfl⟩
set_option maxHeartbeats 800000 in
theorem cNum_any (x : Nat) (w : World) (hx : U64 x) :
    Calls Tryz.prog 89 #[.float .f64 x] w fun e w' => e = .returned (.bool (finB x)) ∧ w' = w := by
  have H1 := hidD fun w => isNaN_math x w hx
  cases hn : nanB (x : Int)
  · rw [hn] at H1
    have H2 := hidD fun w => isInf_both x _ w hx (inf_gt hn)
    generalize finB x = b at *
    clear hn hx
    cases b
    all_goals
      go_enter Tryz.func89, Tryz.ntmps89
      go_wp2_with fail
      refine (H1.out _).mono ?_
      rintro e w' ⟨rfl, rfl⟩
      go_wp2_with fail
      refine (H2.out _).mono ?_
      rintro e w' ⟨rfl, rfl⟩
      go_wp2_with fail
      go_ret
      exact ⟨rfl, rfl⟩
  · rw [hn] at H1
    rw [fin_nan hn]
    clear hn hx
    go_enter Tryz.func89, Tryz.ntmps89
    go_wp2_with fail
    refine (H1.out _).mono ?_
    rintro e w' ⟨rfl, rfl⟩
    go_wp2_with fail
    go_ret
    exact ⟨rfl, rfl⟩
end Go.Proofs.YtienedhaogjahaaGreatDoor
namespace Go.Proofs.YtienedhaogjahaaGreatDoor
open Go.RowKit

structure Trm where
  kind : Int
  a : Int
  b : Int
  x : Nat
  y : Nat
  day : Int
  to : Int
  cur : Int
  count : Int
  n : Int
  months : Int
def trC (t : Trm) : Array Value := #[.int .i64 t.kind, .int .i64 t.a, .int .i64 t.b, .float .f64 t.x, .float .f64 t.y, .int .i64 t.day, .int .i64 t.to, .int .i64 t.cur, .int .i64 t.count, .int .i64 t.n, .int .i64 t.months]
def TrB (w : World) (g : Nat) (t : Trm) : Prop := w.heap[g]? = some (.cells (trC t) 50)
theorem trm_cells {w : World} {g : Nat} {t : Trm} (h : TrB w g t) : w.cell? ⟨g, 0, none⟩ = some (.int .i64 t.kind) ∧ w.cell? ⟨g, 1, none⟩ = some (.int .i64 t.a) ∧ w.cell? ⟨g, 2, none⟩ = some (.int .i64 t.b) ∧ w.cell? ⟨g, 3, none⟩ = some (.float .f64 t.x) ∧ w.cell? ⟨g, 4, none⟩ = some (.float .f64 t.y) ∧ w.cell? ⟨g, 5, none⟩ = some (.int .i64 t.day) ∧ w.cell? ⟨g, 6, none⟩ = some (.int .i64 t.to) ∧ w.cell? ⟨g, 7, none⟩ = some (.int .i64 t.cur) ∧ w.cell? ⟨g, 8, none⟩ = some (.int .i64 t.count) ∧ w.cell? ⟨g, 9, none⟩ = some (.int .i64 t.n) ∧ w.cell? ⟨g, 10, none⟩ = some (.int .i64 t.months) := by
  unfold TrB trC at h
  refine ⟨?_, ?_, ?_, ?_, ?_, ?_, ?_, ?_, ?_, ?_, ?_⟩ <;>
  · simp only [World.cell?, h, Option.isSome_none, Bool.false_eq_true, if_false]; rfl
theorem TrB.frozen {w : World} {g : Nat} {t : Trm} (h : TrB w g t) (i : Nat) : w.frozen? ⟨g, i, none⟩ = false := by unfold TrB at h; simp [World.frozen?, h]
theorem TrB.below {w w' : World} {g : Nat} {t : Trm} (h : TrB w g t) (hb : Below w.heap.size w w') : TrB w' g t := (hb.block _ (lt_of_blk h)).trans h
theorem store_fltD (a : Addr) (x : Nat) (m : Mode) (w : World) : (store a (.float .f64 x) m).run Tryz.prog w = stored Tryz.prog w a (.float .f64 x) m := run_store Tryz.prog w a _ m rfl
theorem acc1_any (g : Nat) (w : World) : Calls Tryz.prog 59 #[.pointer (some ⟨g, 0, none⟩)] w fun e w' => e = .returned (.pointer (some ⟨g, 9, none⟩)) ∧ w' = w := by
  go_enter Tryz.func59, Tryz.ntmps59
  go_wp2_with fail
  go_ret
  exact ⟨rfl, rfl⟩
theorem acc2_any (g : Nat) (w : World) : Calls Tryz.prog 61 #[.pointer (some ⟨g, 0, none⟩)] w fun e w' => e = .returned (.pointer (some ⟨g, 3, none⟩)) ∧ w' = w := by
  go_enter Tryz.func61, Tryz.ntmps61
  go_wp2_with fail
  go_ret
  exact ⟨rfl, rfl⟩
theorem acc3_any (g : Nat) (w : World) : Calls Tryz.prog 62 #[.pointer (some ⟨g, 0, none⟩)] w fun e w' => e = .returned (.pointer (some ⟨g, 4, none⟩)) ∧ w' = w := by
  go_enter Tryz.func62, Tryz.ntmps62
  go_wp2_with fail
  go_ret
  exact ⟨rfl, rfl⟩
theorem acc4_any (g : Nat) (w : World) : Calls Tryz.prog 64 #[.pointer (some ⟨g, 0, none⟩)] w fun e w' => e = .returned (.pointer (some ⟨g, 8, none⟩)) ∧ w' = w := by
  go_enter Tryz.func64, Tryz.ntmps64
  go_wp2_with fail
  go_ret
  exact ⟨rfl, rfl⟩
theorem acc5_any (g : Nat) (w : World) : Calls Tryz.prog 66 #[.pointer (some ⟨g, 0, none⟩)] w fun e w' => e = .returned (.pointer (some ⟨g, 5, none⟩)) ∧ w' = w := by
  go_enter Tryz.func66, Tryz.ntmps66
  go_wp2_with fail
  go_ret
  exact ⟨rfl, rfl⟩
theorem acc6_any (g : Nat) (w : World) : Calls Tryz.prog 67 #[.pointer (some ⟨g, 0, none⟩)] w fun e w' => e = .returned (.pointer (some ⟨g, 6, none⟩)) ∧ w' = w := by
  go_enter Tryz.func67, Tryz.ntmps67
  go_wp2_with fail
  go_ret
  exact ⟨rfl, rfl⟩
theorem acc7_any (g : Nat) (w : World) : Calls Tryz.prog 69 #[.pointer (some ⟨g, 0, none⟩)] w fun e w' => e = .returned (.pointer (some ⟨g, 7, none⟩)) ∧ w' = w := by
  go_enter Tryz.func69, Tryz.ntmps69
  go_wp2_with fail
  go_ret
  exact ⟨rfl, rfl⟩
theorem acc8_any (g : Nat) (w : World) : Calls Tryz.prog 70 #[.pointer (some ⟨g, 0, none⟩)] w fun e w' => e = .returned (.pointer (some ⟨g, 10, none⟩)) ∧ w' = w := by
  go_enter Tryz.func70, Tryz.ntmps70
  go_wp2_with fail
  go_ret
  exact ⟨rfl, rfl⟩
structure AcF (f i : Nat) : Prop where
  en : ∀ xs w, (callFunc f xs).run Tryz.prog w = .ok (.enter f xs) w
  at_ : ∀ (g : Nat) (w : World), Calls Tryz.prog f #[.pointer (some ⟨g, 0, none⟩)] w fun e w' => e = .returned (.pointer (some ⟨g, i, none⟩)) ∧ w' = w
theorem acF1 : AcF 59 9 := ⟨fun xs w => enterD Tryz.func59 (by kernel_rfl) rfl xs w, acc1_any⟩
theorem acF2 : AcF 61 3 := ⟨fun xs w => enterD Tryz.func61 (by kernel_rfl) rfl xs w, acc2_any⟩
theorem acF3 : AcF 62 4 := ⟨fun xs w => enterD Tryz.func62 (by kernel_rfl) rfl xs w, acc3_any⟩
theorem acF4 : AcF 64 8 := ⟨fun xs w => enterD Tryz.func64 (by kernel_rfl) rfl xs w, acc4_any⟩
theorem acF5 : AcF 66 5 := ⟨fun xs w => enterD Tryz.func66 (by kernel_rfl) rfl xs w, acc5_any⟩
theorem acF6 : AcF 67 6 := ⟨fun xs w => enterD Tryz.func67 (by kernel_rfl) rfl xs w, acc6_any⟩
theorem acF7 : AcF 69 7 := ⟨fun xs w => enterD Tryz.func69 (by kernel_rfl) rfl xs w, acc7_any⟩
theorem acF8 : AcF 70 10 := ⟨fun xs w => enterD Tryz.func70 (by kernel_rfl) rfl xs w, acc8_any⟩
set_option maxRecDepth 20000 in
set_option maxHeartbeats 1600000 in
theorem fitNumX (f b : Nat) (ha : AcF f 3) (t : Trm) (w : World) (hb : w.heap[b]? = some (.cells #[fnB f] 137)) (hx : U64 t.x) :
    Calls Tryz.prog 99 #[.agg (trC t), .pointer (some ⟨b, 0, none⟩)] w fun e w' => e = .returned (.bool (finB t.x)) ∧ Below w.heap.size w w' := by
  have c0 := cell1_of hb
  have hlt := lt_of_blk hb
  have hne := Nat.ne_of_lt hlt
  have HA := hidD ha.at_
  have he := ha.en
  have HN := hidD (fun w => dNum_any t.x w hx)
  unfold fnB at c0
  clear hb ha hx
  unfold trC
  go_enter Tryz.func99, Tryz.ntmps99
  go_wp2_with fail
  refine (HA.out _ _).mono ?_
  rintro e w1 ⟨rfl, rfl⟩
  go_wp2_with fail
  refine (HN.out _).mono ?_
  rintro e w1 ⟨rfl, rfl⟩
  go_wp2_with fail
  go_ret
  exact ⟨rfl, al_bel _ _⟩
set_option maxRecDepth 20000 in
set_option maxHeartbeats 1600000 in
theorem clrNumX (f b g : Nat) (ha : AcF f 3) (t : Trm) (w : World) (hb : w.heap[b]? = some (.cells #[fnB f] 137)) (ht : TrB w g t) :
    Calls Tryz.prog 103 #[.pointer (some ⟨g, 0, none⟩), .pointer (some ⟨b, 0, none⟩)] w fun e w' => e = .returned (.tuple #[]) ∧ w' = w.setCell ⟨g, 3, none⟩ (.float .f64 0) := by
  have c0 := cell1_of hb
  have HA := hidD ha.at_
  have he := ha.en
  have hc := (trm_cells ht).2.2.2.1
  have hz := ht.frozen 3
  have hst := store_fltD
  unfold fnB at c0
  clear hb ha ht
  go_enter Tryz.func103, Tryz.ntmps103
  go_wp2_with fail
  refine (HA.out _ _).mono ?_
  rintro e w1 ⟨rfl, rfl⟩
  go_wp2_with fail
  exact bodyPost_end (v := .tuple #[]) (by simp [results, Tryz.results103, go_sem]) rfl ⟨rfl, rfl⟩
set_option maxRecDepth 20000 in
set_option maxHeartbeats 1600000 in
theorem fitNumY (f b : Nat) (ha : AcF f 4) (t : Trm) (w : World) (hb : w.heap[b]? = some (.cells #[fnB f] 137)) (hx : U64 t.y) :
    Calls Tryz.prog 99 #[.agg (trC t), .pointer (some ⟨b, 0, none⟩)] w fun e w' => e = .returned (.bool (finB t.y)) ∧ Below w.heap.size w w' := by
  have c0 := cell1_of hb
  have hlt := lt_of_blk hb
  have hne := Nat.ne_of_lt hlt
  have HA := hidD ha.at_
  have he := ha.en
  have HN := hidD (fun w => dNum_any t.y w hx)
  unfold fnB at c0
  clear hb ha hx
  unfold trC
  go_enter Tryz.func99, Tryz.ntmps99
  go_wp2_with fail
  refine (HA.out _ _).mono ?_
  rintro e w1 ⟨rfl, rfl⟩
  go_wp2_with fail
  refine (HN.out _).mono ?_
  rintro e w1 ⟨rfl, rfl⟩
  go_wp2_with fail
  go_ret
  exact ⟨rfl, al_bel _ _⟩
set_option maxRecDepth 20000 in
set_option maxHeartbeats 1600000 in
theorem clrNumY (f b g : Nat) (ha : AcF f 4) (t : Trm) (w : World) (hb : w.heap[b]? = some (.cells #[fnB f] 137)) (ht : TrB w g t) :
    Calls Tryz.prog 103 #[.pointer (some ⟨g, 0, none⟩), .pointer (some ⟨b, 0, none⟩)] w fun e w' => e = .returned (.tuple #[]) ∧ w' = w.setCell ⟨g, 4, none⟩ (.float .f64 0) := by
  have c0 := cell1_of hb
  have HA := hidD ha.at_
  have he := ha.en
  have hc := (trm_cells ht).2.2.2.2.1
  have hz := ht.frozen 4
  have hst := store_fltD
  unfold fnB at c0
  clear hb ha ht
  go_enter Tryz.func103, Tryz.ntmps103
  go_wp2_with fail
  refine (HA.out _ _).mono ?_
  rintro e w1 ⟨rfl, rfl⟩
  go_wp2_with fail
  exact bodyPost_end (v := .tuple #[]) (by simp [results, Tryz.results103, go_sem]) rfl ⟨rfl, rfl⟩
theorem box_cell (w : World) (xs : Array Value) (T : TypeId) (i : Nat) : (w.alloc (.cells xs T)).cell? ⟨w.heap.size, i, none⟩ = xs[i]? := by
  have h := heap_alloc_new w (.cells xs T)
  simp only [World.cell?, h, Option.isSome_none, Bool.false_eq_true, if_false]
theorem WhoB.cells {b f : Nat} {lo hi : Int} {rd wr : Nat} {w : World} (h : WhoB b f lo hi rd wr w) : w.cell? ⟨b, 0, none⟩ = some (fnB f) ∧ w.cell? ⟨b + 1, 0, none⟩ = some (.int .i64 lo) ∧ w.cell? ⟨b + 2, 0, none⟩ = some (.int .i64 hi) ∧ w.cell? ⟨b + 3, 0, none⟩ = some (fnB rd) ∧ w.cell? ⟨b + 4, 0, none⟩ = some (fnB wr) := ⟨cell1_of h.at_, cell1_of h.lo, cell1_of h.hi, cell1_of h.rd, cell1_of h.wr⟩
set_option maxRecDepth 20000 in
set_option maxHeartbeats 1600000 in
theorem fitWho (f b i : Nat) (lo hi v : Int) (rd wr : Nat) (ha : AcF f i) (t : Trm) (w : World) (hb : WhoB b f lo hi rd wr w) (hv : (trC t)[i]? = some (.int .i64 v)) :
    Calls Tryz.prog 143 #[.agg (trC t), .pointer (some ⟨b + 1, 0, none⟩), .pointer (some ⟨b, 0, none⟩), .pointer (some ⟨b + 2, 0, none⟩)] w fun e w' => e = .returned (.bool (decide (lo ≤ v) && decide (v ≤ hi))) ∧ Below w.heap.size w w' := by
  obtain ⟨c0, c1, c2, _, _⟩ := (hb.below (al_bel w (.cells (trC t) 50))).cells
  have cv : (w.alloc (.cells (trC t) 50)).cell? ⟨w.heap.size, i, none⟩ = some (.int .i64 v) := (box_cell w _ _ i).trans hv
  have HA := hidD ha.at_
  have he := ha.en
  have HW := hidD (al_bel w (.cells (trC t) 50))
  unfold fnB at c0
  clear hb ha hv
  obtain ⟨w1, hw1⟩ : ∃ w1, w.alloc (.cells (trC t) 50) = w1 := ⟨_, rfl⟩
  rw [hw1] at c0 c1 c2 cv HW
  have HW1 := hidD hw1
  clear hw1
  by_cases h1 : lo ≤ v <;> by_cases h2 : v ≤ hi
  all_goals
    first | (have t1 : decide (lo ≤ v) = true := decide_eq_true h1) | (have t1 : decide (lo ≤ v) = false := decide_eq_false h1)
    first | (have t2 : decide (v ≤ hi) = true := decide_eq_true h2) | (have t2 : decide (v ≤ hi) = false := decide_eq_false h2)
    clear h1 h2
    rw [t1, t2]
    go_enter Tryz.func143, Tryz.ntmps143
    go_wp2_with fail
    rw [HW1.out]
    clear HW1
    go_quiet ((exact Calls.quiet_of_same (HA.out _ _)))
    go_wp2_with fail
    go_ret
    exact ⟨rfl, ⟨HW.out.os, HW.out.tape, HW.out.output, HW.out.size, HW.out.block⟩⟩
end Go.Proofs.YtienedhaogjahaaGreatDoor
namespace Go.Proofs.YtienedhaogjahaaGreatDoor
open Go.RowKit

set_option maxRecDepth 20000 in
set_option maxHeartbeats 1600000 in
theorem clrWho (f b i g : Nat) (v : Int) (ha : AcF f i) (t : Trm) (w : World) (hb : w.heap[b]? = some (.cells #[fnB f] 128)) (ht : TrB w g t) (hv : (trC t)[i]? = some (.int .i64 v)) :
    Calls Tryz.prog 145 #[.pointer (some ⟨g, 0, none⟩), .pointer (some ⟨b, 0, none⟩)] w fun e w' => e = .returned (.tuple #[]) ∧ w' = w.setCell ⟨g, i, none⟩ (.int .i64 0) := by
  have c0 := cell1_of hb
  have HA := hidD ha.at_
  have he := ha.en
  have hc : w.cell? ⟨g, i, none⟩ = some (.int .i64 v) := by
    unfold TrB at ht
    simp only [World.cell?, ht, Option.isSome_none, Bool.false_eq_true, if_false]
    exact hv
  have hz := ht.frozen i
  unfold fnB at c0
  clear hb ha ht hv
  go_enter Tryz.func145, Tryz.ntmps145
  go_wp2_with fail
  refine (HA.out _ _).mono ?_
  rintro e w1 ⟨rfl, rfl⟩
  go_wp2_with fail
  exact bodyPost_end (v := .tuple #[]) (by simp [results, Tryz.results145, go_sem]) rfl ⟨rfl, rfl⟩
theorem enter_who2 (xs : Array Value) (w : World) : (callFunc 143 xs).run Tryz.prog w = .ok (.enter 143 xs) w := enterD Tryz.func143 (by kernel_rfl) rfl xs w
set_option maxRecDepth 20000 in
set_option maxHeartbeats 1600000 in
theorem fitBeh (f b d : Nat) (lo hi : Int) (rd wr : Nat) (ha : AcF f 6) (t : Trm) (w : World) (hb : WhoB b f lo hi rd wr w) (hd : w.heap[d]? = some (.cells #[fit2V b] 130)) :
    Calls Tryz.prog 113 #[.agg (trC t), .pointer (some ⟨d, 0, none⟩)] w fun e w' => e = .returned (.bool (decide (lo ≤ t.to) && decide (t.to ≤ hi) && decide (t.day < t.to))) ∧ Below w.heap.size w w' := by
  have hbl := al_bel w (.cells (trC t) 50)
  have c0 := cell1_of ((hbl.block _ (lt_of_blk hd)).trans hd)
  generalize hA : (decide (lo ≤ t.to) && decide (t.to ≤ hi)) = A
  have HF : Hid (Calls Tryz.prog 143 #[.agg #[.int .i64 t.kind, .int .i64 t.a, .int .i64 t.b, .float .f64 t.x, .float .f64 t.y, .int .i64 t.day, .int .i64 t.to, .int .i64 t.cur, .int .i64 t.count, .int .i64 t.n, .int .i64 t.months], .pointer (some ⟨b + 1, 0, none⟩), .pointer (some ⟨b, 0, none⟩), .pointer (some ⟨b + 2, 0, none⟩)] (w.alloc (.cells (trC t) 50)) fun e w' => e = .returned (.bool A) ∧ Below (w.alloc (.cells (trC t) 50)).heap.size (w.alloc (.cells (trC t) 50)) w') := by
    rw [← hA]
    exact fitWho f b 6 lo hi t.to rd wr ha t _ (hb.below hbl) rfl
  have he := enter_who2
  obtain ⟨d0, d1, d2, d3, d4, d5, d6, d7, d8, d9, d10⟩ := trm_cells (heap_alloc_new w (.cells (trC t) 50) : TrB _ w.heap.size t)
  have HW := hidD hbl
  have HT : Hid (TrB (w.alloc (.cells (trC t) 50)) w.heap.size t) := heap_alloc_new w (.cells (trC t) 50)
  unfold fit2V ptB at c0
  clear hb hd ha hbl hA
  cases A
  all_goals
    go_enter Tryz.func113, Tryz.ntmps113
    go_wp2_with fail
    refine HF.out.mono ?_
    rintro e w2 ⟨rfl, hb⟩
    have HB2 := hidD (HW.out.trans (hb.mono HW.out.size))
    obtain ⟨e0, e1, e2, e3, e4, e5, e6, _⟩ := trm_cells (HT.out.below hb)
    clear hb d0 d1 d2 d3 d4 d5 d6 d7 d8 d9 d10
    go_wp2_with fail
    go_ret
    exact ⟨rfl, HB2.out⟩
def fdI : Fd → Nat → Prop
  | .num f, i => AcF f i ∧ (i = 3 ∨ i = 4)
  | .who f _ _ _ _, i => AcF f i ∧ 5 ≤ i ∧ i ≤ 10
  | .beh f _ _ _ _, i => AcF f i ∧ i = 6
def tAt (t : Trm) (i : Nat) : Int := if i = 5 then t.day else if i = 6 then t.to else if i = 7 then t.cur else if i = 8 then t.count else if i = 9 then t.n else t.months
theorem trC_at (t : Trm) {i : Nat} (h5 : 5 ≤ i) (h : i ≤ 10) : (trC t)[i]? = some (.int .i64 (tAt t i)) := by
  rcases (show i = 5 ∨ i = 6 ∨ i = 7 ∨ i = 8 ∨ i = 9 ∨ i = 10 by omega) with rfl | rfl | rfl | rfl | rfl | rfl <;> rfl
structure TrU (t : Trm) : Prop where
  x : U64 t.x
  y : U64 t.y
def xAt (t : Trm) (i : Nat) : Nat := if i = 3 then t.x else t.y
def fdFit (d : Fd) (i : Nat) (t : Trm) : Bool :=
  match d with
  | .num _ => finB (xAt t i)
  | .who _ lo hi _ _ => decide (lo ≤ tAt t i) && decide (tAt t i ≤ hi)
  | .beh _ lo hi _ _ => decide (lo ≤ t.to) && decide (t.to ≤ hi) && decide (t.day < t.to)
set_option maxRecDepth 20000 in
theorem fd_fit {d : Fd} {i : Nat} {c0 c1 c2 c3 : Value} {w : World} (h : FdAt d (.agg #[c0, c1, c2, c3]) w) (hi : fdI d i) (t : Trm) (hu : TrU t) :
    ∃ F cap, c1 = .func (.func F) #[] cap ∧ (∀ xs w, (callFunc F xs).run Tryz.prog w = .ok (.enter F xs) w) ∧ ∀ wx, Below w.heap.size w wx → Calls Tryz.prog F (#[.agg (trC t)] ++ cap) wx fun e w' => e = .returned (.bool (fdFit d i t)) ∧ Below wx.heap.size wx w' := by
  cases d with
  | num f =>
    obtain ⟨b, e, hb⟩ := h
    obtain ⟨ha, hi⟩ := hi
    injection e with e
    obtain ⟨_, rfl, _, _⟩ : c0 = _ ∧ c1 = _ ∧ c2 = _ ∧ c3 = _ := by simpa [numV] using e
    refine ⟨_, _, rfl, fun xs w => enterD Tryz.func99 (by kernel_rfl) rfl xs w, fun wx hx => ?_⟩
    rcases hi with rfl | rfl
    · rw [show fdFit (.num f) 3 t = finB (xAt t 3) from rfl, show xAt t 3 = t.x from rfl]
      exact fitNumX f b ha t wx ((hx.block _ (lt_of_blk hb)).trans hb) hu.x
    · rw [show fdFit (.num f) 4 t = finB (xAt t 4) from rfl, show xAt t 4 = t.y from rfl]
      exact fitNumY f b ha t wx ((hx.block _ (lt_of_blk hb)).trans hb) hu.y
  | who f lo hi' rd wr =>
    obtain ⟨b, e, hb⟩ := h
    obtain ⟨ha, h5, h10⟩ := hi
    injection e with e
    obtain ⟨_, rfl, _, _⟩ : c0 = _ ∧ c1 = _ ∧ c2 = _ ∧ c3 = _ := by simpa [whoV] using e
    exact ⟨_, _, rfl, enter_who2, fun wx hx => fitWho f b i lo hi' (tAt t i) rd wr ha t wx (hb.below hx) (trC_at t h5 h10)⟩
  | beh f lo hi' rd wr =>
    obtain ⟨b, d, e, hb, hd⟩ := h
    obtain ⟨ha, rfl⟩ := hi
    injection e with e
    obtain ⟨_, rfl, _, _⟩ : c0 = _ ∧ c1 = _ ∧ c2 = _ ∧ c3 = _ := by simpa [behV] using e
    exact ⟨_, _, rfl, fun xs w => enterD Tryz.func113 (by kernel_rfl) rfl xs w, fun wx hx => fitBeh f b d lo hi' rd wr ha t wx (hb.below hx) ((hx.block _ (lt_of_blk hd)).trans hd)⟩
def clrV (i : Nat) : Value := if i = 3 ∨ i = 4 then .float .f64 0 else .int .i64 0
set_option maxRecDepth 20000 in
theorem fd_clear {d : Fd} {i : Nat} {c0 c1 c2 c3 : Value} {w : World} (h : FdAt d (.agg #[c0, c1, c2, c3]) w) (hi : fdI d i) :
    ∃ F cap, c3 = .func (.func F) #[] cap ∧ (∀ xs w, (callFunc F xs).run Tryz.prog w = .ok (.enter F xs) w) ∧ ∀ (t : Trm) (g : Nat) (wx : World), Below w.heap.size w wx → TrB wx g t → Calls Tryz.prog F (#[.pointer (some ⟨g, 0, none⟩)] ++ cap) wx fun e w' => e = .returned (.tuple #[]) ∧ w' = wx.setCell ⟨g, i, none⟩ (clrV i) := by
  cases d with
  | num f =>
    obtain ⟨b, e, hb⟩ := h
    obtain ⟨ha, hi⟩ := hi
    injection e with e
    obtain ⟨_, _, _, rfl⟩ : c0 = _ ∧ c1 = _ ∧ c2 = _ ∧ c3 = _ := by simpa [numV] using e
    refine ⟨_, _, rfl, fun xs w => enterD Tryz.func103 (by kernel_rfl) rfl xs w, fun t g wx hx ht => ?_⟩
    rcases hi with rfl | rfl
    · exact clrNumX f b g ha t wx ((hx.block _ (lt_of_blk hb)).trans hb) ht
    · exact clrNumY f b g ha t wx ((hx.block _ (lt_of_blk hb)).trans hb) ht
  | who f lo hi' rd wr =>
    obtain ⟨b, e, hb⟩ := h
    obtain ⟨ha, h5, h10⟩ := hi
    injection e with e
    obtain ⟨_, _, _, rfl⟩ : c0 = _ ∧ c1 = _ ∧ c2 = _ ∧ c3 = _ := by simpa [whoV] using e
    refine ⟨_, _, rfl, fun xs w => enterD Tryz.func145 (by kernel_rfl) rfl xs w, fun t g wx hx ht => ?_⟩
    have e : clrV i = .int .i64 0 := if_neg (by omega)
    rw [e]
    exact clrWho f b i g (tAt t i) ha t wx (hb.below hx).at_ ht (trC_at t h5 h10)
  | beh f lo hi' rd wr =>
    obtain ⟨b, d, e, hb, hd⟩ := h
    obtain ⟨ha, rfl⟩ := hi
    injection e with e
    obtain ⟨_, _, _, rfl⟩ : c0 = _ ∧ c1 = _ ∧ c2 = _ ∧ c3 = _ := by simpa [behV] using e
    exact ⟨_, _, rfl, fun xs w => enterD Tryz.func145 (by kernel_rfl) rfl xs w, fun t g wx hx ht => clrWho f b 6 g t.to ha t wx (hb.below hx).at_ ht rfl⟩
end Go.Proofs.YtienedhaogjahaaGreatDoor
namespace Go.Proofs.YtienedhaogjahaaGreatDoor
open Go.RowKit

def ckO (i : Nat) : Int := (i : Int) + 2
def ckT (i : Nat) : Int := if i < 3 then (i : Int) + 2 else (i : Int) + 3
def ckB (i : Nat) : Bool := decide (2 ≤ i)
structure CTab (h : Nat) (w : World) : Prop where
  c0 : ∀ i < 6, w.cell? ⟨h, i * 3, none⟩ = some (.int .i64 (ckO i))
  c1 : ∀ i < 6, w.cell? ⟨h, i * 3 + 1, none⟩ = some (.int .i64 (ckT i))
  c2 : ∀ i < 6, w.cell? ⟨h, i * 3 + 2, none⟩ = some (.bool (ckB i))
  lt : h < w.heap.size
theorem CTab.below {h : Nat} {w w' : World} (t : CTab h w) (hb : Below w.heap.size w w') : CTab h w' := by
  have k : ∀ j, w'.cell? ⟨h, j, none⟩ = w.cell? ⟨h, j, none⟩ := fun j => World.cell?_of_block (w := w) (a := ⟨h, j, none⟩) (hb.block h t.lt)
  exact ⟨fun i hi => (k _).trans (t.c0 i hi), fun i hi => (k _).trans (t.c1 i hi), fun i hi => (k _).trans (t.c2 i hi), Nat.lt_of_lt_of_le t.lt hb.size⟩
set_option maxRecDepth 20000 in
set_option maxHeartbeats 1600000 in
theorem cKinds_any (w : World) : Calls Tryz.prog 125 #[] w fun e w' => e = .returned (.slice (some ⟨w.heap.size, 0, none⟩) 6 6) ∧ CTab w.heap.size w' ∧ Below w.heap.size w w' := by
  go_enter Tryz.func125, Tryz.ntmps125
  go_wp2_with fail
  go_ret
  refine ⟨rfl, ⟨fun i hi => ?_, fun i hi => ?_, fun i hi => ?_, by simp⟩, al_bel _ _⟩
  all_goals
    rw [box_cell]
    rcases (show i = 0 ∨ i = 1 ∨ i = 2 ∨ i = 3 ∨ i = 4 ∨ i = 5 by omega) with rfl | rfl | rfl | rfl | rfl | rfl <;> rfl
def CFnd (pr : Nat → Bool) (r : Int) : Prop := (r = -1 ∧ ∀ j < 6, pr j = false) ∨ ∃ i : Nat, i < 6 ∧ r = (i : Int) ∧ pr i = true ∧ ∀ j < i, pr j = false
set_option maxRecDepth 20000 in
set_option maxHeartbeats 3200000 in
theorem cIdx_any (h : Nat) (F : Nat) (cap : Array Value) (pr : Nat → Bool) (w : World) (ht : CTab h w) (he : ∀ xs w, (callFunc F xs).run Tryz.prog w = .ok (.enter F xs) w)
    (hF : ∀ i, i < 6 → ∀ wx, Below w.heap.size w wx → Calls Tryz.prog F (#[.agg #[.int .i64 (ckO i), .int .i64 (ckT i), .bool (ckB i)]] ++ cap) wx fun e w' => e = .returned (.bool (pr i)) ∧ Below wx.heap.size wx w') :
    Calls Tryz.prog 126 #[.slice (some ⟨h, 0, none⟩) 6 6, .func (.func F) #[] cap] w fun e w' => ∃ r, e = .returned (.int .i64 r) ∧ CFnd pr r ∧ Below w.heap.size w w' := by
  have HT := hidD ht
  have HF := hidD hF
  clear ht hF
  go_enter Tryz.func126, Tryz.ntmps126
  go_wp2_with fail
  go_loopw [8] (fun i wr => ∃ k : Nat, k ≤ 6 ∧ i = .int .i64 k ∧ Hid (∀ j < k, pr j = false) ∧ Hid (Below w.heap.size w wr)) (fun i _ => 6 - (intOf i).toNat)
  case atStart => exact ⟨0, Nat.zero_le _, rfl, fun j hj => by omega, Below.refl _ _⟩
  case round =>
    obtain ⟨k, hk, rfl, HP, HB⟩ := hrel
    by_cases hlt : k < 6
    · have c0 := (HT.out.below HB.out).c0 k hlt
      have c1 := (HT.out.below HB.out).c1 k hlt
      have c2 := (HT.out.below HB.out).c2 k hlt
      have HC := hidD (HF.out k hlt wr HB.out)
      have i1 : (k : Int) < 6 := by omega
      generalize ckO k = xo at *
      generalize ckT k = xt at *
      generalize ckB k = xb at *
      go_wp2_with fail
      refine HC.out.mono ?_
      rintro e w2 ⟨rfl, hb⟩
      have HB2 := hidD (HB.out.trans (hb.mono HB.out.size))
      clear hb c0 c1 c2 HC HB
      cases hp : pr k
      · go_wp2_with fail
        go_roundw
        case rel => exact ⟨k + 1, by omega, by simp, fun j hj => by by_cases e : j = k; (· rw [e]; exact hp); (· exact HP.out j (by omega)), HB2⟩
        case measure => simp [intOf]; omega
      · go_wp2_with fail
        go_ret
        exact ⟨k, rfl, Or.inr ⟨k, hlt, rfl, hp, HP.out⟩, HB2.out⟩
    · have i1 : ¬ (k : Int) < 6 := by omega
      go_wp2_with fail
      go_ret
      exact ⟨-1, rfl, Or.inl ⟨rfl, fun j hj => HP.out j (by omega)⟩, HB.out⟩
end Go.Proofs.YtienedhaogjahaaGreatDoor
namespace Go.Proofs.YtienedhaogjahaaGreatDoor
open Go.RowKit

structure Opr where
  kind : Int
  x : Nat
  y : Nat
  day : Int
  to : Int
  cur : Int
  count : Int
  n : Int
  months : Int
def opC (t : Opr) : Array Value := #[.int .i64 t.kind, .float .f64 t.x, .float .f64 t.y, .int .i64 t.day, .int .i64 t.to, .int .i64 t.cur, .int .i64 t.count, .int .i64 t.n, .int .i64 t.months]
def zeroC : Obj := .cells #[.int .i64 0, .int .i64 0, .bool false] 98
structure ZC (g : Nat) (w : World) : Prop where
  c0 : w.cell? ⟨g, 0, none⟩ = some (.int .i64 0)
  c1 : w.cell? ⟨g, 1, none⟩ = some (.int .i64 0)
  c2 : w.cell? ⟨g, 2, none⟩ = some (.bool false)
  fz : ∀ i, w.frozen? ⟨g, i, none⟩ = false
theorem zc_of {g : Nat} {w : World} (h : w.heap[g]? = some zeroC) : ZC g w := by
  unfold zeroC at h
  refine ⟨?_, ?_, ?_, fun i => by simp [World.frozen?, h]⟩ <;>
  · simp only [World.cell?, h, Option.isSome_none, Bool.false_eq_true, if_false]; rfl
def put3C (w : World) (g : Nat) (a b c : Value) : World := ((w.setCell ⟨g, 0, none⟩ a).setCell ⟨g, 1, none⟩ b).setCell ⟨g, 2, none⟩ c
theorem put3C_blk {w : World} {g : Nat} (h : w.heap[g]? = some zeroC) (a b c : Value) : (put3C w g a b c).heap[g]? = some (.cells #[a, b, c] 98) := by
  unfold zeroC at h
  have h1 : (w.setCell ⟨g, 0, none⟩ a).heap[g]? = some (.cells #[a, .int .i64 0, .bool false] 98) := (heap_setCell_same w g 0 _ _ _ h).trans rfl
  have h2 : ((w.setCell ⟨g, 0, none⟩ a).setCell ⟨g, 1, none⟩ b).heap[g]? = some (.cells #[a, b, .bool false] 98) := (heap_setCell_same _ g 1 _ _ _ h1).trans rfl
  exact (heap_setCell_same _ g 2 _ _ _ h2).trans rfl
theorem put3C_bel {w : World} {g B : Nat} (a b c : Value) (h : B ≤ g) : Below B w (put3C w g a b c) := (((Below.refl B w).setCell (p := ⟨g, 0, none⟩) h _).setCell (p := ⟨g, 1, none⟩) h _).setCell (p := ⟨g, 2, none⟩) h _
theorem cellC_of {w : World} {g : Nat} {a b c : Value} (h : w.heap[g]? = some (.cells #[a, b, c] 98)) : w.cell? ⟨g, 0, none⟩ = some a ∧ w.cell? ⟨g, 1, none⟩ = some b ∧ w.cell? ⟨g, 2, none⟩ = some c := by
  refine ⟨?_, ?_, ?_⟩ <;>
  · simp only [World.cell?, h, Option.isSome_none, Bool.false_eq_true, if_false]; rfl
def cAns (pr : Nat → Bool) (o t : Int) (b : Bool) : Prop := ((∀ j < 6, pr j = false) ∧ o = 0 ∧ t = 0 ∧ b = false) ∨ ∃ i : Nat, i < 6 ∧ pr i = true ∧ (∀ j < i, pr j = false) ∧ o = ckO i ∧ t = ckT i ∧ b = ckB i
set_option maxRecDepth 20000 in
set_option maxHeartbeats 3200000 in
theorem cFind_any (F : Nat) (cap : Array Value) (pr : Nat → Bool) (w : World) (he : ∀ xs w, (callFunc F xs).run Tryz.prog w = .ok (.enter F xs) w)
    (hF : ∀ i, i < 6 → ∀ wx, Below w.heap.size w wx → Calls Tryz.prog F (#[.agg #[.int .i64 (ckO i), .int .i64 (ckT i), .bool (ckB i)]] ++ cap) wx fun e w' => e = .returned (.bool (pr i)) ∧ Below wx.heap.size wx w') :
    Calls Tryz.prog 85 #[.func (.func F) #[] cap] w fun e w' => ∃ o t b, e = .returned (.agg #[.int .i64 o, .int .i64 t, .bool b]) ∧ cAns pr o t b ∧ Below w.heap.size w w' := by
  have HF := hidD hF
  have HE := hidD he
  clear hF he
  go_enter Tryz.func85, Tryz.ntmps85
  go_wp2_with fail
  refine (cKinds_any _).mono ?_
  rintro e w1 ⟨rfl, ht, hb⟩
  have hb1 := (al_bel w zeroC).trans (hb.mono (by simp))
  have hz1 : w1.heap[w.heap.size]? = some zeroC := al_new _ _ hb
  have HI := hidD (cIdx_any _ F cap pr w1 ht HE.out (fun i hi wx hx => HF.out i hi wx (hb1.trans (hx.mono hb1.size))))
  have HT := hidD ht
  have HB1 := hidD hb1
  have HZ1 := hidD hz1
  have hs : (w.alloc (.cells #[.int .i64 0, .int .i64 0, .bool false] 98)).heap.size = w.heap.size + 1 := by simp
  rw [hs] at HI HT ⊢
  clear ht hb hb1 hz1 hs HF HE
  go_wp2_with fail
  refine HI.out.mono ?_
  rintro e w2 ⟨r, rfl, hr, hb⟩
  have hz := (hb.block _ (lt_of_blk HZ1.out)).trans HZ1.out
  have HZ := hidD hz
  have HB := hidD (HB1.out.trans (hb.mono HB1.out.size))
  have HT2 := hidD (HT.out.below hb)
  obtain ⟨z0, z1, z2, zf⟩ := zc_of hz
  have y0 := zf 0
  have y1 := zf 1
  have y2 := zf 2
  clear hz hb zf HI HZ1
  rcases hr with ⟨rfl, hn⟩ | ⟨i, hi, rfl, hp, hn⟩
  · have HN := hidD hn
    clear hn
    obtain ⟨w3, hw3⟩ : ∃ w3, put3C w2 w.heap.size (.int .i64 0) (.int .i64 0) (.bool false) = w3 := ⟨_, rfl⟩
    have hr := put3C_blk HZ.out (.int .i64 0) (.int .i64 0) (.bool false)
    have HB2 : Hid (Below w.heap.size w w3) := by show Below _ _ _; rw [← hw3]; exact HB.out.trans (put3C_bel _ _ _ (Nat.le_refl _))
    rw [hw3] at hr
    obtain ⟨q0, q1, q2⟩ := cellC_of hr
    unfold put3C at hw3
    go_wp2_with fail
    refine bodyPost_ret (v := .agg #[.int .i64 0, .int .i64 0, .bool false]) (by simp [results, Tryz.results85, go_sem, *]) rfl ⟨0, 0, false, rfl, Or.inl ⟨HN.out, rfl, rfl, rfl⟩, HB2.out⟩
  · have HN := hidD (And.intro hi (And.intro hp hn))
    have c0 := HT2.out.c0 i hi
    have c1 := HT2.out.c1 i hi
    have c2 := HT2.out.c2 i hi
    have i1 : (i : Int) < 6 := by omega
    have i2 : ¬ (i : Int) < 0 := by omega
    have i3 : (0 : Int) ≤ (i : Int) := by omega
    clear hn hp
    obtain ⟨xo, hxo⟩ : ∃ x, ckO i = x := ⟨_, rfl⟩
    obtain ⟨xt, hxt⟩ : ∃ x, ckT i = x := ⟨_, rfl⟩
    obtain ⟨xb, hxb⟩ : ∃ x, ckB i = x := ⟨_, rfl⟩
    rw [hxo] at c0
    rw [hxt] at c1
    rw [hxb] at c2
    have HX := hidD (And.intro hxo (And.intro hxt hxb))
    clear hxo hxt hxb
    obtain ⟨w3, hw3⟩ : ∃ w3, put3C w2 w.heap.size (.int .i64 xo) (.int .i64 xt) (.bool xb) = w3 := ⟨_, rfl⟩
    have hr := put3C_blk HZ.out (.int .i64 xo) (.int .i64 xt) (.bool xb)
    have HB2 : Hid (Below w.heap.size w w3) := by show Below _ _ _; rw [← hw3]; exact HB.out.trans (put3C_bel _ _ _ (Nat.le_refl _))
    rw [hw3] at hr
    obtain ⟨q0, q1, q2⟩ := cellC_of hr
    unfold put3C at hw3
    go_wp2_with fail
    refine bodyPost_ret (v := .agg #[.int .i64 xo, .int .i64 xt, .bool xb]) (by simp [results, Tryz.results85, go_sem, *]) rfl ⟨xo, xt, xb, rfl, Or.inr ⟨i, HN.out.1, HN.out.2.1, HN.out.2.2, HX.out.1.symm, HX.out.2.1.symm, HX.out.2.2.symm⟩, HB2.out⟩
set_option maxRecDepth 20000 in
theorem kindOf1_any (xo xt : Int) (xb : Bool) (b : Nat) (o : Opr) (w : World) (hb : w.heap[b]? = some (.cells (opC o) 47)) :
    Calls Tryz.prog 88 #[.agg #[.int .i64 xo, .int .i64 xt, .bool xb], .pointer (some ⟨b, 0, none⟩)] w fun e w' => e = .returned (.bool (xo == o.kind)) ∧ Below w.heap.size w w' := by
  have c0 : w.cell? ⟨b, 0, none⟩ = some (.int .i64 o.kind) := by
    simp only [World.cell?, hb, Option.isSome_none, Bool.false_eq_true, if_false]; rfl
  have hl := lt_of_blk hb
  have hne := Nat.ne_of_lt hl
  clear hb
  go_enter Tryz.func88, Tryz.ntmps88
  go_wp2_with fail
  go_ret
  exact ⟨rfl, al_bel _ _⟩
set_option maxRecDepth 20000 in
set_option maxHeartbeats 3200000 in
theorem kindOf_any (o : Opr) (w : World) :
    Calls Tryz.prog 48 #[.agg (opC o)] w fun e w' => ∃ xo xt xb, e = .returned (.agg #[.int .i64 xo, .int .i64 xt, .bool xb]) ∧ cAns (fun i => ckO i == o.kind) xo xt xb ∧ Below w.heap.size w w' := by
  have hmf := make_fnD
  have hbx : ((w.alloc (.cells (opC o) 47)).alloc zeroC).heap[w.heap.size]? = some (.cells (opC o) 47) := by rw [al_at, sz_al, if_neg (by omega)]; exact heap_alloc_new _ _
  have HF := hidD (cFind_any 88 #[.pointer (some ⟨w.heap.size, 0, none⟩)] (fun i => ckO i == o.kind) ((w.alloc (.cells (opC o) 47)).alloc zeroC) (fun xs w => enterD Tryz.func88 (by kernel_rfl) rfl xs w) (fun i hi wx hb => kindOf1_any (ckO i) (ckT i) (ckB i) w.heap.size o wx ((hb.block _ (by simp; omega)).trans hbx)))
  have HA := hidD (((Below.refl w.heap.size w).alloc (Nat.le_refl _) (.cells (opC o) 47)).alloc (by simp) zeroC)
  clear hbx
  unfold opC zeroC at HF HA
  unfold opC
  go_enter Tryz.func48, Tryz.ntmps48
  go_wp2_with fail
  refine HF.out.mono ?_
  rintro e w1 ⟨xo, xt, xb, rfl, hv, hb⟩
  have hz : w1.heap[w.heap.size + 1]? = some zeroC := by
    have := al_new _ _ hb
    rw [sz_al] at this
    exact this
  have HZ := hidD hz
  have HV := hidD hv
  have HB := hidD (HA.out.trans (hb.mono HA.out.size))
  obtain ⟨z0, z1, z2, zf⟩ := zc_of hz
  have y0 := zf 0
  have y1 := zf 1
  have y2 := zf 2
  clear hz hb zf HF hmf hv
  obtain ⟨w2, hw2⟩ : ∃ w2, put3C w1 (w.heap.size + 1) (.int .i64 xo) (.int .i64 xt) (.bool xb) = w2 := ⟨_, rfl⟩
  have hr := put3C_blk HZ.out (.int .i64 xo) (.int .i64 xt) (.bool xb)
  have HB2 : Hid (Below w.heap.size w w2) := by show Below _ _ _; rw [← hw2]; exact HB.out.trans (put3C_bel _ _ _ (by omega))
  rw [hw2] at hr
  obtain ⟨q0, q1, q2⟩ := cellC_of hr
  unfold put3C at hw2
  go_wp2_with fail
  refine bodyPost_ret (v := .agg #[.int .i64 xo, .int .i64 xt, .bool xb]) (by simp [results, Tryz.results48, go_sem, *]) rfl ⟨xo, xt, xb, rfl, HV.out, HB2.out⟩
set_option maxRecDepth 20000 in
theorem kindFor1_any (xo xt : Int) (xb : Bool) (b : Nat) (o : Trm) (w : World) (hb : w.heap[b]? = some (.cells (trC o) 50)) :
    Calls Tryz.prog 86 #[.agg #[.int .i64 xo, .int .i64 xt, .bool xb], .pointer (some ⟨b, 0, none⟩)] w fun e w' => e = .returned (.bool (xt == o.kind)) ∧ Below w.heap.size w w' := by
  have c0 : w.cell? ⟨b, 0, none⟩ = some (.int .i64 o.kind) := by
    simp only [World.cell?, hb, Option.isSome_none, Bool.false_eq_true, if_false]; rfl
  have hl := lt_of_blk hb
  have hne := Nat.ne_of_lt hl
  clear hb
  go_enter Tryz.func86, Tryz.ntmps86
  go_wp2_with fail
  go_ret
  exact ⟨rfl, al_bel _ _⟩
set_option maxRecDepth 20000 in
set_option maxHeartbeats 3200000 in
theorem kindFor_any (o : Trm) (w : World) :
    Calls Tryz.prog 42 #[.agg (trC o)] w fun e w' => ∃ xo xt xb, e = .returned (.agg #[.int .i64 xo, .int .i64 xt, .bool xb]) ∧ cAns (fun i => ckT i == o.kind) xo xt xb ∧ Below w.heap.size w w' := by
  have hmf := make_fnD
  have hbx : ((w.alloc (.cells (trC o) 50)).alloc zeroC).heap[w.heap.size]? = some (.cells (trC o) 50) := by rw [al_at, sz_al, if_neg (by omega)]; exact heap_alloc_new _ _
  have HF := hidD (cFind_any 86 #[.pointer (some ⟨w.heap.size, 0, none⟩)] (fun i => ckT i == o.kind) ((w.alloc (.cells (trC o) 50)).alloc zeroC) (fun xs w => enterD Tryz.func86 (by kernel_rfl) rfl xs w) (fun i hi wx hb => kindFor1_any (ckO i) (ckT i) (ckB i) w.heap.size o wx ((hb.block _ (by simp; omega)).trans hbx)))
  have HA := hidD (((Below.refl w.heap.size w).alloc (Nat.le_refl _) (.cells (trC o) 50)).alloc (by simp) zeroC)
  clear hbx
  unfold trC zeroC at HF HA
  unfold trC
  go_enter Tryz.func42, Tryz.ntmps42
  go_wp2_with fail
  refine HF.out.mono ?_
  rintro e w1 ⟨xo, xt, xb, rfl, hv, hb⟩
  have hz : w1.heap[w.heap.size + 1]? = some zeroC := by
    have := al_new _ _ hb
    rw [sz_al] at this
    exact this
  have HZ := hidD hz
  have HV := hidD hv
  have HB := hidD (HA.out.trans (hb.mono HA.out.size))
  obtain ⟨z0, z1, z2, zf⟩ := zc_of hz
  have y0 := zf 0
  have y1 := zf 1
  have y2 := zf 2
  clear hz hb zf HF hmf hv
  obtain ⟨w2, hw2⟩ : ∃ w2, put3C w1 (w.heap.size + 1) (.int .i64 xo) (.int .i64 xt) (.bool xb) = w2 := ⟨_, rfl⟩
  have hr := put3C_blk HZ.out (.int .i64 xo) (.int .i64 xt) (.bool xb)
  have HB2 : Hid (Below w.heap.size w w2) := by show Below _ _ _; rw [← hw2]; exact HB.out.trans (put3C_bel _ _ _ (by omega))
  rw [hw2] at hr
  obtain ⟨q0, q1, q2⟩ := cellC_of hr
  unfold put3C at hw2
  go_wp2_with fail
  refine bodyPost_ret (v := .agg #[.int .i64 xo, .int .i64 xt, .bool xb]) (by simp [results, Tryz.results42, go_sem, *]) rfl ⟨xo, xt, xb, rfl, HV.out, HB2.out⟩
end Go.Proofs.YtienedhaogjahaaGreatDoor
namespace Go.Proofs.YtienedhaogjahaaGreatDoor
open Go.RowKit

theorem eqFlt' (d : Nat) (a b : Nat) (w : World) : (Op.equalIn (d + 1) 45 (.float .f64 a) (.float .f64 b)).run Tryz.prog w = .ok (FloatKind.f64.format.order a b == some .eq) w := by
  simp [Op.equalIn, run_underlying Tryz.underlying45]
  rfl
theorem eqFlt (a b : Nat) (w : World) : (Op.equalIn 9999 45 (.float .f64 a) (.float .f64 b)).run Tryz.prog w = .ok (FloatKind.f64.format.order a b == some .eq) w := eqFlt' 9998 a b w
theorem eqf_cons {d : Nat} {xs ys : Array Value} {f : Field} {rest : List Field} {a b : Value} {r s : Bool} {w : World} (hn : (f.name != "_") = true) (hx : (part f.type xs f.offset).run Tryz.prog w = .ok a w) (hy : (part f.type ys f.offset).run Tryz.prog w = .ok b w) (he : (Op.equalIn d f.type a b).run Tryz.prog w = .ok r w) (hr : (Op.eqFields d xs ys rest).run Tryz.prog w = .ok s w) : (Op.eqFields d xs ys (f :: rest)).run Tryz.prog w = .ok (r && s) w := by
  have hn' : f.name ≠ "_" := by simpa using hn
  cases r <;> simp [Op.eqFields, Sem.run_bind, hx, hy, he, hn', hr]
theorem eqf_nil {d : Nat} {xs ys : Array Value} {w : World} : (Op.eqFields d xs ys []).run Tryz.prog w = .ok true w := by simp [Op.eqFields]
theorem oq_h1 : Tryz.prog.stoodInHeld 47 = false := by kernel_rfl
theorem oq_h2 : Tryz.prog.underlying 47 = some (.struct (Tryz.prog.fieldsOf 47)) := by kernel_rfl
theorem oq_hf : (Tryz.prog.fieldsOf 47).toList = [(Tryz.prog.fieldsOf 47)[0]!, (Tryz.prog.fieldsOf 47)[1]!, (Tryz.prog.fieldsOf 47)[2]!, (Tryz.prog.fieldsOf 47)[3]!, (Tryz.prog.fieldsOf 47)[4]!, (Tryz.prog.fieldsOf 47)[5]!, (Tryz.prog.fieldsOf 47)[6]!, (Tryz.prog.fieldsOf 47)[7]!, (Tryz.prog.fieldsOf 47)[8]!] := by kernel_rfl
theorem oq_n0 : ((Tryz.prog.fieldsOf 47)[0]!.name != "_") = true := by kernel_rfl
theorem oq_t0 : (Tryz.prog.fieldsOf 47)[0]!.type = 3 := by kernel_rfl
theorem oq_p0 (p0 : Int) (p1 : Nat) (p2 : Nat) (p3 : Int) (p4 : Int) (p5 : Int) (p6 : Int) (p7 : Int) (p8 : Int) (w : World) : (part (Tryz.prog.fieldsOf 47)[0]!.type #[.int .i64 p0, .float .f64 p1, .float .f64 p2, .int .i64 p3, .int .i64 p4, .int .i64 p5, .int .i64 p6, .int .i64 p7, .int .i64 p8] (Tryz.prog.fieldsOf 47)[0]!.offset).run Tryz.prog w = .ok (.int .i64 p0) w := by kernel_rfl
theorem oq_e0 (a b : Int) (w : World) : (Op.equalIn 9999 (Tryz.prog.fieldsOf 47)[0]!.type (.int .i64 a) (.int .i64 b)).run Tryz.prog w = .ok (a == b) w := by
  rw [show (9999 : Nat) = 9998 + 1 from rfl, oq_t0, run_equalIn_int w 9998 3 .i64 .i64 a b (by kernel_rfl)]
theorem oq_n1 : ((Tryz.prog.fieldsOf 47)[1]!.name != "_") = true := by kernel_rfl
theorem oq_t1 : (Tryz.prog.fieldsOf 47)[1]!.type = 45 := by kernel_rfl
theorem oq_p1 (p0 : Int) (p1 : Nat) (p2 : Nat) (p3 : Int) (p4 : Int) (p5 : Int) (p6 : Int) (p7 : Int) (p8 : Int) (w : World) : (part (Tryz.prog.fieldsOf 47)[1]!.type #[.int .i64 p0, .float .f64 p1, .float .f64 p2, .int .i64 p3, .int .i64 p4, .int .i64 p5, .int .i64 p6, .int .i64 p7, .int .i64 p8] (Tryz.prog.fieldsOf 47)[1]!.offset).run Tryz.prog w = .ok (.float .f64 p1) w := by kernel_rfl
theorem oq_e1 (a b : Nat) (w : World) : (Op.equalIn 9999 (Tryz.prog.fieldsOf 47)[1]!.type (.float .f64 a) (.float .f64 b)).run Tryz.prog w = .ok (FloatKind.f64.format.order a b == some .eq) w := by
  rw [oq_t1]; exact eqFlt a b w
theorem oq_n2 : ((Tryz.prog.fieldsOf 47)[2]!.name != "_") = true := by kernel_rfl
theorem oq_t2 : (Tryz.prog.fieldsOf 47)[2]!.type = 45 := by kernel_rfl
theorem oq_p2 (p0 : Int) (p1 : Nat) (p2 : Nat) (p3 : Int) (p4 : Int) (p5 : Int) (p6 : Int) (p7 : Int) (p8 : Int) (w : World) : (part (Tryz.prog.fieldsOf 47)[2]!.type #[.int .i64 p0, .float .f64 p1, .float .f64 p2, .int .i64 p3, .int .i64 p4, .int .i64 p5, .int .i64 p6, .int .i64 p7, .int .i64 p8] (Tryz.prog.fieldsOf 47)[2]!.offset).run Tryz.prog w = .ok (.float .f64 p2) w := by kernel_rfl
theorem oq_e2 (a b : Nat) (w : World) : (Op.equalIn 9999 (Tryz.prog.fieldsOf 47)[2]!.type (.float .f64 a) (.float .f64 b)).run Tryz.prog w = .ok (FloatKind.f64.format.order a b == some .eq) w := by
  rw [oq_t2]; exact eqFlt a b w
theorem oq_n3 : ((Tryz.prog.fieldsOf 47)[3]!.name != "_") = true := by kernel_rfl
theorem oq_t3 : (Tryz.prog.fieldsOf 47)[3]!.type = 3 := by kernel_rfl
theorem oq_p3 (p0 : Int) (p1 : Nat) (p2 : Nat) (p3 : Int) (p4 : Int) (p5 : Int) (p6 : Int) (p7 : Int) (p8 : Int) (w : World) : (part (Tryz.prog.fieldsOf 47)[3]!.type #[.int .i64 p0, .float .f64 p1, .float .f64 p2, .int .i64 p3, .int .i64 p4, .int .i64 p5, .int .i64 p6, .int .i64 p7, .int .i64 p8] (Tryz.prog.fieldsOf 47)[3]!.offset).run Tryz.prog w = .ok (.int .i64 p3) w := by kernel_rfl
theorem oq_e3 (a b : Int) (w : World) : (Op.equalIn 9999 (Tryz.prog.fieldsOf 47)[3]!.type (.int .i64 a) (.int .i64 b)).run Tryz.prog w = .ok (a == b) w := by
  rw [show (9999 : Nat) = 9998 + 1 from rfl, oq_t3, run_equalIn_int w 9998 3 .i64 .i64 a b (by kernel_rfl)]
theorem oq_n4 : ((Tryz.prog.fieldsOf 47)[4]!.name != "_") = true := by kernel_rfl
theorem oq_t4 : (Tryz.prog.fieldsOf 47)[4]!.type = 3 := by kernel_rfl
theorem oq_p4 (p0 : Int) (p1 : Nat) (p2 : Nat) (p3 : Int) (p4 : Int) (p5 : Int) (p6 : Int) (p7 : Int) (p8 : Int) (w : World) : (part (Tryz.prog.fieldsOf 47)[4]!.type #[.int .i64 p0, .float .f64 p1, .float .f64 p2, .int .i64 p3, .int .i64 p4, .int .i64 p5, .int .i64 p6, .int .i64 p7, .int .i64 p8] (Tryz.prog.fieldsOf 47)[4]!.offset).run Tryz.prog w = .ok (.int .i64 p4) w := by kernel_rfl
theorem oq_e4 (a b : Int) (w : World) : (Op.equalIn 9999 (Tryz.prog.fieldsOf 47)[4]!.type (.int .i64 a) (.int .i64 b)).run Tryz.prog w = .ok (a == b) w := by
  rw [show (9999 : Nat) = 9998 + 1 from rfl, oq_t4, run_equalIn_int w 9998 3 .i64 .i64 a b (by kernel_rfl)]
theorem oq_n5 : ((Tryz.prog.fieldsOf 47)[5]!.name != "_") = true := by kernel_rfl
theorem oq_t5 : (Tryz.prog.fieldsOf 47)[5]!.type = 3 := by kernel_rfl
theorem oq_p5 (p0 : Int) (p1 : Nat) (p2 : Nat) (p3 : Int) (p4 : Int) (p5 : Int) (p6 : Int) (p7 : Int) (p8 : Int) (w : World) : (part (Tryz.prog.fieldsOf 47)[5]!.type #[.int .i64 p0, .float .f64 p1, .float .f64 p2, .int .i64 p3, .int .i64 p4, .int .i64 p5, .int .i64 p6, .int .i64 p7, .int .i64 p8] (Tryz.prog.fieldsOf 47)[5]!.offset).run Tryz.prog w = .ok (.int .i64 p5) w := by kernel_rfl
theorem oq_e5 (a b : Int) (w : World) : (Op.equalIn 9999 (Tryz.prog.fieldsOf 47)[5]!.type (.int .i64 a) (.int .i64 b)).run Tryz.prog w = .ok (a == b) w := by
  rw [show (9999 : Nat) = 9998 + 1 from rfl, oq_t5, run_equalIn_int w 9998 3 .i64 .i64 a b (by kernel_rfl)]
theorem oq_n6 : ((Tryz.prog.fieldsOf 47)[6]!.name != "_") = true := by kernel_rfl
theorem oq_t6 : (Tryz.prog.fieldsOf 47)[6]!.type = 3 := by kernel_rfl
theorem oq_p6 (p0 : Int) (p1 : Nat) (p2 : Nat) (p3 : Int) (p4 : Int) (p5 : Int) (p6 : Int) (p7 : Int) (p8 : Int) (w : World) : (part (Tryz.prog.fieldsOf 47)[6]!.type #[.int .i64 p0, .float .f64 p1, .float .f64 p2, .int .i64 p3, .int .i64 p4, .int .i64 p5, .int .i64 p6, .int .i64 p7, .int .i64 p8] (Tryz.prog.fieldsOf 47)[6]!.offset).run Tryz.prog w = .ok (.int .i64 p6) w := by kernel_rfl
theorem oq_e6 (a b : Int) (w : World) : (Op.equalIn 9999 (Tryz.prog.fieldsOf 47)[6]!.type (.int .i64 a) (.int .i64 b)).run Tryz.prog w = .ok (a == b) w := by
  rw [show (9999 : Nat) = 9998 + 1 from rfl, oq_t6, run_equalIn_int w 9998 3 .i64 .i64 a b (by kernel_rfl)]
theorem oq_n7 : ((Tryz.prog.fieldsOf 47)[7]!.name != "_") = true := by kernel_rfl
theorem oq_t7 : (Tryz.prog.fieldsOf 47)[7]!.type = 3 := by kernel_rfl
theorem oq_p7 (p0 : Int) (p1 : Nat) (p2 : Nat) (p3 : Int) (p4 : Int) (p5 : Int) (p6 : Int) (p7 : Int) (p8 : Int) (w : World) : (part (Tryz.prog.fieldsOf 47)[7]!.type #[.int .i64 p0, .float .f64 p1, .float .f64 p2, .int .i64 p3, .int .i64 p4, .int .i64 p5, .int .i64 p6, .int .i64 p7, .int .i64 p8] (Tryz.prog.fieldsOf 47)[7]!.offset).run Tryz.prog w = .ok (.int .i64 p7) w := by kernel_rfl
theorem oq_e7 (a b : Int) (w : World) : (Op.equalIn 9999 (Tryz.prog.fieldsOf 47)[7]!.type (.int .i64 a) (.int .i64 b)).run Tryz.prog w = .ok (a == b) w := by
  rw [show (9999 : Nat) = 9998 + 1 from rfl, oq_t7, run_equalIn_int w 9998 3 .i64 .i64 a b (by kernel_rfl)]
theorem oq_n8 : ((Tryz.prog.fieldsOf 47)[8]!.name != "_") = true := by kernel_rfl
theorem oq_t8 : (Tryz.prog.fieldsOf 47)[8]!.type = 3 := by kernel_rfl
theorem oq_p8 (p0 : Int) (p1 : Nat) (p2 : Nat) (p3 : Int) (p4 : Int) (p5 : Int) (p6 : Int) (p7 : Int) (p8 : Int) (w : World) : (part (Tryz.prog.fieldsOf 47)[8]!.type #[.int .i64 p0, .float .f64 p1, .float .f64 p2, .int .i64 p3, .int .i64 p4, .int .i64 p5, .int .i64 p6, .int .i64 p7, .int .i64 p8] (Tryz.prog.fieldsOf 47)[8]!.offset).run Tryz.prog w = .ok (.int .i64 p8) w := by kernel_rfl
theorem oq_e8 (a b : Int) (w : World) : (Op.equalIn 9999 (Tryz.prog.fieldsOf 47)[8]!.type (.int .i64 a) (.int .i64 b)).run Tryz.prog w = .ok (a == b) w := by
  rw [show (9999 : Nat) = 9998 + 1 from rfl, oq_t8, run_equalIn_int w 9998 3 .i64 .i64 a b (by kernel_rfl)]
theorem oq_eql (p0 : Int) (p1 : Nat) (p2 : Nat) (p3 : Int) (p4 : Int) (p5 : Int) (p6 : Int) (p7 : Int) (p8 : Int) (q0 : Int) (q1 : Nat) (q2 : Nat) (q3 : Int) (q4 : Int) (q5 : Int) (q6 : Int) (q7 : Int) (q8 : Int) (w : World) : (binOp .eql 47 (.agg #[.int .i64 p0, .float .f64 p1, .float .f64 p2, .int .i64 p3, .int .i64 p4, .int .i64 p5, .int .i64 p6, .int .i64 p7, .int .i64 p8]) (.agg #[.int .i64 q0, .float .f64 q1, .float .f64 q2, .int .i64 q3, .int .i64 q4, .int .i64 q5, .int .i64 q6, .int .i64 q7, .int .i64 q8])).run Tryz.prog w = .ok (.bool ((p0 == q0) && ((FloatKind.f64.format.order p1 q1 == some .eq) && ((FloatKind.f64.format.order p2 q2 == some .eq) && ((p3 == q3) && ((p4 == q4) && ((p5 == q5) && ((p6 == q6) && ((p7 == q7) && ((p8 == q8) && true)))))))))) w := by
  rw [run_eql_struct, show (10000 : Nat) = 9999 + 1 from rfl, run_equalIn_agg w 9999 47 _ _ oq_h2 oq_h1, oq_hf, (eqf_cons oq_n0 (oq_p0 p0 p1 p2 p3 p4 p5 p6 p7 p8 w) (oq_p0 q0 q1 q2 q3 q4 q5 q6 q7 q8 w) (oq_e0 p0 q0 w) (eqf_cons oq_n1 (oq_p1 p0 p1 p2 p3 p4 p5 p6 p7 p8 w) (oq_p1 q0 q1 q2 q3 q4 q5 q6 q7 q8 w) (oq_e1 p1 q1 w) (eqf_cons oq_n2 (oq_p2 p0 p1 p2 p3 p4 p5 p6 p7 p8 w) (oq_p2 q0 q1 q2 q3 q4 q5 q6 q7 q8 w) (oq_e2 p2 q2 w) (eqf_cons oq_n3 (oq_p3 p0 p1 p2 p3 p4 p5 p6 p7 p8 w) (oq_p3 q0 q1 q2 q3 q4 q5 q6 q7 q8 w) (oq_e3 p3 q3 w) (eqf_cons oq_n4 (oq_p4 p0 p1 p2 p3 p4 p5 p6 p7 p8 w) (oq_p4 q0 q1 q2 q3 q4 q5 q6 q7 q8 w) (oq_e4 p4 q4 w) (eqf_cons oq_n5 (oq_p5 p0 p1 p2 p3 p4 p5 p6 p7 p8 w) (oq_p5 q0 q1 q2 q3 q4 q5 q6 q7 q8 w) (oq_e5 p5 q5 w) (eqf_cons oq_n6 (oq_p6 p0 p1 p2 p3 p4 p5 p6 p7 p8 w) (oq_p6 q0 q1 q2 q3 q4 q5 q6 q7 q8 w) (oq_e6 p6 q6 w) (eqf_cons oq_n7 (oq_p7 p0 p1 p2 p3 p4 p5 p6 p7 p8 w) (oq_p7 q0 q1 q2 q3 q4 q5 q6 q7 q8 w) (oq_e7 p7 q7 w) (eqf_cons oq_n8 (oq_p8 p0 p1 p2 p3 p4 p5 p6 p7 p8 w) (oq_p8 q0 q1 q2 q3 q4 q5 q6 q7 q8 w) (oq_e8 p8 q8 w) eqf_nil)))))))))]
  rfl
end Go.Proofs.YtienedhaogjahaaGreatDoor
