/- The contracts of deal's and code's isNumber, and of code's within, isDay, isCurrency. Package deal: terms, and what a field tells of one. Package deal: a field's functions, whatever field it is. Package deal: whether a term's fields may be, where they may. Package code: the kinds of ops, looked up. Package code: an op's kind, and a term's. Two ops, two terms are compared. -/
import Derived.Test.YtiiajhomdpfafaaGreatDoorHan
import Derived.Test.YtiiajhomdpfafaaGreatDoorHax
import Derived.Laws.StructEq
import Derived.LoopTactic
namespace Go.Proofs.YtiiajhomdpfafaaGreatDoor
open Go.RowKit

set_option maxHeartbeats 800000 in
theorem dNum_any (x : Nat) (w : World) (hx : U64 x) :
    Calls Tryz.prog 73 #[.float .f64 x] w fun e w' => e = .returned (.bool (finB x)) ∧ w' = w := by
  have H1 := hidD fun w => isNaN_math x w hx
  cases hn : nanB (x : Int)
  · rw [hn] at H1
    have H2 := hidD fun w => isInf_both x _ w hx (inf_gt hn)
    generalize finB x = b at *
    clear hn hx
    cases b
    all_goals
      go_enter Tryz.func73, Tryz.ntmps73
      go_wp2_with fail
      refine (H1.out _).mono ?_
      rintro e w' ⟨rfl, rfl⟩
      go_wp2_with fail
      refine (H2.out _).mono ?_
      rintro e w' ⟨rfl, rfl⟩
      go_wp2_with fail
      go_ret
      exact ⟨rfl, rfl⟩
  · rw [hn] at H1
    rw [fin_nan hn]
    clear hn hx
    go_enter Tryz.func73, Tryz.ntmps73
    go_wp2_with fail
    refine (H1.out _).mono ?_
    rintro e w' ⟨rfl, rfl⟩
    go_wp2_with fail
    go_ret
    exact ⟨rfl, rfl⟩
end Go.Proofs.YtiiajhomdpfafaaGreatDoor
namespace Go.Proofs.YtiiajhomdpfafaaGreatDoor
open Go.RowKit

structure Trm where
  kind : Int
  a : Int
  b : Int
  x : Nat
  y : Nat
  day : Int
  to : Int
  cur : Int
  count : Int
  n : Int
  months : Int
def trC (t : Trm) : Array Value := #[.int .i64 t.kind, .int .i64 t.a, .int .i64 t.b, .float .f64 t.x, .float .f64 t.y, .int .i64 t.day, .int .i64 t.to, .int .i64 t.cur, .int .i64 t.count, .int .i64 t.n, .int .i64 t.months]
def TrB (w : World) (g : Nat) (t : Trm) : Prop := w.heap[g]? = some (.cells (trC t) 47)
theorem trm_cells {w : World} {g : Nat} {t : Trm} (h : TrB w g t) : w.cell? ⟨g, 0, none⟩ = some (.int .i64 t.kind) ∧ w.cell? ⟨g, 1, none⟩ = some (.int .i64 t.a) ∧ w.cell? ⟨g, 2, none⟩ = some (.int .i64 t.b) ∧ w.cell? ⟨g, 3, none⟩ = some (.float .f64 t.x) ∧ w.cell? ⟨g, 4, none⟩ = some (.float .f64 t.y) ∧ w.cell? ⟨g, 5, none⟩ = some (.int .i64 t.day) ∧ w.cell? ⟨g, 6, none⟩ = some (.int .i64 t.to) ∧ w.cell? ⟨g, 7, none⟩ = some (.int .i64 t.cur) ∧ w.cell? ⟨g, 8, none⟩ = some (.int .i64 t.count) ∧ w.cell? ⟨g, 9, none⟩ = some (.int .i64 t.n) ∧ w.cell? ⟨g, 10, none⟩ = some (.int .i64 t.months) := by
  unfold TrB trC at h
  refine ⟨?_, ?_, ?_, ?_, ?_, ?_, ?_, ?_, ?_, ?_, ?_⟩ <;>
  · simp only [World.cell?, h, Option.isSome_none, Bool.false_eq_true, if_false]; rfl
theorem TrB.frozen {w : World} {g : Nat} {t : Trm} (h : TrB w g t) (i : Nat) : w.frozen? ⟨g, i, none⟩ = false := by unfold TrB at h; simp [World.frozen?, h]
theorem TrB.below {w w' : World} {g : Nat} {t : Trm} (h : TrB w g t) (hb : Below w.heap.size w w') : TrB w' g t := (hb.block _ (lt_of_blk h)).trans h
theorem store_fltD (a : Addr) (x : Nat) (m : Mode) (w : World) : (store a (.float .f64 x) m).run Tryz.prog w = stored Tryz.prog w a (.float .f64 x) m := run_store Tryz.prog w a _ m rfl
theorem acc1_any (g : Nat) (w : World) : Calls Tryz.prog 33 #[.pointer (some ⟨g, 0, none⟩)] w fun e w' => e = .returned (.pointer (some ⟨g, 9, none⟩)) ∧ w' = w := by
  go_enter Tryz.func33, Tryz.ntmps33
  go_wp2_with fail
  go_ret
  exact ⟨rfl, rfl⟩
theorem acc2_any (g : Nat) (w : World) : Calls Tryz.prog 35 #[.pointer (some ⟨g, 0, none⟩)] w fun e w' => e = .returned (.pointer (some ⟨g, 3, none⟩)) ∧ w' = w := by
  go_enter Tryz.func35, Tryz.ntmps35
  go_wp2_with fail
  go_ret
  exact ⟨rfl, rfl⟩
theorem acc3_any (g : Nat) (w : World) : Calls Tryz.prog 36 #[.pointer (some ⟨g, 0, none⟩)] w fun e w' => e = .returned (.pointer (some ⟨g, 4, none⟩)) ∧ w' = w := by
  go_enter Tryz.func36, Tryz.ntmps36
  go_wp2_with fail
  go_ret
  exact ⟨rfl, rfl⟩
theorem acc4_any (g : Nat) (w : World) : Calls Tryz.prog 38 #[.pointer (some ⟨g, 0, none⟩)] w fun e w' => e = .returned (.pointer (some ⟨g, 8, none⟩)) ∧ w' = w := by
  go_enter Tryz.func38, Tryz.ntmps38
  go_wp2_with fail
  go_ret
  exact ⟨rfl, rfl⟩
theorem acc5_any (g : Nat) (w : World) : Calls Tryz.prog 40 #[.pointer (some ⟨g, 0, none⟩)] w fun e w' => e = .returned (.pointer (some ⟨g, 5, none⟩)) ∧ w' = w := by
  go_enter Tryz.func40, Tryz.ntmps40
  go_wp2_with fail
  go_ret
  exact ⟨rfl, rfl⟩
theorem acc6_any (g : Nat) (w : World) : Calls Tryz.prog 41 #[.pointer (some ⟨g, 0, none⟩)] w fun e w' => e = .returned (.pointer (some ⟨g, 6, none⟩)) ∧ w' = w := by
  go_enter Tryz.func41, Tryz.ntmps41
  go_wp2_with fail
  go_ret
  exact ⟨rfl, rfl⟩
theorem acc7_any (g : Nat) (w : World) : Calls Tryz.prog 43 #[.pointer (some ⟨g, 0, none⟩)] w fun e w' => e = .returned (.pointer (some ⟨g, 7, none⟩)) ∧ w' = w := by
  go_enter Tryz.func43, Tryz.ntmps43
  go_wp2_with fail
  go_ret
  exact ⟨rfl, rfl⟩
theorem acc8_any (g : Nat) (w : World) : Calls Tryz.prog 44 #[.pointer (some ⟨g, 0, none⟩)] w fun e w' => e = .returned (.pointer (some ⟨g, 10, none⟩)) ∧ w' = w := by
  go_enter Tryz.func44, Tryz.ntmps44
  go_wp2_with fail
  go_ret
  exact ⟨rfl, rfl⟩
structure AcF (f i : Nat) : Prop where
  en : ∀ xs w, (callFunc f xs).run Tryz.prog w = .ok (.enter f xs) w
  at_ : ∀ (g : Nat) (w : World), Calls Tryz.prog f #[.pointer (some ⟨g, 0, none⟩)] w fun e w' => e = .returned (.pointer (some ⟨g, i, none⟩)) ∧ w' = w
theorem acF1 : AcF 33 9 := ⟨fun xs w => enterD Tryz.func33 (by kernel_rfl) rfl xs w, acc1_any⟩
theorem acF2 : AcF 35 3 := ⟨fun xs w => enterD Tryz.func35 (by kernel_rfl) rfl xs w, acc2_any⟩
theorem acF3 : AcF 36 4 := ⟨fun xs w => enterD Tryz.func36 (by kernel_rfl) rfl xs w, acc3_any⟩
theorem acF4 : AcF 38 8 := ⟨fun xs w => enterD Tryz.func38 (by kernel_rfl) rfl xs w, acc4_any⟩
theorem acF5 : AcF 40 5 := ⟨fun xs w => enterD Tryz.func40 (by kernel_rfl) rfl xs w, acc5_any⟩
theorem acF6 : AcF 41 6 := ⟨fun xs w => enterD Tryz.func41 (by kernel_rfl) rfl xs w, acc6_any⟩
theorem acF7 : AcF 43 7 := ⟨fun xs w => enterD Tryz.func43 (by kernel_rfl) rfl xs w, acc7_any⟩
theorem acF8 : AcF 44 10 := ⟨fun xs w => enterD Tryz.func44 (by kernel_rfl) rfl xs w, acc8_any⟩
set_option maxRecDepth 20000 in
set_option maxHeartbeats 1600000 in
theorem fitNumX (f b : Nat) (ha : AcF f 3) (t : Trm) (w : World) (hb : w.heap[b]? = some (.cells #[fnB f] 101)) (hx : U64 t.x) :
    Calls Tryz.prog 72 #[.agg (trC t), .pointer (some ⟨b, 0, none⟩)] w fun e w' => e = .returned (.bool (finB t.x)) ∧ Below w.heap.size w w' := by
  have c0 := cell1_of hb
  have hlt := lt_of_blk hb
  have hne := Nat.ne_of_lt hlt
  have HA := hidD ha.at_
  have he := ha.en
  have HN := hidD (fun w => dNum_any t.x w hx)
  unfold fnB at c0
  clear hb ha hx
  unfold trC
  go_enter Tryz.func72, Tryz.ntmps72
  go_wp2_with fail
  refine (HA.out _ _).mono ?_
  rintro e w1 ⟨rfl, rfl⟩
  go_wp2_with fail
  refine (HN.out _).mono ?_
  rintro e w1 ⟨rfl, rfl⟩
  go_wp2_with fail
  go_ret
  exact ⟨rfl, al_bel _ _⟩
set_option maxRecDepth 20000 in
set_option maxHeartbeats 1600000 in
theorem clrNumX (f b g : Nat) (ha : AcF f 3) (t : Trm) (w : World) (hb : w.heap[b]? = some (.cells #[fnB f] 101)) (ht : TrB w g t) :
    Calls Tryz.prog 76 #[.pointer (some ⟨g, 0, none⟩), .pointer (some ⟨b, 0, none⟩)] w fun e w' => e = .returned (.tuple #[]) ∧ w' = w.setCell ⟨g, 3, none⟩ (.float .f64 0) := by
  have c0 := cell1_of hb
  have HA := hidD ha.at_
  have he := ha.en
  have hc := (trm_cells ht).2.2.2.1
  have hz := ht.frozen 3
  have hst := store_fltD
  unfold fnB at c0
  clear hb ha ht
  go_enter Tryz.func76, Tryz.ntmps76
  go_wp2_with fail
  refine (HA.out _ _).mono ?_
  rintro e w1 ⟨rfl, rfl⟩
  go_wp2_with fail
  exact bodyPost_end (v := .tuple #[]) (by simp [results, Tryz.results76, go_sem]) rfl ⟨rfl, rfl⟩
set_option maxRecDepth 20000 in
set_option maxHeartbeats 1600000 in
theorem fitNumY (f b : Nat) (ha : AcF f 4) (t : Trm) (w : World) (hb : w.heap[b]? = some (.cells #[fnB f] 101)) (hx : U64 t.y) :
    Calls Tryz.prog 72 #[.agg (trC t), .pointer (some ⟨b, 0, none⟩)] w fun e w' => e = .returned (.bool (finB t.y)) ∧ Below w.heap.size w w' := by
  have c0 := cell1_of hb
  have hlt := lt_of_blk hb
  have hne := Nat.ne_of_lt hlt
  have HA := hidD ha.at_
  have he := ha.en
  have HN := hidD (fun w => dNum_any t.y w hx)
  unfold fnB at c0
  clear hb ha hx
  unfold trC
  go_enter Tryz.func72, Tryz.ntmps72
  go_wp2_with fail
  refine (HA.out _ _).mono ?_
  rintro e w1 ⟨rfl, rfl⟩
  go_wp2_with fail
  refine (HN.out _).mono ?_
  rintro e w1 ⟨rfl, rfl⟩
  go_wp2_with fail
  go_ret
  exact ⟨rfl, al_bel _ _⟩
set_option maxRecDepth 20000 in
set_option maxHeartbeats 1600000 in
theorem clrNumY (f b g : Nat) (ha : AcF f 4) (t : Trm) (w : World) (hb : w.heap[b]? = some (.cells #[fnB f] 101)) (ht : TrB w g t) :
    Calls Tryz.prog 76 #[.pointer (some ⟨g, 0, none⟩), .pointer (some ⟨b, 0, none⟩)] w fun e w' => e = .returned (.tuple #[]) ∧ w' = w.setCell ⟨g, 4, none⟩ (.float .f64 0) := by
  have c0 := cell1_of hb
  have HA := hidD ha.at_
  have he := ha.en
  have hc := (trm_cells ht).2.2.2.2.1
  have hz := ht.frozen 4
  have hst := store_fltD
  unfold fnB at c0
  clear hb ha ht
  go_enter Tryz.func76, Tryz.ntmps76
  go_wp2_with fail
  refine (HA.out _ _).mono ?_
  rintro e w1 ⟨rfl, rfl⟩
  go_wp2_with fail
  exact bodyPost_end (v := .tuple #[]) (by simp [results, Tryz.results76, go_sem]) rfl ⟨rfl, rfl⟩
theorem box_cell (w : World) (xs : Array Value) (T : TypeId) (i : Nat) : (w.alloc (.cells xs T)).cell? ⟨w.heap.size, i, none⟩ = xs[i]? := by
  have h := heap_alloc_new w (.cells xs T)
  simp only [World.cell?, h, Option.isSome_none, Bool.false_eq_true, if_false]
theorem WhoB.cells {b f : Nat} {lo hi : Int} {rd wr : Nat} {w : World} (h : WhoB b f lo hi rd wr w) : w.cell? ⟨b, 0, none⟩ = some (fnB f) ∧ w.cell? ⟨b + 1, 0, none⟩ = some (.int .i64 lo) ∧ w.cell? ⟨b + 2, 0, none⟩ = some (.int .i64 hi) ∧ w.cell? ⟨b + 3, 0, none⟩ = some (fnB rd) ∧ w.cell? ⟨b + 4, 0, none⟩ = some (fnB wr) := ⟨cell1_of h.at_, cell1_of h.lo, cell1_of h.hi, cell1_of h.rd, cell1_of h.wr⟩
set_option maxRecDepth 20000 in
set_option maxHeartbeats 1600000 in
theorem fitWho (f b i : Nat) (lo hi v : Int) (rd wr : Nat) (ha : AcF f i) (t : Trm) (w : World) (hb : WhoB b f lo hi rd wr w) (hv : (trC t)[i]? = some (.int .i64 v)) :
    Calls Tryz.prog 114 #[.agg (trC t), .pointer (some ⟨b + 1, 0, none⟩), .pointer (some ⟨b, 0, none⟩), .pointer (some ⟨b + 2, 0, none⟩)] w fun e w' => e = .returned (.bool (decide (lo ≤ v) && decide (v ≤ hi))) ∧ Below w.heap.size w w' := by
  obtain ⟨c0, c1, c2, _, _⟩ := (hb.below (al_bel w (.cells (trC t) 47))).cells
  have cv : (w.alloc (.cells (trC t) 47)).cell? ⟨w.heap.size, i, none⟩ = some (.int .i64 v) := (box_cell w _ _ i).trans hv
  have HA := hidD ha.at_
  have he := ha.en
  have HW := hidD (al_bel w (.cells (trC t) 47))
  unfold fnB at c0
  clear hb ha hv
  obtain ⟨w1, hw1⟩ : ∃ w1, w.alloc (.cells (trC t) 47) = w1 := ⟨_, rfl⟩
  rw [hw1] at c0 c1 c2 cv HW
  have HW1 := hidD hw1
  clear hw1
  by_cases h1 : lo ≤ v <;> by_cases h2 : v ≤ hi
  all_goals
    first | (have t1 : decide (lo ≤ v) = true := decide_eq_true h1) | (have t1 : decide (lo ≤ v) = false := decide_eq_false h1)
    first | (have t2 : decide (v ≤ hi) = true := decide_eq_true h2) | (have t2 : decide (v ≤ hi) = false := decide_eq_false h2)
    clear h1 h2
    rw [t1, t2]
    go_enter Tryz.func114, Tryz.ntmps114
    go_wp2_with fail
    rw [HW1.out]
    clear HW1
    go_quiet ((exact Calls.quiet_of_same (HA.out _ _)))
    go_wp2_with fail
    go_ret
    exact ⟨rfl, ⟨HW.out.os, HW.out.tape, HW.out.output, HW.out.size, HW.out.block⟩⟩
end Go.Proofs.YtiiajhomdpfafaaGreatDoor
namespace Go.Proofs.YtiiajhomdpfafaaGreatDoor
open Go.RowKit

set_option maxRecDepth 20000 in
set_option maxHeartbeats 1600000 in
theorem clrWho (f b i g : Nat) (v : Int) (ha : AcF f i) (t : Trm) (w : World) (hb : w.heap[b]? = some (.cells #[fnB f] 93)) (ht : TrB w g t) (hv : (trC t)[i]? = some (.int .i64 v)) :
    Calls Tryz.prog 116 #[.pointer (some ⟨g, 0, none⟩), .pointer (some ⟨b, 0, none⟩)] w fun e w' => e = .returned (.tuple #[]) ∧ w' = w.setCell ⟨g, i, none⟩ (.int .i64 0) := by
  have c0 := cell1_of hb
  have HA := hidD ha.at_
  have he := ha.en
  have hc : w.cell? ⟨g, i, none⟩ = some (.int .i64 v) := by
    unfold TrB at ht
    simp only [World.cell?, ht, Option.isSome_none, Bool.false_eq_true, if_false]
    exact hv
  have hz := ht.frozen i
  unfold fnB at c0
  clear hb ha ht hv
  go_enter Tryz.func116, Tryz.ntmps116
  go_wp2_with fail
  refine (HA.out _ _).mono ?_
  rintro e w1 ⟨rfl, rfl⟩
  go_wp2_with fail
  exact bodyPost_end (v := .tuple #[]) (by simp [results, Tryz.results116, go_sem]) rfl ⟨rfl, rfl⟩
theorem enter_who2 (xs : Array Value) (w : World) : (callFunc 114 xs).run Tryz.prog w = .ok (.enter 114 xs) w := enterD Tryz.func114 (by kernel_rfl) rfl xs w
set_option maxRecDepth 20000 in
set_option maxHeartbeats 1600000 in
theorem fitBeh (f b d : Nat) (lo hi : Int) (rd wr : Nat) (ha : AcF f 6) (t : Trm) (w : World) (hb : WhoB b f lo hi rd wr w) (hd : w.heap[d]? = some (.cells #[fit2V b] 85)) :
    Calls Tryz.prog 86 #[.agg (trC t), .pointer (some ⟨d, 0, none⟩)] w fun e w' => e = .returned (.bool (decide (lo ≤ t.to) && decide (t.to ≤ hi) && decide (t.day < t.to))) ∧ Below w.heap.size w w' := by
  have hbl := al_bel w (.cells (trC t) 47)
  have c0 := cell1_of ((hbl.block _ (lt_of_blk hd)).trans hd)
  generalize hA : (decide (lo ≤ t.to) && decide (t.to ≤ hi)) = A
  have HF : Hid (Calls Tryz.prog 114 #[.agg #[.int .i64 t.kind, .int .i64 t.a, .int .i64 t.b, .float .f64 t.x, .float .f64 t.y, .int .i64 t.day, .int .i64 t.to, .int .i64 t.cur, .int .i64 t.count, .int .i64 t.n, .int .i64 t.months], .pointer (some ⟨b + 1, 0, none⟩), .pointer (some ⟨b, 0, none⟩), .pointer (some ⟨b + 2, 0, none⟩)] (w.alloc (.cells (trC t) 47)) fun e w' => e = .returned (.bool A) ∧ Below (w.alloc (.cells (trC t) 47)).heap.size (w.alloc (.cells (trC t) 47)) w') := by
    rw [← hA]
    exact fitWho f b 6 lo hi t.to rd wr ha t _ (hb.below hbl) rfl
  have he := enter_who2
  obtain ⟨d0, d1, d2, d3, d4, d5, d6, d7, d8, d9, d10⟩ := trm_cells (heap_alloc_new w (.cells (trC t) 47) : TrB _ w.heap.size t)
  have HW := hidD hbl
  have HT : Hid (TrB (w.alloc (.cells (trC t) 47)) w.heap.size t) := heap_alloc_new w (.cells (trC t) 47)
  unfold fit2V ptB at c0
  clear hb hd ha hbl hA
  cases A
  all_goals
    go_enter Tryz.func86, Tryz.ntmps86
    go_wp2_with fail
    refine HF.out.mono ?_
    rintro e w2 ⟨rfl, hb⟩
    have HB2 := hidD (HW.out.trans (hb.mono HW.out.size))
    obtain ⟨e0, e1, e2, e3, e4, e5, e6, _⟩ := trm_cells (HT.out.below hb)
    clear hb d0 d1 d2 d3 d4 d5 d6 d7 d8 d9 d10
    go_wp2_with fail
    go_ret
    exact ⟨rfl, HB2.out⟩
def fdI : Fd → Nat → Prop
  | .num f, i => AcF f i ∧ (i = 3 ∨ i = 4)
  | .who f _ _ _ _, i => AcF f i ∧ 5 ≤ i ∧ i ≤ 10
  | .beh f _ _ _ _, i => AcF f i ∧ i = 6
def tAt (t : Trm) (i : Nat) : Int := if i = 5 then t.day else if i = 6 then t.to else if i = 7 then t.cur else if i = 8 then t.count else if i = 9 then t.n else t.months
theorem trC_at (t : Trm) {i : Nat} (h5 : 5 ≤ i) (h : i ≤ 10) : (trC t)[i]? = some (.int .i64 (tAt t i)) := by
  rcases (show i = 5 ∨ i = 6 ∨ i = 7 ∨ i = 8 ∨ i = 9 ∨ i = 10 by omega) with rfl | rfl | rfl | rfl | rfl | rfl <;> rfl
structure TrU (t : Trm) : Prop where
  x : U64 t.x
  y : U64 t.y
def xAt (t : Trm) (i : Nat) : Nat := if i = 3 then t.x else t.y
def fdFit (d : Fd) (i : Nat) (t : Trm) : Bool :=
  match d with
  | .num _ => finB (xAt t i)
  | .who _ lo hi _ _ => decide (lo ≤ tAt t i) && decide (tAt t i ≤ hi)
  | .beh _ lo hi _ _ => decide (lo ≤ t.to) && decide (t.to ≤ hi) && decide (t.day < t.to)
set_option maxRecDepth 20000 in
theorem fd_fit {d : Fd} {i : Nat} {c0 c1 c2 c3 : Value} {w : World} (h : FdAt d (.agg #[c0, c1, c2, c3]) w) (hi : fdI d i) (t : Trm) (hu : TrU t) :
    ∃ F cap, c1 = .func (.func F) #[] cap ∧ (∀ xs w, (callFunc F xs).run Tryz.prog w = .ok (.enter F xs) w) ∧ ∀ wx, Below w.heap.size w wx → Calls Tryz.prog F (#[.agg (trC t)] ++ cap) wx fun e w' => e = .returned (.bool (fdFit d i t)) ∧ Below wx.heap.size wx w' := by
  cases d with
  | num f =>
    obtain ⟨b, e, hb⟩ := h
    obtain ⟨ha, hi⟩ := hi
    injection e with e
    obtain ⟨_, rfl, _, _⟩ : c0 = _ ∧ c1 = _ ∧ c2 = _ ∧ c3 = _ := by simpa [numV] using e
    refine ⟨_, _, rfl, fun xs w => enterD Tryz.func72 (by kernel_rfl) rfl xs w, fun wx hx => ?_⟩
    rcases hi with rfl | rfl
    · rw [show fdFit (.num f) 3 t = finB (xAt t 3) from rfl, show xAt t 3 = t.x from rfl]
      exact fitNumX f b ha t wx ((hx.block _ (lt_of_blk hb)).trans hb) hu.x
    · rw [show fdFit (.num f) 4 t = finB (xAt t 4) from rfl, show xAt t 4 = t.y from rfl]
      exact fitNumY f b ha t wx ((hx.block _ (lt_of_blk hb)).trans hb) hu.y
  | who f lo hi' rd wr =>
    obtain ⟨b, e, hb⟩ := h
    obtain ⟨ha, h5, h10⟩ := hi
    injection e with e
    obtain ⟨_, rfl, _, _⟩ : c0 = _ ∧ c1 = _ ∧ c2 = _ ∧ c3 = _ := by simpa [whoV] using e
    exact ⟨_, _, rfl, enter_who2, fun wx hx => fitWho f b i lo hi' (tAt t i) rd wr ha t wx (hb.below hx) (trC_at t h5 h10)⟩
  | beh f lo hi' rd wr =>
    obtain ⟨b, d, e, hb, hd⟩ := h
    obtain ⟨ha, rfl⟩ := hi
    injection e with e
    obtain ⟨_, rfl, _, _⟩ : c0 = _ ∧ c1 = _ ∧ c2 = _ ∧ c3 = _ := by simpa [behV] using e
    exact ⟨_, _, rfl, fun xs w => enterD Tryz.func86 (by kernel_rfl) rfl xs w, fun wx hx => fitBeh f b d lo hi' rd wr ha t wx (hb.below hx) ((hx.block _ (lt_of_blk hd)).trans hd)⟩
def clrV (i : Nat) : Value := if i = 3 ∨ i = 4 then .float .f64 0 else .int .i64 0
set_option maxRecDepth 20000 in
theorem fd_clear {d : Fd} {i : Nat} {c0 c1 c2 c3 : Value} {w : World} (h : FdAt d (.agg #[c0, c1, c2, c3]) w) (hi : fdI d i) :
    ∃ F cap, c3 = .func (.func F) #[] cap ∧ (∀ xs w, (callFunc F xs).run Tryz.prog w = .ok (.enter F xs) w) ∧ ∀ (t : Trm) (g : Nat) (wx : World), Below w.heap.size w wx → TrB wx g t → Calls Tryz.prog F (#[.pointer (some ⟨g, 0, none⟩)] ++ cap) wx fun e w' => e = .returned (.tuple #[]) ∧ w' = wx.setCell ⟨g, i, none⟩ (clrV i) := by
  cases d with
  | num f =>
    obtain ⟨b, e, hb⟩ := h
    obtain ⟨ha, hi⟩ := hi
    injection e with e
    obtain ⟨_, _, _, rfl⟩ : c0 = _ ∧ c1 = _ ∧ c2 = _ ∧ c3 = _ := by simpa [numV] using e
    refine ⟨_, _, rfl, fun xs w => enterD Tryz.func76 (by kernel_rfl) rfl xs w, fun t g wx hx ht => ?_⟩
    rcases hi with rfl | rfl
    · exact clrNumX f b g ha t wx ((hx.block _ (lt_of_blk hb)).trans hb) ht
    · exact clrNumY f b g ha t wx ((hx.block _ (lt_of_blk hb)).trans hb) ht
  | who f lo hi' rd wr =>
    obtain ⟨b, e, hb⟩ := h
    obtain ⟨ha, h5, h10⟩ := hi
    injection e with e
    obtain ⟨_, _, _, rfl⟩ : c0 = _ ∧ c1 = _ ∧ c2 = _ ∧ c3 = _ := by simpa [whoV] using e
    refine ⟨_, _, rfl, fun xs w => enterD Tryz.func116 (by kernel_rfl) rfl xs w, fun t g wx hx ht => ?_⟩
    have e : clrV i = .int .i64 0 := if_neg (by omega)
    rw [e]
    exact clrWho f b i g (tAt t i) ha t wx (hb.below hx).at_ ht (trC_at t h5 h10)
  | beh f lo hi' rd wr =>
    obtain ⟨b, d, e, hb, hd⟩ := h
    obtain ⟨ha, rfl⟩ := hi
    injection e with e
    obtain ⟨_, _, _, rfl⟩ : c0 = _ ∧ c1 = _ ∧ c2 = _ ∧ c3 = _ := by simpa [behV] using e
    exact ⟨_, _, rfl, fun xs w => enterD Tryz.func116 (by kernel_rfl) rfl xs w, fun t g wx hx ht => clrWho f b 6 g t.to ha t wx (hb.below hx).at_ ht rfl⟩
end Go.Proofs.YtiiajhomdpfafaaGreatDoor
namespace Go.Proofs.YtiiajhomdpfafaaGreatDoor
open Go.RowKit

theorem flat4 : ∀ (vs : List Value) (j q : Nat), (∀ i < vs.length, ∃ a b c d, vs.getD i undef = .agg #[a, b, c, d]) → j < vs.length → q < 4 → (vs.flatMap (fun v => v.cells.toList))[j * 4 + q]? = (vs.getD j undef).cells[q]?
  | [], j, q, _, h, _ => by simp at h
  | v :: vs, 0, q, hv, _, hq => by
    obtain ⟨a, b, c, d, e⟩ := hv 0 (by simp)
    have e' : v = .agg #[a, b, c, d] := e
    subst e'
    rw [List.flatMap_cons, Nat.zero_mul, Nat.zero_add, List.getElem?_append_left (by show q < 4; exact hq), Array.getElem?_toList]
    rfl
  | v :: vs, j + 1, q, hv, h, hq => by
    obtain ⟨a, b, c, d, e⟩ := hv 0 (by simp)
    have e' : v = .agg #[a, b, c, d] := e
    subst e'
    rw [List.flatMap_cons, List.getElem?_append_right (by show 4 ≤ _; omega)]
    rw [show (j + 1) * 4 + q - (Value.agg #[a, b, c, d]).cells.toList.length = j * 4 + q by show _ - 4 = _; omega]
    exact flat4 vs j q (fun i hi => hv (i + 1) (by simpa using hi)) (by simpa using h) hq
structure FCell (w : World) (h o : Nat) (d : Fd) (x0 x1 x2 x3 : Value) : Prop where
  c0 : w.cell? ⟨h, o, none⟩ = some x0
  c1 : w.cell? ⟨h, o + 1, none⟩ = some x1
  c2 : w.cell? ⟨h, o + 2, none⟩ = some x2
  c3 : w.cell? ⟨h, o + 3, none⟩ = some x3
  fd : FdAt d (.agg #[x0, x1, x2, x3]) w
theorem FCell.below {w w' : World} {h o : Nat} {d : Fd} {x0 x1 x2 x3 : Value} (c : FCell w h o d x0 x1 x2 x3) (hl : h < w.heap.size) (hb : Below w.heap.size w w') : FCell w' h o d x0 x1 x2 x3 := by
  have k : ∀ j, w'.cell? ⟨h, j, none⟩ = w.cell? ⟨h, j, none⟩ := fun j => World.cell?_of_block (w := w) (a := ⟨h, j, none⟩) (hb.block h hl)
  exact ⟨(k _).trans c.c0, (k _).trans c.c1, (k _).trans c.c2, (k _).trans c.c3, c.fd.below hb⟩
theorem flds_cell {ds : List Fd} {u : Value} {w : World} (hs : SlcAt ds u w) : ∃ p n g, u = .slice p n n ∧ n = ds.length ∧ (0 < n → p = some ⟨g, 0, none⟩ ∧ g < w.heap.size) ∧ ∀ j (hj : j < ds.length), ∃ c0 c1 c2 c3, FCell w g (j * 4) ds[j] c0 c1 c2 c3 := by
  rcases hs with ⟨rfl, rfl⟩ | ⟨_, g, vs, rfl, hh, hl, ha⟩
  · exact ⟨none, 0, 0, rfl, rfl, fun h => by omega, fun j hj => by simp at hj⟩
  · refine ⟨_, _, g, rfl, rfl, fun _ => ⟨rfl, lt_of_blk hh⟩, fun j hj => ?_⟩
    obtain ⟨c0, c1, c2, c3, e⟩ := (ha j hj).agg
    have hv : ∀ i < vs.length, ∃ a b c d, vs.getD i undef = .agg #[a, b, c, d] := fun i hi => (ha i (by omega)).agg
    have key : ∀ q < 4, w.cell? ⟨g, j * 4 + q, none⟩ = (vs.getD j undef).cells[q]? := fun q hq => by
      simp only [World.cell?, hh, Option.isSome_none, Bool.false_eq_true, if_false]
      rw [List.getElem?_toArray]
      exact flat4 vs j q hv (by omega) hq
    rw [e] at key
    refine ⟨c0, c1, c2, c3, key 0 (by omega), key 1 (by omega), key 2 (by omega), key 3 (by omega), ?_⟩
    have := ha j hj
    rw [e] at this
    exact this
def clrT (t : Trm) (i : Nat) : Trm := if i = 3 then { t with x := 0 } else if i = 4 then { t with y := 0 } else if i = 5 then { t with day := 0 } else if i = 6 then { t with to := 0 } else if i = 7 then { t with cur := 0 } else if i = 8 then { t with count := 0 } else if i = 9 then { t with n := 0 } else { t with months := 0 }
theorem TrB.clr {w : World} {g : Nat} {t : Trm} (h : TrB w g t) {i : Nat} (h3 : 3 ≤ i) (hi : i ≤ 10) : TrB (w.setCell ⟨g, i, none⟩ (clrV i)) g (clrT t i) := by
  unfold TrB trC at h ⊢
  rcases (show i = 3 ∨ i = 4 ∨ i = 5 ∨ i = 6 ∨ i = 7 ∨ i = 8 ∨ i = 9 ∨ i = 10 by omega) with rfl | rfl | rfl | rfl | rfl | rfl | rfl | rfl <;> exact (heap_setCell_same w g _ _ _ _ h).trans rfl
def clrL (t : Trm) : List Nat → Trm
  | [] => t
  | i :: l => clrL (clrT t i) l
theorem clrL_snoc (t : Trm) : ∀ (l : List Nat) (i : Nat), clrL t (l ++ [i]) = clrT (clrL t l) i
  | [], _ => rfl
  | j :: l, i => by show clrL (clrT t j) (l ++ [i]) = _; exact clrL_snoc (clrT t j) l i
def restT (k : Kd) (l : List Nat) (t : Trm) : Trm := { clrL t l with a := if 0 < k.parts then 0 else (clrL t l).a, b := if 1 < k.parts then 0 else (clrL t l).b }
theorem fd_shape {d : Fd} {x0 x1 x2 x3 : Value} {w : World} (h : FdAt d (.agg #[x0, x1, x2, x3]) w) : ∃ F0 C0 F2 C2, x0 = .func (.func F0) #[] C0 ∧ x2 = .func (.func F2) #[] C2 := by
  cases d with
  | num f =>
    obtain ⟨b, e, _⟩ := h
    injection e with e
    obtain ⟨rfl, _, rfl, _⟩ : x0 = _ ∧ x1 = _ ∧ x2 = _ ∧ x3 = _ := by simpa [numV] using e
    exact ⟨_, _, _, _, rfl, rfl⟩
  | who f lo hi' rd wr =>
    obtain ⟨b, e, _⟩ := h
    injection e with e
    obtain ⟨rfl, _, rfl, _⟩ : x0 = _ ∧ x1 = _ ∧ x2 = _ ∧ x3 = _ := by simpa [whoV] using e
    exact ⟨_, _, _, _, rfl, rfl⟩
  | beh f lo hi' rd wr =>
    obtain ⟨b, d, e, _⟩ := h
    injection e with e
    obtain ⟨rfl, _, rfl, _⟩ : x0 = _ ∧ x1 = _ ∧ x2 = _ ∧ x3 = _ := by simpa [behV] using e
    exact ⟨_, _, _, _, rfl, rfl⟩
structure FtB (w : World) (k : Kd) (u : Value) (t r : Trm) (wr : World) : Prop where
  kb : wr.heap[w.heap.size]? = some (.cells #[.int .i64 k.num, .string k.word, u, .int .i64 k.parts, fnB k.mean] 65)
  tb : TrB wr (w.heap.size + 1) t
  rb : TrB wr (w.heap.size + 1 + 1) r
  bl : Below w.heap.size w wr
theorem FtB.step {w : World} {k : Kd} {u : Value} {t r : Trm} {wr w' : World} (h : FtB w k u t r wr) (hb : Below wr.heap.size wr w') : FtB w k u t r w' := ⟨(hb.block _ (lt_of_blk h.kb)).trans h.kb, h.tb.below hb, h.rb.below hb, h.bl.trans (hb.mono h.bl.size)⟩
theorem FtB.clr {w : World} {k : Kd} {u : Value} {t r : Trm} {wr : World} (h : FtB w k u t r wr) {i : Nat} (h3 : 3 ≤ i) (hi : i ≤ 10) : FtB w k u t (clrT r i) (wr.setCell ⟨w.heap.size + 1 + 1, i, none⟩ (clrV i)) :=
  ⟨(blkF_far _ _ _ _ (by show w.heap.size ≠ w.heap.size + 1 + 1; omega)).trans h.kb, (blkF_far _ _ _ _ (by show w.heap.size + 1 ≠ w.heap.size + 1 + 1; omega)).trans h.tb, h.rb.clr h3 hi, h.bl.setCell (p := ⟨w.heap.size + 1 + 1, i, none⟩) (by show w.heap.size ≤ w.heap.size + 1 + 1; omega) _⟩
theorem FtB.seta {w : World} {k : Kd} {u : Value} {t r : Trm} {wr : World} (h : FtB w k u t r wr) : FtB w k u t { r with a := 0 } (wr.setCell ⟨w.heap.size + 1 + 1, 1, none⟩ (.int .i64 0)) :=
  ⟨(blkF_far _ _ _ _ (by show w.heap.size ≠ w.heap.size + 1 + 1; omega)).trans h.kb, (blkF_far _ _ _ _ (by show w.heap.size + 1 ≠ w.heap.size + 1 + 1; omega)).trans h.tb, (heap_setCell_same _ _ 1 _ _ _ h.rb).trans rfl, h.bl.setCell (p := ⟨w.heap.size + 1 + 1, 1, none⟩) (by show w.heap.size ≤ w.heap.size + 1 + 1; omega) _⟩
theorem FtB.setb {w : World} {k : Kd} {u : Value} {t r : Trm} {wr : World} (h : FtB w k u t r wr) : FtB w k u t { r with b := 0 } (wr.setCell ⟨w.heap.size + 1 + 1, 2, none⟩ (.int .i64 0)) :=
  ⟨(blkF_far _ _ _ _ (by show w.heap.size ≠ w.heap.size + 1 + 1; omega)).trans h.kb, (blkF_far _ _ _ _ (by show w.heap.size + 1 ≠ w.heap.size + 1 + 1; omega)).trans h.tb, (heap_setCell_same _ _ 2 _ _ _ h.rb).trans rfl, h.bl.setCell (p := ⟨w.heap.size + 1 + 1, 2, none⟩) (by show w.heap.size ≤ w.heap.size + 1 + 1; omega) _⟩
theorem ftB_at (w : World) (k : Kd) (u : Value) (t : Trm) : FtB w k u t t (((w.alloc (.cells #[.int .i64 k.num, .string k.word, u, .int .i64 k.parts, fnB k.mean] 65)).alloc (.cells (trC t) 47)).alloc (.cells (trC t) 47)) := by
  refine ⟨?_, ?_, ?_, (((Below.refl _ _).alloc (Nat.le_refl _) _).alloc (by simp) _).alloc (by simp; omega) _⟩
  · simp only [al_at, sz_al]; repeat rw [if_neg (by omega)]
    exact if_pos trivial
  · unfold TrB; simp only [al_at, sz_al]; repeat rw [if_neg (by omega)]
    exact if_pos trivial
  · unfold TrB; simp only [al_at, sz_al]; exact if_pos trivial
end Go.Proofs.YtiiajhomdpfafaaGreatDoor
namespace Go.Proofs.YtiiajhomdpfafaaGreatDoor
open Go.RowKit

def ckO (i : Nat) : Int := (i : Int) + 2
def ckT (i : Nat) : Int := if i < 3 then (i : Int) + 2 else (i : Int) + 3
def ckB (i : Nat) : Bool := decide (2 ≤ i)
structure CTab (h : Nat) (w : World) : Prop where
  c0 : ∀ i < 6, w.cell? ⟨h, i * 3, none⟩ = some (.int .i64 (ckO i))
  c1 : ∀ i < 6, w.cell? ⟨h, i * 3 + 1, none⟩ = some (.int .i64 (ckT i))
  c2 : ∀ i < 6, w.cell? ⟨h, i * 3 + 2, none⟩ = some (.bool (ckB i))
  lt : h < w.heap.size
theorem CTab.below {h : Nat} {w w' : World} (t : CTab h w) (hb : Below w.heap.size w w') : CTab h w' := by
  have k : ∀ j, w'.cell? ⟨h, j, none⟩ = w.cell? ⟨h, j, none⟩ := fun j => World.cell?_of_block (w := w) (a := ⟨h, j, none⟩) (hb.block h t.lt)
  exact ⟨fun i hi => (k _).trans (t.c0 i hi), fun i hi => (k _).trans (t.c1 i hi), fun i hi => (k _).trans (t.c2 i hi), Nat.lt_of_lt_of_le t.lt hb.size⟩
end Go.Proofs.YtiiajhomdpfafaaGreatDoor
namespace Go.Proofs.YtiiajhomdpfafaaGreatDoor
open Go.RowKit

structure Opr where
  kind : Int
  x : Nat
  y : Nat
  day : Int
  to : Int
  cur : Int
  count : Int
  n : Int
  months : Int
end Go.Proofs.YtiiajhomdpfafaaGreatDoor
namespace Go.Proofs.YtiiajhomdpfafaaGreatDoor
open Go.RowKit

theorem eqFlt' (d : Nat) (a b : Nat) (w : World) : (Op.equalIn (d + 1) 43 (.float .f64 a) (.float .f64 b)).run Tryz.prog w = .ok (FloatKind.f64.format.order a b == some .eq) w := by
  simp [Op.equalIn, run_underlying Tryz.underlying43]
  rfl
theorem eqFlt (a b : Nat) (w : World) : (Op.equalIn 9999 43 (.float .f64 a) (.float .f64 b)).run Tryz.prog w = .ok (FloatKind.f64.format.order a b == some .eq) w := eqFlt' 9998 a b w
theorem eqf_cons {d : Nat} {xs ys : Array Value} {f : Field} {rest : List Field} {a b : Value} {r s : Bool} {w : World} (hn : (f.name != "_") = true) (hx : (part f.type xs f.offset).run Tryz.prog w = .ok a w) (hy : (part f.type ys f.offset).run Tryz.prog w = .ok b w) (he : (Op.equalIn d f.type a b).run Tryz.prog w = .ok r w) (hr : (Op.eqFields d xs ys rest).run Tryz.prog w = .ok s w) : (Op.eqFields d xs ys (f :: rest)).run Tryz.prog w = .ok (r && s) w := by
  have hn' : f.name ≠ "_" := by simpa using hn
  cases r <;> simp [Op.eqFields, Sem.run_bind, hx, hy, he, hn', hr]
theorem eqf_nil {d : Nat} {xs ys : Array Value} {w : World} : (Op.eqFields d xs ys []).run Tryz.prog w = .ok true w := by simp [Op.eqFields]
end Go.Proofs.YtiiajhomdpfafaaGreatDoor
