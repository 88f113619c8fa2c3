/- Package deal: the term 'pay 1 1 2030-01-01' is read. Package deal: a term that gives what stands behind it is read. Package deal: Check of the trees of awake18. Package code: Back of no code. Package code: the op of a term. The document's side of an op: small functions. The document's side of an op: the term that has its fields. The document's ops and terms are compared. The document's side: whether a term's fields may be. The document's side: whether a term's fields may be. The document's side: whether an op may be. An op may be by the program where it may be by the document. Package deal: a term's fields may be by the program where they may be by the document. -/
import Derived.Test.YtiiajhomdpfafaaGreatDoorHba
import Derived.Deep.RegionLaw
import Derived.Test.YtiiajhomdpfafaaGreatDoorHax
namespace Go.Proofs.YtiiajhomdpfafaaGreatDoor
open Go.RowKit

theorem RdB.begun {w : World} {b : Nat} {s : ByteArray} {kv tv : Value} {a n g : Int} (h : RdB w b s kv a n g tv) (x : Int) : RdB (w.setCell ⟨b, 4, none⟩ (.int .i64 x)) b s kv a n x tv := (heap_setCell_same w b 4 _ _ _ h).trans rfl
theorem RdB.terms {w : World} {b : Nat} {s : ByteArray} {kv tv : Value} {a n g : Int} (h : RdB w b s kv a n g tv) (v : Value) : RdB (w.setCell ⟨b, 5, none⟩ v) b s kv a n g v := (heap_setCell_same w b 5 _ _ _ h).trans rfl
theorem OneB.one (b : Nat) (w : World) (i : Nat) (v : Value) : OneB b w (w.setCell ⟨b, i, none⟩ v) := (OneB.refl b w).set i v
structure TmS (w : World) (b K T : Nat) (s : ByteArray) (kv : Value) (a n g : Int) (tv : Value) (kc : Array Value) (t : Trm) (wr : World) : Prop where
  rb : RdB wr b s kv a n g tv
  kb : wr.heap[K]? = some (.cells kc 65)
  tb : TrB wr T t
  bl : BelX b w wr
  k0 : w.heap.size ≤ K
  t0 : w.heap.size ≤ T
  kt : K ≠ T
  b0 : b < w.heap.size
theorem TmS.step {w : World} {b K T : Nat} {s : ByteArray} {kv : Value} {a n g : Int} {tv : Value} {kc : Array Value} {t : Trm} {wr w' : World} (h : TmS w b K T s kv a n g tv kc t wr) (hb : Below wr.heap.size wr w') : TmS w b K T s kv a n g tv kc t w' := ⟨h.rb.stay hb, (hb.block _ (lt_of_blk h.kb)).trans h.kb, h.tb.below hb, h.bl.trans (.of_below hb), h.k0, h.t0, h.kt, h.b0⟩
theorem TmS.one {w : World} {b K T : Nat} {s : ByteArray} {kv : Value} {a n g a' n' g' : Int} {tv tv' : Value} {kc : Array Value} {t : Trm} {wr w' : World} (h : TmS w b K T s kv a n g tv kc t wr) (ho : OneB b wr w') (hr : RdB w' b s kv a' n' g' tv') : TmS w b K T s kv a' n' g' tv' kc t w' :=
  ⟨hr, (ho.out K (by have := h.k0; have := h.b0; omega)).trans h.kb, (ho.out T (by have := h.t0; have := h.b0; omega)).trans h.tb, h.bl.trans (.of_one ho), h.k0, h.t0, h.kt, h.b0⟩
theorem TmS.put {w : World} {b K T : Nat} {s : ByteArray} {kv : Value} {a n g : Int} {tv : Value} {kc : Array Value} {t t' : Trm} {wr : World} (h : TmS w b K T s kv a n g tv kc t wr) (i : Nat) (v : Value) (ht : TrB (wr.setCell ⟨T, i, none⟩ v) T t') : TmS w b K T s kv a n g tv kc t' (wr.setCell ⟨T, i, none⟩ v) := by
  have hb := h.b0
  have hT := h.t0
  have hp := (Below.refl w.heap.size wr).setCell (p := ⟨T, i, none⟩) hT v
  exact ⟨(blkF_far _ _ _ _ (by show b ≠ T; omega)).trans h.rb, (blkF_far _ _ _ _ h.kt).trans h.kb, ht, ⟨hp.os.trans h.bl.os, hp.tape.trans h.bl.tape, hp.output.trans h.bl.output, Nat.le_trans h.bl.size hp.size, fun k hk hn => (hp.block k hk).trans (h.bl.block k hk hn)⟩, h.k0, hT, h.kt, hb⟩
theorem tmS_at {w w1 : World} {b : Nat} {s : ByteArray} {kv : Value} {a n g : Int} {tv : Value} (kc : Array Value) (t : Trm) (x : Int) (hr : RdB w1 b s kv a n g tv) (hx : BelX b w w1) (hb : b < w.heap.size) :
    TmS w b w1.heap.size (w1.heap.size + 1) s kv a n x tv kc t (((w1.alloc (.cells kc 65)).setCell ⟨b, 4, none⟩ (.int .i64 x)).alloc (.cells (trC t) 47)) := by
  have s1 := hx.size
  have hr1 := (hr.stay (al_bel w1 (.cells kc 65))).begun x
  have o1 := OneB.one b (w1.alloc (.cells kc 65)) 4 (.int .i64 x)
  have sz : ((w1.alloc (.cells kc 65)).setCell ⟨b, 4, none⟩ (.int .i64 x)).heap.size = w1.heap.size + 1 := by rw [o1.size, sz_al]
  refine ⟨hr1.stay (al_bel _ _), ?_, ?_, (hx.trans (.of_below (al_bel _ _))).trans ((BelX.of_one o1).trans (.of_below (al_bel _ _))), s1, by omega, by omega, hb⟩
  · rw [al_at, sz, if_neg (by omega), o1.out _ (by omega)]
    exact heap_alloc_new _ _
  · unfold TrB
    rw [al_at, sz, if_pos rfl]
theorem fb_put {w2 wm w3 : World} {FB T i : Nat} {v : Value} {o : Obj} (h : w2.heap[FB]? = some o) (hb : Below w2.heap.size w2 wm) (e : w3 = wm.setCell ⟨T, i, none⟩ v) (hn : FB ≠ T) : w3.heap[FB]? = some o := by
  subst e
  exact (blkF_far _ _ _ _ hn).trans ((hb.block _ (lt_of_blk h)).trans h)
end Go.Proofs.YtiiajhomdpfafaaGreatDoor
namespace Go.Proofs.YtiiajhomdpfafaaGreatDoor
open Go.RowKit

end Go.Proofs.YtiiajhomdpfafaaGreatDoor
namespace Go.Proofs.YtiiajhomdpfafaaGreatDoor
open Go.RowKit

end Go.Proofs.YtiiajhomdpfafaaGreatDoor
namespace Go.Proofs.YtiiajhomdpfafaaGreatDoor
open Go.RowKit

end Go.Proofs.YtiiajhomdpfafaaGreatDoor
namespace Go.Proofs.YtiiajhomdpfafaaGreatDoor
open Go.RowKit

end Go.Proofs.YtiiajhomdpfafaaGreatDoor
namespace Go.Proofs.YtiiajhomdpfafaaGreatDoor
open Go.RowKit

theorem r17In_any (n lo hi : Int) (w : World) : Calls Tryz.prog 68 #[.int .i64 n, .int .i64 lo, .int .i64 hi] w fun e w' => e = .returned (.bool (decide (lo ≤ n) && decide (n ≤ hi))) ∧ w' = w := by
  by_cases h1 : lo ≤ n <;> by_cases h2 : n ≤ hi
  all_goals
    first | rw [decide_eq_true h1] | rw [decide_eq_false h1]
    first | rw [decide_eq_true h2] | rw [decide_eq_false h2]
    go_enter Tryz.func68, Tryz.ntmps68
    go_wp2
    go_ret
    exact ⟨rfl, rfl⟩
theorem r17Day_any (n : Int) (w : World) : Calls Tryz.prog 67 #[.int .i64 n] w fun e w' => e = .returned (.bool (decide (0 ≤ n) && decide (n ≤ 109572))) ∧ w' = w := by
  obtain ⟨D, hD⟩ : ∃ D, (decide (0 ≤ n) && decide (n ≤ 109572)) = D := ⟨_, rfl⟩
  have H := r17In_any n 0 109572
  rw [hD] at H ⊢
  go_enter Tryz.func67, Tryz.ntmps67
  go_wp2_with (go_at_call 68; refine (H _).mono ?_; rintro e w' ⟨rfl, rfl⟩)
  go_ret
  exact ⟨rfl, rfl⟩
theorem r14Cur_any (n : Int) (w : World) : Calls Tryz.prog 66 #[.int .i64 n] w fun e w' => e = .returned (.bool (decide (1 ≤ n) && decide (n ≤ 8))) ∧ w' = w := by
  by_cases h1 : 1 ≤ n <;> by_cases h2 : n ≤ 8
  all_goals
    first | rw [decide_eq_true h1] | rw [decide_eq_false h1]
    first | rw [decide_eq_true h2] | rw [decide_eq_false h2]
    go_enter Tryz.func66, Tryz.ntmps66
    go_wp2
    go_ret
    exact ⟨rfl, rfl⟩
def trD (t : Trm) : Array Value := #[.int .i64 t.kind, .int .i64 t.a, .int .i64 t.b, .int .u64 t.x, .int .u64 t.y, .int .i64 t.day, .int .i64 t.to, .int .i64 t.cur, .int .i64 t.count, .int .i64 t.n, .int .i64 t.months]
end Go.Proofs.YtiiajhomdpfafaaGreatDoor
namespace Go.Proofs.YtiiajhomdpfafaaGreatDoor
open Go.RowKit

end Go.Proofs.YtiiajhomdpfafaaGreatDoor
namespace Go.Proofs.YtiiajhomdpfafaaGreatDoor
open Go.RowKit

theorem td_h1 : Tryz.prog.stoodInHeld 51 = false := by kernel_rfl
theorem td_h2 : Tryz.prog.underlying 51 = some (.struct (Tryz.prog.fieldsOf 51)) := by kernel_rfl
theorem td_hf : (Tryz.prog.fieldsOf 51).toList = [(Tryz.prog.fieldsOf 51)[0]!, (Tryz.prog.fieldsOf 51)[1]!, (Tryz.prog.fieldsOf 51)[2]!, (Tryz.prog.fieldsOf 51)[3]!, (Tryz.prog.fieldsOf 51)[4]!, (Tryz.prog.fieldsOf 51)[5]!, (Tryz.prog.fieldsOf 51)[6]!, (Tryz.prog.fieldsOf 51)[7]!, (Tryz.prog.fieldsOf 51)[8]!, (Tryz.prog.fieldsOf 51)[9]!, (Tryz.prog.fieldsOf 51)[10]!] := by kernel_rfl
theorem td_n0 : ((Tryz.prog.fieldsOf 51)[0]!.name != "_") = true := by kernel_rfl
theorem td_t0 : (Tryz.prog.fieldsOf 51)[0]!.type = 3 := by kernel_rfl
theorem td_p0 (p0 : Int) (p1 : Int) (p2 : Int) (p3 : Int) (p4 : Int) (p5 : Int) (p6 : Int) (p7 : Int) (p8 : Int) (p9 : Int) (p10 : Int) (w : World) : (part (Tryz.prog.fieldsOf 51)[0]!.type #[.int .i64 p0, .int .i64 p1, .int .i64 p2, .int .u64 p3, .int .u64 p4, .int .i64 p5, .int .i64 p6, .int .i64 p7, .int .i64 p8, .int .i64 p9, .int .i64 p10] (Tryz.prog.fieldsOf 51)[0]!.offset).run Tryz.prog w = .ok (.int .i64 p0) w := by kernel_rfl
theorem td_e0 (a b : Int) (w : World) : (Op.equalIn 9999 (Tryz.prog.fieldsOf 51)[0]!.type (.int .i64 a) (.int .i64 b)).run Tryz.prog w = .ok (a == b) w := by
  rw [show (9999 : Nat) = 9998 + 1 from rfl, td_t0, run_equalIn_int w 9998 3 .i64 .i64 a b (by kernel_rfl)]
theorem td_n1 : ((Tryz.prog.fieldsOf 51)[1]!.name != "_") = true := by kernel_rfl
theorem td_t1 : (Tryz.prog.fieldsOf 51)[1]!.type = 3 := by kernel_rfl
theorem td_p1 (p0 : Int) (p1 : Int) (p2 : Int) (p3 : Int) (p4 : Int) (p5 : Int) (p6 : Int) (p7 : Int) (p8 : Int) (p9 : Int) (p10 : Int) (w : World) : (part (Tryz.prog.fieldsOf 51)[1]!.type #[.int .i64 p0, .int .i64 p1, .int .i64 p2, .int .u64 p3, .int .u64 p4, .int .i64 p5, .int .i64 p6, .int .i64 p7, .int .i64 p8, .int .i64 p9, .int .i64 p10] (Tryz.prog.fieldsOf 51)[1]!.offset).run Tryz.prog w = .ok (.int .i64 p1) w := by kernel_rfl
theorem td_e1 (a b : Int) (w : World) : (Op.equalIn 9999 (Tryz.prog.fieldsOf 51)[1]!.type (.int .i64 a) (.int .i64 b)).run Tryz.prog w = .ok (a == b) w := by
  rw [show (9999 : Nat) = 9998 + 1 from rfl, td_t1, run_equalIn_int w 9998 3 .i64 .i64 a b (by kernel_rfl)]
theorem td_n2 : ((Tryz.prog.fieldsOf 51)[2]!.name != "_") = true := by kernel_rfl
theorem td_t2 : (Tryz.prog.fieldsOf 51)[2]!.type = 3 := by kernel_rfl
theorem td_p2 (p0 : Int) (p1 : Int) (p2 : Int) (p3 : Int) (p4 : Int) (p5 : Int) (p6 : Int) (p7 : Int) (p8 : Int) (p9 : Int) (p10 : Int) (w : World) : (part (Tryz.prog.fieldsOf 51)[2]!.type #[.int .i64 p0, .int .i64 p1, .int .i64 p2, .int .u64 p3, .int .u64 p4, .int .i64 p5, .int .i64 p6, .int .i64 p7, .int .i64 p8, .int .i64 p9, .int .i64 p10] (Tryz.prog.fieldsOf 51)[2]!.offset).run Tryz.prog w = .ok (.int .i64 p2) w := by kernel_rfl
theorem td_e2 (a b : Int) (w : World) : (Op.equalIn 9999 (Tryz.prog.fieldsOf 51)[2]!.type (.int .i64 a) (.int .i64 b)).run Tryz.prog w = .ok (a == b) w := by
  rw [show (9999 : Nat) = 9998 + 1 from rfl, td_t2, run_equalIn_int w 9998 3 .i64 .i64 a b (by kernel_rfl)]
theorem td_n3 : ((Tryz.prog.fieldsOf 51)[3]!.name != "_") = true := by kernel_rfl
theorem td_t3 : (Tryz.prog.fieldsOf 51)[3]!.type = 48 := by kernel_rfl
theorem td_p3 (p0 : Int) (p1 : Int) (p2 : Int) (p3 : Int) (p4 : Int) (p5 : Int) (p6 : Int) (p7 : Int) (p8 : Int) (p9 : Int) (p10 : Int) (w : World) : (part (Tryz.prog.fieldsOf 51)[3]!.type #[.int .i64 p0, .int .i64 p1, .int .i64 p2, .int .u64 p3, .int .u64 p4, .int .i64 p5, .int .i64 p6, .int .i64 p7, .int .i64 p8, .int .i64 p9, .int .i64 p10] (Tryz.prog.fieldsOf 51)[3]!.offset).run Tryz.prog w = .ok (.int .u64 p3) w := by kernel_rfl
theorem td_e3 (a b : Int) (w : World) : (Op.equalIn 9999 (Tryz.prog.fieldsOf 51)[3]!.type (.int .u64 a) (.int .u64 b)).run Tryz.prog w = .ok (a == b) w := by
  rw [show (9999 : Nat) = 9998 + 1 from rfl, td_t3, run_equalIn_int w 9998 48 .u64 .u64 a b (by kernel_rfl)]
theorem td_n4 : ((Tryz.prog.fieldsOf 51)[4]!.name != "_") = true := by kernel_rfl
theorem td_t4 : (Tryz.prog.fieldsOf 51)[4]!.type = 48 := by kernel_rfl
theorem td_p4 (p0 : Int) (p1 : Int) (p2 : Int) (p3 : Int) (p4 : Int) (p5 : Int) (p6 : Int) (p7 : Int) (p8 : Int) (p9 : Int) (p10 : Int) (w : World) : (part (Tryz.prog.fieldsOf 51)[4]!.type #[.int .i64 p0, .int .i64 p1, .int .i64 p2, .int .u64 p3, .int .u64 p4, .int .i64 p5, .int .i64 p6, .int .i64 p7, .int .i64 p8, .int .i64 p9, .int .i64 p10] (Tryz.prog.fieldsOf 51)[4]!.offset).run Tryz.prog w = .ok (.int .u64 p4) w := by kernel_rfl
theorem td_e4 (a b : Int) (w : World) : (Op.equalIn 9999 (Tryz.prog.fieldsOf 51)[4]!.type (.int .u64 a) (.int .u64 b)).run Tryz.prog w = .ok (a == b) w := by
  rw [show (9999 : Nat) = 9998 + 1 from rfl, td_t4, run_equalIn_int w 9998 48 .u64 .u64 a b (by kernel_rfl)]
theorem td_n5 : ((Tryz.prog.fieldsOf 51)[5]!.name != "_") = true := by kernel_rfl
theorem td_t5 : (Tryz.prog.fieldsOf 51)[5]!.type = 3 := by kernel_rfl
theorem td_p5 (p0 : Int) (p1 : Int) (p2 : Int) (p3 : Int) (p4 : Int) (p5 : Int) (p6 : Int) (p7 : Int) (p8 : Int) (p9 : Int) (p10 : Int) (w : World) : (part (Tryz.prog.fieldsOf 51)[5]!.type #[.int .i64 p0, .int .i64 p1, .int .i64 p2, .int .u64 p3, .int .u64 p4, .int .i64 p5, .int .i64 p6, .int .i64 p7, .int .i64 p8, .int .i64 p9, .int .i64 p10] (Tryz.prog.fieldsOf 51)[5]!.offset).run Tryz.prog w = .ok (.int .i64 p5) w := by kernel_rfl
theorem td_e5 (a b : Int) (w : World) : (Op.equalIn 9999 (Tryz.prog.fieldsOf 51)[5]!.type (.int .i64 a) (.int .i64 b)).run Tryz.prog w = .ok (a == b) w := by
  rw [show (9999 : Nat) = 9998 + 1 from rfl, td_t5, run_equalIn_int w 9998 3 .i64 .i64 a b (by kernel_rfl)]
theorem td_n6 : ((Tryz.prog.fieldsOf 51)[6]!.name != "_") = true := by kernel_rfl
theorem td_t6 : (Tryz.prog.fieldsOf 51)[6]!.type = 3 := by kernel_rfl
theorem td_p6 (p0 : Int) (p1 : Int) (p2 : Int) (p3 : Int) (p4 : Int) (p5 : Int) (p6 : Int) (p7 : Int) (p8 : Int) (p9 : Int) (p10 : Int) (w : World) : (part (Tryz.prog.fieldsOf 51)[6]!.type #[.int .i64 p0, .int .i64 p1, .int .i64 p2, .int .u64 p3, .int .u64 p4, .int .i64 p5, .int .i64 p6, .int .i64 p7, .int .i64 p8, .int .i64 p9, .int .i64 p10] (Tryz.prog.fieldsOf 51)[6]!.offset).run Tryz.prog w = .ok (.int .i64 p6) w := by kernel_rfl
theorem td_e6 (a b : Int) (w : World) : (Op.equalIn 9999 (Tryz.prog.fieldsOf 51)[6]!.type (.int .i64 a) (.int .i64 b)).run Tryz.prog w = .ok (a == b) w := by
  rw [show (9999 : Nat) = 9998 + 1 from rfl, td_t6, run_equalIn_int w 9998 3 .i64 .i64 a b (by kernel_rfl)]
theorem td_n7 : ((Tryz.prog.fieldsOf 51)[7]!.name != "_") = true := by kernel_rfl
theorem td_t7 : (Tryz.prog.fieldsOf 51)[7]!.type = 3 := by kernel_rfl
theorem td_p7 (p0 : Int) (p1 : Int) (p2 : Int) (p3 : Int) (p4 : Int) (p5 : Int) (p6 : Int) (p7 : Int) (p8 : Int) (p9 : Int) (p10 : Int) (w : World) : (part (Tryz.prog.fieldsOf 51)[7]!.type #[.int .i64 p0, .int .i64 p1, .int .i64 p2, .int .u64 p3, .int .u64 p4, .int .i64 p5, .int .i64 p6, .int .i64 p7, .int .i64 p8, .int .i64 p9, .int .i64 p10] (Tryz.prog.fieldsOf 51)[7]!.offset).run Tryz.prog w = .ok (.int .i64 p7) w := by kernel_rfl
theorem td_e7 (a b : Int) (w : World) : (Op.equalIn 9999 (Tryz.prog.fieldsOf 51)[7]!.type (.int .i64 a) (.int .i64 b)).run Tryz.prog w = .ok (a == b) w := by
  rw [show (9999 : Nat) = 9998 + 1 from rfl, td_t7, run_equalIn_int w 9998 3 .i64 .i64 a b (by kernel_rfl)]
theorem td_n8 : ((Tryz.prog.fieldsOf 51)[8]!.name != "_") = true := by kernel_rfl
theorem td_t8 : (Tryz.prog.fieldsOf 51)[8]!.type = 3 := by kernel_rfl
theorem td_p8 (p0 : Int) (p1 : Int) (p2 : Int) (p3 : Int) (p4 : Int) (p5 : Int) (p6 : Int) (p7 : Int) (p8 : Int) (p9 : Int) (p10 : Int) (w : World) : (part (Tryz.prog.fieldsOf 51)[8]!.type #[.int .i64 p0, .int .i64 p1, .int .i64 p2, .int .u64 p3, .int .u64 p4, .int .i64 p5, .int .i64 p6, .int .i64 p7, .int .i64 p8, .int .i64 p9, .int .i64 p10] (Tryz.prog.fieldsOf 51)[8]!.offset).run Tryz.prog w = .ok (.int .i64 p8) w := by kernel_rfl
theorem td_e8 (a b : Int) (w : World) : (Op.equalIn 9999 (Tryz.prog.fieldsOf 51)[8]!.type (.int .i64 a) (.int .i64 b)).run Tryz.prog w = .ok (a == b) w := by
  rw [show (9999 : Nat) = 9998 + 1 from rfl, td_t8, run_equalIn_int w 9998 3 .i64 .i64 a b (by kernel_rfl)]
theorem td_n9 : ((Tryz.prog.fieldsOf 51)[9]!.name != "_") = true := by kernel_rfl
theorem td_t9 : (Tryz.prog.fieldsOf 51)[9]!.type = 3 := by kernel_rfl
theorem td_p9 (p0 : Int) (p1 : Int) (p2 : Int) (p3 : Int) (p4 : Int) (p5 : Int) (p6 : Int) (p7 : Int) (p8 : Int) (p9 : Int) (p10 : Int) (w : World) : (part (Tryz.prog.fieldsOf 51)[9]!.type #[.int .i64 p0, .int .i64 p1, .int .i64 p2, .int .u64 p3, .int .u64 p4, .int .i64 p5, .int .i64 p6, .int .i64 p7, .int .i64 p8, .int .i64 p9, .int .i64 p10] (Tryz.prog.fieldsOf 51)[9]!.offset).run Tryz.prog w = .ok (.int .i64 p9) w := by kernel_rfl
theorem td_e9 (a b : Int) (w : World) : (Op.equalIn 9999 (Tryz.prog.fieldsOf 51)[9]!.type (.int .i64 a) (.int .i64 b)).run Tryz.prog w = .ok (a == b) w := by
  rw [show (9999 : Nat) = 9998 + 1 from rfl, td_t9, run_equalIn_int w 9998 3 .i64 .i64 a b (by kernel_rfl)]
theorem td_n10 : ((Tryz.prog.fieldsOf 51)[10]!.name != "_") = true := by kernel_rfl
theorem td_t10 : (Tryz.prog.fieldsOf 51)[10]!.type = 3 := by kernel_rfl
theorem td_p10 (p0 : Int) (p1 : Int) (p2 : Int) (p3 : Int) (p4 : Int) (p5 : Int) (p6 : Int) (p7 : Int) (p8 : Int) (p9 : Int) (p10 : Int) (w : World) : (part (Tryz.prog.fieldsOf 51)[10]!.type #[.int .i64 p0, .int .i64 p1, .int .i64 p2, .int .u64 p3, .int .u64 p4, .int .i64 p5, .int .i64 p6, .int .i64 p7, .int .i64 p8, .int .i64 p9, .int .i64 p10] (Tryz.prog.fieldsOf 51)[10]!.offset).run Tryz.prog w = .ok (.int .i64 p10) w := by kernel_rfl
theorem td_e10 (a b : Int) (w : World) : (Op.equalIn 9999 (Tryz.prog.fieldsOf 51)[10]!.type (.int .i64 a) (.int .i64 b)).run Tryz.prog w = .ok (a == b) w := by
  rw [show (9999 : Nat) = 9998 + 1 from rfl, td_t10, run_equalIn_int w 9998 3 .i64 .i64 a b (by kernel_rfl)]
theorem td_eql (p0 : Int) (p1 : Int) (p2 : Int) (p3 : Int) (p4 : Int) (p5 : Int) (p6 : Int) (p7 : Int) (p8 : Int) (p9 : Int) (p10 : Int) (q0 : Int) (q1 : Int) (q2 : Int) (q3 : Int) (q4 : Int) (q5 : Int) (q6 : Int) (q7 : Int) (q8 : Int) (q9 : Int) (q10 : Int) (w : World) : (binOp .eql 51 (.agg #[.int .i64 p0, .int .i64 p1, .int .i64 p2, .int .u64 p3, .int .u64 p4, .int .i64 p5, .int .i64 p6, .int .i64 p7, .int .i64 p8, .int .i64 p9, .int .i64 p10]) (.agg #[.int .i64 q0, .int .i64 q1, .int .i64 q2, .int .u64 q3, .int .u64 q4, .int .i64 q5, .int .i64 q6, .int .i64 q7, .int .i64 q8, .int .i64 q9, .int .i64 q10])).run Tryz.prog w = .ok (.bool ((p0 == q0) && ((p1 == q1) && ((p2 == q2) && ((p3 == q3) && ((p4 == q4) && ((p5 == q5) && ((p6 == q6) && ((p7 == q7) && ((p8 == q8) && ((p9 == q9) && ((p10 == q10) && true)))))))))))) w := by
  rw [run_eql_struct, show (10000 : Nat) = 9999 + 1 from rfl, run_equalIn_agg w 9999 51 _ _ td_h2 td_h1, td_hf, (eqf_cons td_n0 (td_p0 p0 p1 p2 p3 p4 p5 p6 p7 p8 p9 p10 w) (td_p0 q0 q1 q2 q3 q4 q5 q6 q7 q8 q9 q10 w) (td_e0 p0 q0 w) (eqf_cons td_n1 (td_p1 p0 p1 p2 p3 p4 p5 p6 p7 p8 p9 p10 w) (td_p1 q0 q1 q2 q3 q4 q5 q6 q7 q8 q9 q10 w) (td_e1 p1 q1 w) (eqf_cons td_n2 (td_p2 p0 p1 p2 p3 p4 p5 p6 p7 p8 p9 p10 w) (td_p2 q0 q1 q2 q3 q4 q5 q6 q7 q8 q9 q10 w) (td_e2 p2 q2 w) (eqf_cons td_n3 (td_p3 p0 p1 p2 p3 p4 p5 p6 p7 p8 p9 p10 w) (td_p3 q0 q1 q2 q3 q4 q5 q6 q7 q8 q9 q10 w) (td_e3 p3 q3 w) (eqf_cons td_n4 (td_p4 p0 p1 p2 p3 p4 p5 p6 p7 p8 p9 p10 w) (td_p4 q0 q1 q2 q3 q4 q5 q6 q7 q8 q9 q10 w) (td_e4 p4 q4 w) (eqf_cons td_n5 (td_p5 p0 p1 p2 p3 p4 p5 p6 p7 p8 p9 p10 w) (td_p5 q0 q1 q2 q3 q4 q5 q6 q7 q8 q9 q10 w) (td_e5 p5 q5 w) (eqf_cons td_n6 (td_p6 p0 p1 p2 p3 p4 p5 p6 p7 p8 p9 p10 w) (td_p6 q0 q1 q2 q3 q4 q5 q6 q7 q8 q9 q10 w) (td_e6 p6 q6 w) (eqf_cons td_n7 (td_p7 p0 p1 p2 p3 p4 p5 p6 p7 p8 p9 p10 w) (td_p7 q0 q1 q2 q3 q4 q5 q6 q7 q8 q9 q10 w) (td_e7 p7 q7 w) (eqf_cons td_n8 (td_p8 p0 p1 p2 p3 p4 p5 p6 p7 p8 p9 p10 w) (td_p8 q0 q1 q2 q3 q4 q5 q6 q7 q8 q9 q10 w) (td_e8 p8 q8 w) (eqf_cons td_n9 (td_p9 p0 p1 p2 p3 p4 p5 p6 p7 p8 p9 p10 w) (td_p9 q0 q1 q2 q3 q4 q5 q6 q7 q8 q9 q10 w) (td_e9 p9 q9 w) (eqf_cons td_n10 (td_p10 p0 p1 p2 p3 p4 p5 p6 p7 p8 p9 p10 w) (td_p10 q0 q1 q2 q3 q4 q5 q6 q7 q8 q9 q10 w) (td_e10 p10 q10 w) eqf_nil)))))))))))]
  rfl
def eqT (p q : Trm) : Bool := (((p.kind : Int) == (q.kind : Int)) && (((p.a : Int) == (q.a : Int)) && (((p.b : Int) == (q.b : Int)) && (((p.x : Int) == (q.x : Int)) && (((p.y : Int) == (q.y : Int)) && (((p.day : Int) == (q.day : Int)) && (((p.to : Int) == (q.to : Int)) && (((p.cur : Int) == (q.cur : Int)) && (((p.count : Int) == (q.count : Int)) && (((p.n : Int) == (q.n : Int)) && (((p.months : Int) == (q.months : Int)) && true)))))))))))
theorem eqT_run (p q : Trm) (w : World) : (binOp .eql 51 (.agg (trD p)) (.agg (trD q))).run Tryz.prog w = .ok (.bool (eqT p q)) w := td_eql p.kind p.a p.b p.x p.y p.day p.to p.cur p.count p.n p.months q.kind q.a q.b q.x q.y q.day q.to q.cur q.count q.n q.months w
end Go.Proofs.YtiiajhomdpfafaaGreatDoor
namespace Go.Proofs.YtiiajhomdpfafaaGreatDoor
open Go.RowKit

theorem r1Num_any (u : Int) (w : World) (h : U64 u) : Calls Tryz.prog 65 #[.int .u64 u] w fun e w' => e = .returned (.bool (finB u)) ∧ w' = w := by
  have hz := andNot_sz h
  unfold finB
  go_enter Tryz.func65, Tryz.ntmps65
  go_wp2
  go_ret
  exact ⟨rfl, rfl⟩
def tn1 (t : Trm) : Trm := ⟨t.kind, t.a, t.b, 0, 0, 0, 0, 0, 0, 0, 0⟩
set_option maxRecDepth 20000 in
set_option maxHeartbeats 12800000 in
theorem flds_1 (t : Trm) (hk : t.kind = 1) (w : World) : Calls Tryz.prog 32 #[.agg (trD t)] w fun e w' => e = .returned (.bool (eqT t (tn1 t))) ∧ Below w.heap.size w w' := by
  have heq0 := eqT_run t (tn1 t)
  obtain ⟨E, hE⟩ : ∃ E, eqT t (tn1 t) = E := ⟨_, rfl⟩
  rw [hE] at heq0 ⊢
  unfold trD tn1 at heq0
  simp only at heq0
  unfold trD
  rw [hk] at heq0 ⊢
  have heq : ∀ w, (binOp .eql 51 (.agg #[.int .i64 1, .int .i64 t.a, .int .i64 t.b, .int .u64 t.x, .int .u64 t.y, .int .i64 t.day, .int .i64 t.to, .int .i64 t.cur, .int .i64 t.count, .int .i64 t.n, .int .i64 t.months]) (.agg #[.int .i64 1, .int .i64 t.a, .int .i64 t.b, .int .u64 0, .int .u64 0, .int .i64 0, .int .i64 0, .int .i64 0, .int .i64 0, .int .i64 0, .int .i64 0])).run Tryz.prog w = .ok (.bool E) w := heq0
  clear heq0
  clear hE
  have HB : Hid (Below w.heap.size w ((w.alloc (.cells #[.int .i64 1, .int .i64 t.a, .int .i64 t.b, .int .u64 t.x, .int .u64 t.y, .int .i64 t.day, .int .i64 t.to, .int .i64 t.cur, .int .i64 t.count, .int .i64 t.n, .int .i64 t.months] 51)).alloc (.cells #[.int .i64 1, .int .i64 t.a, .int .i64 t.b, .int .u64 0, .int .u64 0, .int .i64 0, .int .i64 0, .int .i64 0, .int .i64 0, .int .i64 0, .int .i64 0] 51))) := ((Below.refl _ _).alloc (Nat.le_refl _) _).alloc (by simp) _
  go_enter Tryz.func32, Tryz.ntmps32
  go_wp2_with fail
  go_ret
  exact ⟨rfl, HB.out⟩
def tn4 (t : Trm) : Trm := ⟨t.kind, t.a, t.b, 0, 0, 0, 0, 0, 0, 0, 0⟩
set_option maxRecDepth 20000 in
set_option maxHeartbeats 12800000 in
theorem flds_4 (t : Trm) (hk : t.kind = 4) (w : World) : Calls Tryz.prog 32 #[.agg (trD t)] w fun e w' => e = .returned (.bool (eqT t (tn4 t))) ∧ Below w.heap.size w w' := by
  have heq0 := eqT_run t (tn4 t)
  obtain ⟨E, hE⟩ : ∃ E, eqT t (tn4 t) = E := ⟨_, rfl⟩
  rw [hE] at heq0 ⊢
  unfold trD tn4 at heq0
  simp only at heq0
  unfold trD
  rw [hk] at heq0 ⊢
  have heq : ∀ w, (binOp .eql 51 (.agg #[.int .i64 4, .int .i64 t.a, .int .i64 t.b, .int .u64 t.x, .int .u64 t.y, .int .i64 t.day, .int .i64 t.to, .int .i64 t.cur, .int .i64 t.count, .int .i64 t.n, .int .i64 t.months]) (.agg #[.int .i64 4, .int .i64 t.a, .int .i64 t.b, .int .u64 0, .int .u64 0, .int .i64 0, .int .i64 0, .int .i64 0, .int .i64 0, .int .i64 0, .int .i64 0])).run Tryz.prog w = .ok (.bool E) w := heq0
  clear heq0
  clear hE
  have HB : Hid (Below w.heap.size w ((w.alloc (.cells #[.int .i64 4, .int .i64 t.a, .int .i64 t.b, .int .u64 t.x, .int .u64 t.y, .int .i64 t.day, .int .i64 t.to, .int .i64 t.cur, .int .i64 t.count, .int .i64 t.n, .int .i64 t.months] 51)).alloc (.cells #[.int .i64 4, .int .i64 t.a, .int .i64 t.b, .int .u64 0, .int .u64 0, .int .i64 0, .int .i64 0, .int .i64 0, .int .i64 0, .int .i64 0, .int .i64 0] 51))) := ((Below.refl _ _).alloc (Nat.le_refl _) _).alloc (by simp) _
  go_enter Tryz.func32, Tryz.ntmps32
  go_wp2_with fail
  go_ret
  exact ⟨rfl, HB.out⟩
def tn5 (t : Trm) : Trm := ⟨t.kind, t.a, t.b, 0, 0, 0, 0, 0, 0, 0, 0⟩
set_option maxRecDepth 20000 in
set_option maxHeartbeats 12800000 in
theorem flds_5 (t : Trm) (hk : t.kind = 5) (w : World) : Calls Tryz.prog 32 #[.agg (trD t)] w fun e w' => e = .returned (.bool (eqT t (tn5 t))) ∧ Below w.heap.size w w' := by
  have heq0 := eqT_run t (tn5 t)
  obtain ⟨E, hE⟩ : ∃ E, eqT t (tn5 t) = E := ⟨_, rfl⟩
  rw [hE] at heq0 ⊢
  unfold trD tn5 at heq0
  simp only at heq0
  unfold trD
  rw [hk] at heq0 ⊢
  have heq : ∀ w, (binOp .eql 51 (.agg #[.int .i64 5, .int .i64 t.a, .int .i64 t.b, .int .u64 t.x, .int .u64 t.y, .int .i64 t.day, .int .i64 t.to, .int .i64 t.cur, .int .i64 t.count, .int .i64 t.n, .int .i64 t.months]) (.agg #[.int .i64 5, .int .i64 t.a, .int .i64 t.b, .int .u64 0, .int .u64 0, .int .i64 0, .int .i64 0, .int .i64 0, .int .i64 0, .int .i64 0, .int .i64 0])).run Tryz.prog w = .ok (.bool E) w := heq0
  clear heq0
  clear hE
  have HB : Hid (Below w.heap.size w ((w.alloc (.cells #[.int .i64 5, .int .i64 t.a, .int .i64 t.b, .int .u64 t.x, .int .u64 t.y, .int .i64 t.day, .int .i64 t.to, .int .i64 t.cur, .int .i64 t.count, .int .i64 t.n, .int .i64 t.months] 51)).alloc (.cells #[.int .i64 5, .int .i64 t.a, .int .i64 t.b, .int .u64 0, .int .u64 0, .int .i64 0, .int .i64 0, .int .i64 0, .int .i64 0, .int .i64 0, .int .i64 0] 51))) := ((Below.refl _ _).alloc (Nat.le_refl _) _).alloc (by simp) _
  go_enter Tryz.func32, Tryz.ntmps32
  go_wp2_with fail
  go_ret
  exact ⟨rfl, HB.out⟩
def tn2 (t : Trm) : Trm := ⟨t.kind, t.a, t.b, t.x, 0, t.day, 0, t.cur, 0, 0, 0⟩
set_option maxRecDepth 20000 in
set_option maxHeartbeats 12800000 in
theorem flds_2 (t : Trm) (hk : t.kind = 2) (hux : U64 t.x) (w : World) : Calls Tryz.prog 32 #[.agg (trD t)] w fun e w' => e = .returned (.bool (eqT t (tn2 t) && finB t.x && (decide (1 ≤ t.cur) && decide (t.cur ≤ 8)) && (decide (0 ≤ t.day) && decide (t.day ≤ 109572)))) ∧ Below w.heap.size w w' := by
  have heq0 := eqT_run t (tn2 t)
  have H0 := hidD (fun w => r1Num_any t.x w hux)
  obtain ⟨B0, hB0⟩ : ∃ B, finB t.x = B := ⟨_, rfl⟩
  rw [hB0]
  rw [hB0] at H0
  clear hB0
  have H1 := hidD (r14Cur_any t.cur)
  obtain ⟨B1, hB1⟩ : ∃ B, (decide (1 ≤ t.cur) && decide (t.cur ≤ 8)) = B := ⟨_, rfl⟩
  rw [hB1]
  rw [hB1] at H1
  clear hB1
  have H2 := hidD (r17Day_any t.day)
  obtain ⟨B2, hB2⟩ : ∃ B, (decide (0 ≤ t.day) && decide (t.day ≤ 109572)) = B := ⟨_, rfl⟩
  rw [hB2]
  rw [hB2] at H2
  clear hB2
  obtain ⟨E, hE⟩ : ∃ E, eqT t (tn2 t) = E := ⟨_, rfl⟩
  rw [hE] at heq0 ⊢
  unfold trD tn2 at heq0
  simp only at heq0
  unfold trD
  rw [hk] at heq0 ⊢
  have heq : ∀ w, (binOp .eql 51 (.agg #[.int .i64 2, .int .i64 t.a, .int .i64 t.b, .int .u64 t.x, .int .u64 t.y, .int .i64 t.day, .int .i64 t.to, .int .i64 t.cur, .int .i64 t.count, .int .i64 t.n, .int .i64 t.months]) (.agg #[.int .i64 2, .int .i64 t.a, .int .i64 t.b, .int .u64 t.x, .int .u64 0, .int .i64 t.day, .int .i64 0, .int .i64 t.cur, .int .i64 0, .int .i64 0, .int .i64 0])).run Tryz.prog w = .ok (.bool E) w := heq0
  clear heq0
  clear hE hux
  have HB : Hid (Below w.heap.size w ((w.alloc (.cells #[.int .i64 2, .int .i64 t.a, .int .i64 t.b, .int .u64 t.x, .int .u64 t.y, .int .i64 t.day, .int .i64 t.to, .int .i64 t.cur, .int .i64 t.count, .int .i64 t.n, .int .i64 t.months] 51)).alloc (.cells #[.int .i64 2, .int .i64 t.a, .int .i64 t.b, .int .u64 t.x, .int .u64 0, .int .i64 t.day, .int .i64 0, .int .i64 t.cur, .int .i64 0, .int .i64 0, .int .i64 0] 51))) := ((Below.refl _ _).alloc (Nat.le_refl _) _).alloc (by simp) _
  cases E
  · go_enter Tryz.func32, Tryz.ntmps32
    go_wp2_with fail
    go_ret
    exact ⟨rfl, HB.out⟩
  cases B0
  · go_enter Tryz.func32, Tryz.ntmps32
    go_wp2_with fail
    refine (H0.out _).mono ?_
    rintro e w' ⟨rfl, rfl⟩
    go_wp2_with fail
    go_ret
    exact ⟨rfl, HB.out⟩
  cases B1
  · go_enter Tryz.func32, Tryz.ntmps32
    go_wp2_with fail
    refine (H0.out _).mono ?_
    rintro e w' ⟨rfl, rfl⟩
    go_wp2_with fail
    refine (H1.out _).mono ?_
    rintro e w' ⟨rfl, rfl⟩
    go_wp2_with fail
    go_ret
    exact ⟨rfl, HB.out⟩
  go_enter Tryz.func32, Tryz.ntmps32
  go_wp2_with fail
  refine (H0.out _).mono ?_
  rintro e w' ⟨rfl, rfl⟩
  go_wp2_with fail
  refine (H1.out _).mono ?_
  rintro e w' ⟨rfl, rfl⟩
  go_wp2_with fail
  refine (H2.out _).mono ?_
  rintro e w' ⟨rfl, rfl⟩
  go_wp2_with fail
  go_ret
  exact ⟨rfl, HB.out⟩
def tn6 (t : Trm) : Trm := ⟨t.kind, t.a, t.b, t.x, 0, 0, 0, 0, 0, 0, 0⟩
set_option maxRecDepth 20000 in
set_option maxHeartbeats 12800000 in
theorem flds_6 (t : Trm) (hk : t.kind = 6) (hux : U64 t.x) (w : World) : Calls Tryz.prog 32 #[.agg (trD t)] w fun e w' => e = .returned (.bool (eqT t (tn6 t) && finB t.x)) ∧ Below w.heap.size w w' := by
  have heq0 := eqT_run t (tn6 t)
  have H0 := hidD (fun w => r1Num_any t.x w hux)
  obtain ⟨B0, hB0⟩ : ∃ B, finB t.x = B := ⟨_, rfl⟩
  rw [hB0]
  rw [hB0] at H0
  clear hB0
  obtain ⟨E, hE⟩ : ∃ E, eqT t (tn6 t) = E := ⟨_, rfl⟩
  rw [hE] at heq0 ⊢
  unfold trD tn6 at heq0
  simp only at heq0
  unfold trD
  rw [hk] at heq0 ⊢
  have heq : ∀ w, (binOp .eql 51 (.agg #[.int .i64 6, .int .i64 t.a, .int .i64 t.b, .int .u64 t.x, .int .u64 t.y, .int .i64 t.day, .int .i64 t.to, .int .i64 t.cur, .int .i64 t.count, .int .i64 t.n, .int .i64 t.months]) (.agg #[.int .i64 6, .int .i64 t.a, .int .i64 t.b, .int .u64 t.x, .int .u64 0, .int .i64 0, .int .i64 0, .int .i64 0, .int .i64 0, .int .i64 0, .int .i64 0])).run Tryz.prog w = .ok (.bool E) w := heq0
  clear heq0
  clear hE hux
  have HB : Hid (Below w.heap.size w ((w.alloc (.cells #[.int .i64 6, .int .i64 t.a, .int .i64 t.b, .int .u64 t.x, .int .u64 t.y, .int .i64 t.day, .int .i64 t.to, .int .i64 t.cur, .int .i64 t.count, .int .i64 t.n, .int .i64 t.months] 51)).alloc (.cells #[.int .i64 6, .int .i64 t.a, .int .i64 t.b, .int .u64 t.x, .int .u64 0, .int .i64 0, .int .i64 0, .int .i64 0, .int .i64 0, .int .i64 0, .int .i64 0] 51))) := ((Below.refl _ _).alloc (Nat.le_refl _) _).alloc (by simp) _
  cases E
  · go_enter Tryz.func32, Tryz.ntmps32
    go_wp2_with fail
    go_ret
    exact ⟨rfl, HB.out⟩
  go_enter Tryz.func32, Tryz.ntmps32
  go_wp2_with fail
  refine (H0.out _).mono ?_
  rintro e w' ⟨rfl, rfl⟩
  go_wp2_with fail
  go_ret
  exact ⟨rfl, HB.out⟩
def tn7 (t : Trm) : Trm := ⟨t.kind, t.a, t.b, 0, 0, t.day, t.to, 0, 0, 0, 0⟩
set_option maxRecDepth 20000 in
set_option maxHeartbeats 12800000 in
theorem flds_7 (t : Trm) (hk : t.kind = 7) (w : World) : Calls Tryz.prog 32 #[.agg (trD t)] w fun e w' => e = .returned (.bool (eqT t (tn7 t) && (decide (0 ≤ t.day) && decide (t.day ≤ 109572)) && (decide (0 ≤ t.to) && decide (t.to ≤ 109572)))) ∧ Below w.heap.size w w' := by
  have heq0 := eqT_run t (tn7 t)
  have H0 := hidD (r17Day_any t.day)
  obtain ⟨B0, hB0⟩ : ∃ B, (decide (0 ≤ t.day) && decide (t.day ≤ 109572)) = B := ⟨_, rfl⟩
  rw [hB0]
  rw [hB0] at H0
  clear hB0
  have H1 := hidD (r17Day_any t.to)
  obtain ⟨B1, hB1⟩ : ∃ B, (decide (0 ≤ t.to) && decide (t.to ≤ 109572)) = B := ⟨_, rfl⟩
  rw [hB1]
  rw [hB1] at H1
  clear hB1
  obtain ⟨E, hE⟩ : ∃ E, eqT t (tn7 t) = E := ⟨_, rfl⟩
  rw [hE] at heq0 ⊢
  unfold trD tn7 at heq0
  simp only at heq0
  unfold trD
  rw [hk] at heq0 ⊢
  have heq : ∀ w, (binOp .eql 51 (.agg #[.int .i64 7, .int .i64 t.a, .int .i64 t.b, .int .u64 t.x, .int .u64 t.y, .int .i64 t.day, .int .i64 t.to, .int .i64 t.cur, .int .i64 t.count, .int .i64 t.n, .int .i64 t.months]) (.agg #[.int .i64 7, .int .i64 t.a, .int .i64 t.b, .int .u64 0, .int .u64 0, .int .i64 t.day, .int .i64 t.to, .int .i64 0, .int .i64 0, .int .i64 0, .int .i64 0])).run Tryz.prog w = .ok (.bool E) w := heq0
  clear heq0
  clear hE
  have HB : Hid (Below w.heap.size w ((w.alloc (.cells #[.int .i64 7, .int .i64 t.a, .int .i64 t.b, .int .u64 t.x, .int .u64 t.y, .int .i64 t.day, .int .i64 t.to, .int .i64 t.cur, .int .i64 t.count, .int .i64 t.n, .int .i64 t.months] 51)).alloc (.cells #[.int .i64 7, .int .i64 t.a, .int .i64 t.b, .int .u64 0, .int .u64 0, .int .i64 t.day, .int .i64 t.to, .int .i64 0, .int .i64 0, .int .i64 0, .int .i64 0] 51))) := ((Below.refl _ _).alloc (Nat.le_refl _) _).alloc (by simp) _
  cases E
  · go_enter Tryz.func32, Tryz.ntmps32
    go_wp2_with fail
    go_ret
    exact ⟨rfl, HB.out⟩
  cases B0
  · go_enter Tryz.func32, Tryz.ntmps32
    go_wp2_with fail
    refine (H0.out _).mono ?_
    rintro e w' ⟨rfl, rfl⟩
    go_wp2_with fail
    go_ret
    exact ⟨rfl, HB.out⟩
  go_enter Tryz.func32, Tryz.ntmps32
  go_wp2_with fail
  refine (H0.out _).mono ?_
  rintro e w' ⟨rfl, rfl⟩
  go_wp2_with fail
  refine (H1.out _).mono ?_
  rintro e w' ⟨rfl, rfl⟩
  go_wp2_with fail
  go_ret
  exact ⟨rfl, HB.out⟩
def tn8 (t : Trm) : Trm := ⟨t.kind, t.a, t.b, 0, 0, 0, 0, 0, 0, t.n, t.months⟩
set_option maxRecDepth 20000 in
set_option maxHeartbeats 12800000 in
theorem flds_8 (t : Trm) (hk : t.kind = 8) (w : World) : Calls Tryz.prog 32 #[.agg (trD t)] w fun e w' => e = .returned (.bool (eqT t (tn8 t) && (decide (1 ≤ t.n) && decide (t.n ≤ 4096)) && (decide (1 ≤ t.months) && decide (t.months ≤ 1200)))) ∧ Below w.heap.size w w' := by
  have heq0 := eqT_run t (tn8 t)
  have H0 := hidD (r17In_any t.n 1 4096)
  obtain ⟨B0, hB0⟩ : ∃ B, (decide (1 ≤ t.n) && decide (t.n ≤ 4096)) = B := ⟨_, rfl⟩
  rw [hB0]
  rw [hB0] at H0
  clear hB0
  have H1 := hidD (r17In_any t.months 1 1200)
  obtain ⟨B1, hB1⟩ : ∃ B, (decide (1 ≤ t.months) && decide (t.months ≤ 1200)) = B := ⟨_, rfl⟩
  rw [hB1]
  rw [hB1] at H1
  clear hB1
  obtain ⟨E, hE⟩ : ∃ E, eqT t (tn8 t) = E := ⟨_, rfl⟩
  rw [hE] at heq0 ⊢
  unfold trD tn8 at heq0
  simp only at heq0
  unfold trD
  rw [hk] at heq0 ⊢
  have heq : ∀ w, (binOp .eql 51 (.agg #[.int .i64 8, .int .i64 t.a, .int .i64 t.b, .int .u64 t.x, .int .u64 t.y, .int .i64 t.day, .int .i64 t.to, .int .i64 t.cur, .int .i64 t.count, .int .i64 t.n, .int .i64 t.months]) (.agg #[.int .i64 8, .int .i64 t.a, .int .i64 t.b, .int .u64 0, .int .u64 0, .int .i64 0, .int .i64 0, .int .i64 0, .int .i64 0, .int .i64 t.n, .int .i64 t.months])).run Tryz.prog w = .ok (.bool E) w := heq0
  clear heq0
  clear hE
  have HB : Hid (Below w.heap.size w ((w.alloc (.cells #[.int .i64 8, .int .i64 t.a, .int .i64 t.b, .int .u64 t.x, .int .u64 t.y, .int .i64 t.day, .int .i64 t.to, .int .i64 t.cur, .int .i64 t.count, .int .i64 t.n, .int .i64 t.months] 51)).alloc (.cells #[.int .i64 8, .int .i64 t.a, .int .i64 t.b, .int .u64 0, .int .u64 0, .int .i64 0, .int .i64 0, .int .i64 0, .int .i64 0, .int .i64 t.n, .int .i64 t.months] 51))) := ((Below.refl _ _).alloc (Nat.le_refl _) _).alloc (by simp) _
  cases E
  · go_enter Tryz.func32, Tryz.ntmps32
    go_wp2_with fail
    go_ret
    exact ⟨rfl, HB.out⟩
  cases B0
  · go_enter Tryz.func32, Tryz.ntmps32
    go_wp2_with fail
    refine (H0.out _).mono ?_
    rintro e w' ⟨rfl, rfl⟩
    go_wp2_with fail
    go_ret
    exact ⟨rfl, HB.out⟩
  go_enter Tryz.func32, Tryz.ntmps32
  go_wp2_with fail
  refine (H0.out _).mono ?_
  rintro e w' ⟨rfl, rfl⟩
  go_wp2_with fail
  refine (H1.out _).mono ?_
  rintro e w' ⟨rfl, rfl⟩
  go_wp2_with fail
  go_ret
  exact ⟨rfl, HB.out⟩
set_option maxRecDepth 20000 in
set_option maxHeartbeats 6400000 in
theorem flds_no (t : Trm) (hk : t.kind < 1 ∨ 8 < t.kind) (w : World) : Calls Tryz.prog 32 #[.agg (trD t)] w fun e w' => e = .returned (.bool false) ∧ Below w.heap.size w w' := by
  have n1 : (t.kind == 1) = false := beq_eq_false_iff_ne.2 (by omega)
  have n2 : (t.kind == 2) = false := beq_eq_false_iff_ne.2 (by omega)
  have n3 : (t.kind == 3) = false := beq_eq_false_iff_ne.2 (by omega)
  have n4 : (t.kind == 4) = false := beq_eq_false_iff_ne.2 (by omega)
  have n5 : (t.kind == 5) = false := beq_eq_false_iff_ne.2 (by omega)
  have n6 : (t.kind == 6) = false := beq_eq_false_iff_ne.2 (by omega)
  have n7 : (t.kind == 7) = false := beq_eq_false_iff_ne.2 (by omega)
  have n8 : (t.kind == 8) = false := beq_eq_false_iff_ne.2 (by omega)
  have HB : Hid (Below w.heap.size w ((w.alloc (.cells #[.int .i64 t.kind, .int .i64 t.a, .int .i64 t.b, .int .u64 t.x, .int .u64 t.y, .int .i64 t.day, .int .i64 t.to, .int .i64 t.cur, .int .i64 t.count, .int .i64 t.n, .int .i64 t.months] 51)).alloc (.cells #[.int .i64 t.kind, .int .i64 t.a, .int .i64 t.b, .int .u64 0, .int .u64 0, .int .i64 0, .int .i64 0, .int .i64 0, .int .i64 0, .int .i64 0, .int .i64 0] 51))) := ((Below.refl _ _).alloc (Nat.le_refl _) _).alloc (by simp) _
  clear hk
  unfold trD
  go_enter Tryz.func32, Tryz.ntmps32
  go_wp2_with fail
  go_ret
  exact ⟨rfl, HB.out⟩
end Go.Proofs.YtiiajhomdpfafaaGreatDoor
namespace Go.Proofs.YtiiajhomdpfafaaGreatDoor
open Go.RowKit

def tn3 (t : Trm) : Trm := ⟨t.kind, t.a, t.b, t.x, t.y, t.day, t.to, t.cur, t.count, t.n, 0⟩
set_option maxRecDepth 20000 in
set_option maxHeartbeats 12800000 in
theorem flds_3 (t : Trm) (hk : t.kind = 3) (hux : U64 t.x) (huy : U64 t.y) (w : World) : Calls Tryz.prog 32 #[.agg (trD t)] w fun e w' => e = .returned (.bool (eqT t (tn3 t) && finB t.x && finB t.y && (decide (1 ≤ t.count) && decide (t.count ≤ 5)) && (decide (0 ≤ t.day) && decide (t.day ≤ 109572)) && (decide (0 ≤ t.to) && decide (t.to ≤ 109572)) && decide (t.day < t.to) && (decide (1 ≤ t.n) && decide (t.n ≤ 1200)) && (decide (1 ≤ t.cur) && decide (t.cur ≤ 8)))) ∧ Below w.heap.size w w' := by
  have heq0 := eqT_run t (tn3 t)
  have H0 := hidD (fun w => r1Num_any t.x w hux)
  obtain ⟨B0, hB0⟩ : ∃ B, finB t.x = B := ⟨_, rfl⟩
  rw [hB0]
  rw [hB0] at H0
  clear hB0
  have H1 := hidD (fun w => r1Num_any t.y w huy)
  obtain ⟨B1, hB1⟩ : ∃ B, finB t.y = B := ⟨_, rfl⟩
  rw [hB1]
  rw [hB1] at H1
  clear hB1
  have H2 := hidD (r17In_any t.count 1 5)
  obtain ⟨B2, hB2⟩ : ∃ B, (decide (1 ≤ t.count) && decide (t.count ≤ 5)) = B := ⟨_, rfl⟩
  rw [hB2]
  rw [hB2] at H2
  clear hB2
  have H3 := hidD (r17Day_any t.day)
  obtain ⟨B3, hB3⟩ : ∃ B, (decide (0 ≤ t.day) && decide (t.day ≤ 109572)) = B := ⟨_, rfl⟩
  rw [hB3]
  rw [hB3] at H3
  clear hB3
  have H4 := hidD (r17Day_any t.to)
  obtain ⟨B4, hB4⟩ : ∃ B, (decide (0 ≤ t.to) && decide (t.to ≤ 109572)) = B := ⟨_, rfl⟩
  rw [hB4]
  rw [hB4] at H4
  clear hB4
  obtain ⟨B5, hB5⟩ : ∃ B, decide (t.day < t.to) = B := ⟨_, rfl⟩
  rw [hB5]
  have H6 := hidD (r17In_any t.n 1 1200)
  obtain ⟨B6, hB6⟩ : ∃ B, (decide (1 ≤ t.n) && decide (t.n ≤ 1200)) = B := ⟨_, rfl⟩
  rw [hB6]
  rw [hB6] at H6
  clear hB6
  have H7 := hidD (r14Cur_any t.cur)
  obtain ⟨B7, hB7⟩ : ∃ B, (decide (1 ≤ t.cur) && decide (t.cur ≤ 8)) = B := ⟨_, rfl⟩
  rw [hB7]
  rw [hB7] at H7
  clear hB7
  obtain ⟨E, hE⟩ : ∃ E, eqT t (tn3 t) = E := ⟨_, rfl⟩
  rw [hE] at heq0 ⊢
  unfold trD tn3 at heq0
  simp only at heq0
  unfold trD
  rw [hk] at heq0 ⊢
  have heq : ∀ w, (binOp .eql 51 (.agg #[.int .i64 3, .int .i64 t.a, .int .i64 t.b, .int .u64 t.x, .int .u64 t.y, .int .i64 t.day, .int .i64 t.to, .int .i64 t.cur, .int .i64 t.count, .int .i64 t.n, .int .i64 t.months]) (.agg #[.int .i64 3, .int .i64 t.a, .int .i64 t.b, .int .u64 t.x, .int .u64 t.y, .int .i64 t.day, .int .i64 t.to, .int .i64 t.cur, .int .i64 t.count, .int .i64 t.n, .int .i64 0])).run Tryz.prog w = .ok (.bool E) w := heq0
  clear heq0
  clear hE hux huy
  have HB : Hid (Below w.heap.size w ((w.alloc (.cells #[.int .i64 3, .int .i64 t.a, .int .i64 t.b, .int .u64 t.x, .int .u64 t.y, .int .i64 t.day, .int .i64 t.to, .int .i64 t.cur, .int .i64 t.count, .int .i64 t.n, .int .i64 t.months] 51)).alloc (.cells #[.int .i64 3, .int .i64 t.a, .int .i64 t.b, .int .u64 t.x, .int .u64 t.y, .int .i64 t.day, .int .i64 t.to, .int .i64 t.cur, .int .i64 t.count, .int .i64 t.n, .int .i64 0] 51))) := ((Below.refl _ _).alloc (Nat.le_refl _) _).alloc (by simp) _
  cases E
  · go_enter Tryz.func32, Tryz.ntmps32
    go_wp2_with fail
    go_ret
    exact ⟨rfl, HB.out⟩
  cases B0
  · go_enter Tryz.func32, Tryz.ntmps32
    go_wp2_with fail
    refine (H0.out _).mono ?_
    rintro e w' ⟨rfl, rfl⟩
    go_wp2_with fail
    go_ret
    exact ⟨rfl, HB.out⟩
  cases B1
  · go_enter Tryz.func32, Tryz.ntmps32
    go_wp2_with fail
    refine (H0.out _).mono ?_
    rintro e w' ⟨rfl, rfl⟩
    go_wp2_with fail
    refine (H1.out _).mono ?_
    rintro e w' ⟨rfl, rfl⟩
    go_wp2_with fail
    go_ret
    exact ⟨rfl, HB.out⟩
  cases B2
  · go_enter Tryz.func32, Tryz.ntmps32
    go_wp2_with fail
    refine (H0.out _).mono ?_
    rintro e w' ⟨rfl, rfl⟩
    go_wp2_with fail
    refine (H1.out _).mono ?_
    rintro e w' ⟨rfl, rfl⟩
    go_wp2_with fail
    refine (H2.out _).mono ?_
    rintro e w' ⟨rfl, rfl⟩
    go_wp2_with fail
    go_ret
    exact ⟨rfl, HB.out⟩
  cases B3
  · go_enter Tryz.func32, Tryz.ntmps32
    go_wp2_with fail
    refine (H0.out _).mono ?_
    rintro e w' ⟨rfl, rfl⟩
    go_wp2_with fail
    refine (H1.out _).mono ?_
    rintro e w' ⟨rfl, rfl⟩
    go_wp2_with fail
    refine (H2.out _).mono ?_
    rintro e w' ⟨rfl, rfl⟩
    go_wp2_with fail
    refine (H3.out _).mono ?_
    rintro e w' ⟨rfl, rfl⟩
    go_wp2_with fail
    go_ret
    exact ⟨rfl, HB.out⟩
  cases B4
  · go_enter Tryz.func32, Tryz.ntmps32
    go_wp2_with fail
    refine (H0.out _).mono ?_
    rintro e w' ⟨rfl, rfl⟩
    go_wp2_with fail
    refine (H1.out _).mono ?_
    rintro e w' ⟨rfl, rfl⟩
    go_wp2_with fail
    refine (H2.out _).mono ?_
    rintro e w' ⟨rfl, rfl⟩
    go_wp2_with fail
    refine (H3.out _).mono ?_
    rintro e w' ⟨rfl, rfl⟩
    go_wp2_with fail
    refine (H4.out _).mono ?_
    rintro e w' ⟨rfl, rfl⟩
    go_wp2_with fail
    go_ret
    exact ⟨rfl, HB.out⟩
  cases B5
  · go_enter Tryz.func32, Tryz.ntmps32
    go_wp2_with fail
    refine (H0.out _).mono ?_
    rintro e w' ⟨rfl, rfl⟩
    go_wp2_with fail
    refine (H1.out _).mono ?_
    rintro e w' ⟨rfl, rfl⟩
    go_wp2_with fail
    refine (H2.out _).mono ?_
    rintro e w' ⟨rfl, rfl⟩
    go_wp2_with fail
    refine (H3.out _).mono ?_
    rintro e w' ⟨rfl, rfl⟩
    go_wp2_with fail
    refine (H4.out _).mono ?_
    rintro e w' ⟨rfl, rfl⟩
    go_wp2_with fail
    go_ret
    exact ⟨rfl, HB.out⟩
  cases B6
  · go_enter Tryz.func32, Tryz.ntmps32
    go_wp2_with fail
    refine (H0.out _).mono ?_
    rintro e w' ⟨rfl, rfl⟩
    go_wp2_with fail
    refine (H1.out _).mono ?_
    rintro e w' ⟨rfl, rfl⟩
    go_wp2_with fail
    refine (H2.out _).mono ?_
    rintro e w' ⟨rfl, rfl⟩
    go_wp2_with fail
    refine (H3.out _).mono ?_
    rintro e w' ⟨rfl, rfl⟩
    go_wp2_with fail
    refine (H4.out _).mono ?_
    rintro e w' ⟨rfl, rfl⟩
    go_wp2_with fail
    refine (H6.out _).mono ?_
    rintro e w' ⟨rfl, rfl⟩
    go_wp2_with fail
    go_ret
    exact ⟨rfl, HB.out⟩
  go_enter Tryz.func32, Tryz.ntmps32
  go_wp2_with fail
  refine (H0.out _).mono ?_
  rintro e w' ⟨rfl, rfl⟩
  go_wp2_with fail
  refine (H1.out _).mono ?_
  rintro e w' ⟨rfl, rfl⟩
  go_wp2_with fail
  refine (H2.out _).mono ?_
  rintro e w' ⟨rfl, rfl⟩
  go_wp2_with fail
  refine (H3.out _).mono ?_
  rintro e w' ⟨rfl, rfl⟩
  go_wp2_with fail
  refine (H4.out _).mono ?_
  rintro e w' ⟨rfl, rfl⟩
  go_wp2_with fail
  refine (H6.out _).mono ?_
  rintro e w' ⟨rfl, rfl⟩
  go_wp2_with fail
  refine (H7.out _).mono ?_
  rintro e w' ⟨rfl, rfl⟩
  go_wp2_with fail
  go_ret
  exact ⟨rfl, HB.out⟩
end Go.Proofs.YtiiajhomdpfafaaGreatDoor
namespace Go.Proofs.YtiiajhomdpfafaaGreatDoor
open Go.RowKit

def fldB (t : Trm) : Bool :=
  if t.kind = 1 then eqT t (tn1 t)
  else if t.kind = 2 then eqT t (tn2 t) && finB t.x && (decide (1 ≤ t.cur) && decide (t.cur ≤ 8)) && (decide (0 ≤ t.day) && decide (t.day ≤ 109572))
  else if t.kind = 3 then eqT t (tn3 t) && finB t.x && finB t.y && (decide (1 ≤ t.count) && decide (t.count ≤ 5)) && (decide (0 ≤ t.day) && decide (t.day ≤ 109572)) && (decide (0 ≤ t.to) && decide (t.to ≤ 109572)) && decide (t.day < t.to) && (decide (1 ≤ t.n) && decide (t.n ≤ 1200)) && (decide (1 ≤ t.cur) && decide (t.cur ≤ 8))
  else if t.kind = 4 then eqT t (tn4 t)
  else if t.kind = 5 then eqT t (tn5 t)
  else if t.kind = 6 then eqT t (tn6 t) && finB t.x
  else if t.kind = 7 then eqT t (tn7 t) && (decide (0 ≤ t.day) && decide (t.day ≤ 109572)) && (decide (0 ≤ t.to) && decide (t.to ≤ 109572))
  else if t.kind = 8 then eqT t (tn8 t) && (decide (1 ≤ t.n) && decide (t.n ≤ 4096)) && (decide (1 ≤ t.months) && decide (t.months ≤ 1200))
  else false
theorem flds_any (t : Trm) (hx : U64 t.x) (hy : U64 t.y) (w : World) : Calls Tryz.prog 32 #[.agg (trD t)] w fun e w' => e = .returned (.bool (fldB t)) ∧ Below w.heap.size w w' := by
  unfold fldB
  split
  · rename_i h; exact flds_1 t h w
  split
  · rename_i h; exact flds_2 t h hx w
  split
  · rename_i h; exact flds_3 t h hx hy w
  split
  · rename_i h; exact flds_4 t h w
  split
  · rename_i h; exact flds_5 t h w
  split
  · rename_i h; exact flds_6 t h hx w
  split
  · rename_i h; exact flds_7 t h w
  split
  · rename_i h; exact flds_8 t h w
  · exact flds_no t (by omega) w
end Go.Proofs.YtiiajhomdpfafaaGreatDoor
namespace Go.Proofs.YtiiajhomdpfafaaGreatDoor
open Go.RowKit

theorem ord_00 : (FloatKind.f64.format.order 0 0 == some .eq) = true := by decide +kernel
end Go.Proofs.YtiiajhomdpfafaaGreatDoor
namespace Go.Proofs.YtiiajhomdpfafaaGreatDoor
open Go.RowKit

def psG (i : Nat) : List Nat := [[], [3, 7, 5], [3, 4, 8, 5, 6, 9, 7], [], [], [3], [5, 6], [9, 10]].getD i []
def ptN (k : Int) : Nat := if k = 5 then 2 else if 4 ≤ k ∧ k ≤ 8 then 1 else 0
def abZ (t : Trm) : Bool := if ptN t.kind = 2 then true else if ptN t.kind = 1 then t.b == 0 else t.a == 0 && t.b == 0
def fitT (t : Trm) : Bool := fldB t && abZ t
theorem pt_kd {ix : Nat} (h : ix < 8) : (kdG ix).parts = ((ptN ((ix : Int) + 1) : Nat) : Int) := by
  rcases (show ix = 0 ∨ ix = 1 ∨ ix = 2 ∨ ix = 3 ∨ ix = 4 ∨ ix = 5 ∨ ix = 6 ∨ ix = 7 by omega) with rfl | rfl | rfl | rfl | rfl | rfl | rfl | rfl <;> rfl
theorem ps_len {ix : Nat} (h : ix < 8) : (psG ix).length = (kdG ix).ds.length := by
  rcases (show ix = 0 ∨ ix = 1 ∨ ix = 2 ∨ ix = 3 ∨ ix = 4 ∨ ix = 5 ∨ ix = 6 ∨ ix = 7 by omega) with rfl | rfl | rfl | rfl | rfl | rfl | rfl | rfl <;> rfl
theorem ps_in {ix : Nat} (h : ix < 8) : ∀ j < (psG ix).length, 3 ≤ (psG ix).getD j 0 ∧ (psG ix).getD j 0 ≤ 10 := by
  rcases (show ix = 0 ∨ ix = 1 ∨ ix = 2 ∨ ix = 3 ∨ ix = 4 ∨ ix = 5 ∨ ix = 6 ∨ ix = 7 by omega) with rfl | rfl | rfl | rfl | rfl | rfl | rfl | rfl <;> decide
theorem ds_len {ix : Nat} (h : ix < 8) : (kdG ix).ds.length ≤ 7 := by
  rcases (show ix = 0 ∨ ix = 1 ∨ ix = 2 ∨ ix = 3 ∨ ix = 4 ∨ ix = 5 ∨ ix = 6 ∨ ix = 7 by omega) with rfl | rfl | rfl | rfl | rfl | rfl | rfl | rfl <;> decide
theorem fdI_Y : fdI fdY 4 := ⟨acF3, Or.inr rfl⟩
theorem fdI_Count : fdI fdCount 8 := ⟨acF4, by decide, by decide⟩
theorem fdI_To : fdI fdTo 6 := ⟨acF6, by decide, by decide⟩
theorem fdI_Beh : fdI fdBeh 6 := ⟨acF6, rfl⟩
theorem fdI_N1200 : fdI fdN1200 9 := ⟨acF1, by decide, by decide⟩
theorem fdI_N4096 : fdI fdN4096 9 := ⟨acF1, by decide, by decide⟩
theorem fdI_Mon : fdI fdMon 10 := ⟨acF8, by decide, by decide⟩
theorem fdI_G {ix : Nat} (h : ix < 8) : ∀ j (hj : j < (kdG ix).ds.length), fdI (kdG ix).ds[j] ((psG ix).getD j 0) := by
  rcases (show ix = 0 ∨ ix = 1 ∨ ix = 2 ∨ ix = 3 ∨ ix = 4 ∨ ix = 5 ∨ ix = 6 ∨ ix = 7 by omega) with rfl | rfl | rfl | rfl | rfl | rfl | rfl | rfl <;> intro j hj
  · exact absurd hj (by show ¬ j < 0; omega)
  · rcases (show j = 0 ∨ j = 1 ∨ j = 2 by have : j < 3 := hj; omega) with rfl | rfl | rfl
    · exact fdI_X
    · exact fdI_Cur
    · exact fdI_From
  · rcases (show j = 0 ∨ j = 1 ∨ j = 2 ∨ j = 3 ∨ j = 4 ∨ j = 5 ∨ j = 6 by have : j < 7 := hj; omega) with rfl | rfl | rfl | rfl | rfl | rfl | rfl
    · exact fdI_X
    · exact fdI_Y
    · exact fdI_Count
    · exact fdI_From
    · exact fdI_Beh
    · exact fdI_N1200
    · exact fdI_Cur
  · exact absurd hj (by show ¬ j < 0; omega)
  · exact absurd hj (by show ¬ j < 0; omega)
  · obtain rfl : j = 0 := by have : j < 1 := hj; omega
    exact fdI_X
  · rcases (show j = 0 ∨ j = 1 by have : j < 2 := hj; omega) with rfl | rfl
    · exact fdI_From
    · exact fdI_To
  · rcases (show j = 0 ∨ j = 1 by have : j < 2 := hj; omega) with rfl | rfl
    · exact fdI_N4096
    · exact fdI_Mon
set_option maxRecDepth 20000 in
set_option maxHeartbeats 3200000 in
theorem fit_tree (t : Trm) {ix : Nat} (h : ix < 8) (hk : t.kind = (ix : Int) + 1) : fitK (kdG ix) (psG ix) t = fitT t := by
  have o0 : FloatKind.f64.format.order 0 0 = some .eq := eq_of_beq ord_00
  rcases (show ix = 0 ∨ ix = 1 ∨ ix = 2 ∨ ix = 3 ∨ ix = 4 ∨ ix = 5 ∨ ix = 6 ∨ ix = 7 by omega) with rfl | rfl | rfl | rfl | rfl | rfl | rfl | rfl
  · have hk' : t.kind = 1 := by omega
    obtain ⟨k, a, b, x, y, day, to, cur, count, n, months⟩ := t
    dsimp only at hk'
    subst hk'
    rw [Bool.eq_iff_iff]
    simp only [fitK, kdG, kdL, kdZero, List.getD_cons_zero, psG, fitT, fldB, abZ, ptN, restB, restT]
    simp [fdFit, fdX, xAt, clrL, eqF, numT, eqT, tn1]
    clear hk h
    constructor <;> intro h <;> simp_all
  · have hk' : t.kind = 2 := by omega
    obtain ⟨k, a, b, x, y, day, to, cur, count, n, months⟩ := t
    dsimp only at hk'
    subst hk'
    rw [Bool.eq_iff_iff]
    simp only [fitK, kdG, kdL, kdPay, List.getD_cons_zero, List.getD_cons_succ, psG, fitT, fldB, abZ, ptN, restB, restT]
    simp [List.range_succ, fdFit, fdX, fdFrom, fdCur, xAt, tAt, clrL, clrT, eqF, numT, eqT, tn2]
    clear hk h
    constructor <;> intro h <;> simp_all
  · have hk' : t.kind = 3 := by omega
    obtain ⟨k, a, b, x, y, day, to, cur, count, n, months⟩ := t
    dsimp only at hk'
    subst hk'
    rw [Bool.eq_iff_iff]
    simp only [fitK, kdG, kdL, kdFixed, List.getD_cons_zero, List.getD_cons_succ, psG, fitT, fldB, abZ, ptN, restB, restT]
    simp [List.range_succ, fdFit, fdX, fdY, fdCount, fdFrom, fdBeh, fdCur, fdN1200, xAt, tAt, clrL, clrT, eqF, numT, eqT, tn3]
    clear hk h
    constructor <;> intro h <;> simp_all
  · have hk' : t.kind = 4 := by omega
    obtain ⟨k, a, b, x, y, day, to, cur, count, n, months⟩ := t
    dsimp only at hk'
    subst hk'
    rw [Bool.eq_iff_iff]
    simp only [fitK, kdG, kdL, kdGive, List.getD_cons_zero, List.getD_cons_succ, psG, fitT, fldB, abZ, ptN, restB, restT]
    simp [fdFit, fdX, xAt, clrL, eqF, numT, eqT, tn4]
    clear hk h
    constructor <;> intro h <;> simp_all
  · have hk' : t.kind = 5 := by omega
    obtain ⟨k, a, b, x, y, day, to, cur, count, n, months⟩ := t
    dsimp only at hk'
    subst hk'
    rw [Bool.eq_iff_iff]
    simp only [fitK, kdG, kdL, kdBoth, List.getD_cons_zero, List.getD_cons_succ, psG, fitT, fldB, abZ, ptN, restB, restT]
    simp [fdFit, fdX, xAt, clrL, eqF, numT, eqT, tn5]
    clear hk h
    constructor <;> intro h <;> simp_all
  · have hk' : t.kind = 6 := by omega
    obtain ⟨k, a, b, x, y, day, to, cur, count, n, months⟩ := t
    dsimp only at hk'
    subst hk'
    rw [Bool.eq_iff_iff]
    simp only [fitK, kdG, kdL, kdScale, List.getD_cons_zero, List.getD_cons_succ, psG, fitT, fldB, abZ, ptN, restB, restT]
    simp [List.range_succ, fdFit, fdX, xAt, tAt, clrL, clrT, eqF, numT, eqT, tn6]
    clear hk h
    constructor <;> intro h <;> simp_all
  · have hk' : t.kind = 7 := by omega
    obtain ⟨k, a, b, x, y, day, to, cur, count, n, months⟩ := t
    dsimp only at hk'
    subst hk'
    rw [Bool.eq_iff_iff]
    simp only [fitK, kdG, kdL, kdWindow, List.getD_cons_zero, List.getD_cons_succ, psG, fitT, fldB, abZ, ptN, restB, restT]
    simp [List.range_succ, fdFit, fdX, fdFrom, fdTo, xAt, tAt, clrL, clrT, eqF, numT, eqT, tn7]
    clear hk h
    constructor <;> intro h <;> simp_all
  · have hk' : t.kind = 8 := by omega
    obtain ⟨k, a, b, x, y, day, to, cur, count, n, months⟩ := t
    dsimp only at hk'
    subst hk'
    rw [Bool.eq_iff_iff]
    simp only [fitK, kdG, kdL, kdRepeat, List.getD_cons_zero, List.getD_cons_succ, psG, fitT, fldB, abZ, ptN, restB, restT]
    simp [List.range_succ, fdFit, fdX, fdN4096, fdMon, xAt, tAt, clrL, clrT, eqF, numT, eqT, tn8]
    clear hk h
    constructor <;> intro h <;> simp_all
end Go.Proofs.YtiiajhomdpfafaaGreatDoor
