/- The walk of FlowLent. -/
import Derived.Test.YteglnchcnacjlaaGreatHbi
import Derived.Test.YteglnchcnacjlaaGreatHbg
import Derived.Test.YteglnchcnacjlaaGreatHav
import Derived.Test.YteglnchcnacjlaaGreatFFlw
import Derived.Laws.StructEq
namespace Go.Proofs.YteglnchcnacjlaaGreat
open Go.RowKit

def f77 : Flw := ⟨-7, 4665189353746595840, 99⟩
theorem one_srcJ (w : World) : JSrc aF (w.alloc (.cells #[.int .i64 (-7), .float .f64 4665189353746595840, .int .i64 99] 29)) (some ⟨w.heap.size, 0, none⟩) w.heap.size 0 [f77] :=
  ⟨fun _ => rfl, fun _ => by simp, fun i hi => by
    obtain rfl : i = 0 := by simp at hi; exact hi
    exact ⟨by simp [f77], by simp [f77, aF], by simp [f77]⟩⟩
theorem src_head {w : World} {p : Option Addr} {g : Nat} {l : List Flw} {f : Flw} (h : JSrc aF w p g 0 (l ++ [f])) : JSrc aF w p g 0 l :=
  ⟨fun hx => h.at_ (by simp), fun hx => h.lt (by simp), fun i hi => by
    have c := h.cell i (by rw [List.length_append]; omega)
    have e : (l ++ [f]).getD i flw0 = l.getD i flw0 := by rw [List.getD_eq_getElem?_getD, List.getElem?_append_left hi, ← List.getD_eq_getElem?_getD]
    rw [e] at c; exact c⟩
structure Kp (l : List Flw) (go co N : Nat) (vd : Value) (A : Nat) (w : World) : Prop where
  own : JSrc aF w (some ⟨go, 0, none⟩) go 0 (l ++ [f77])
  lt : go < A
  doc : JD w vd l
  dlt : ∀ b, vd.ownBlock = some b → b < A
theorem Kp.jl {l : List Flw} {go co N A : Nat} {vd : Value} {w : World} (h : Kp l go co N vd A w) (hN : l.length = N) : JL w (.slice (some ⟨go, 0, none⟩) N co) l := ⟨_, go, 0, co, by rw [hN], src_head h.own⟩
theorem Kp.stay {l : List Flw} {go co N A : Nat} {vd : Value} {w w' : World} (h : Kp l go co N vd A w) (hb : Below A w w') : Kp l go co N vd A w' := by
  obtain ⟨p, g, c, rfl, hs⟩ := h.doc.ex
  refine ⟨h.own.stay hb (fun _ => h.lt), h.lt, ⟨p, g, c, rfl, hs.stay hb (fun h0 => ?_)⟩, h.dlt⟩
  have := hs.at_ h0
  subst this
  exact h.dlt g rfl
theorem fl_h1 : Tryz.prog.stoodInHeld 29 = false := by kernel_rfl
theorem fl_h2 : Tryz.prog.underlying 29 = some (.struct (Tryz.prog.fieldsOf 29)) := by kernel_rfl
theorem fl_hf : (Tryz.prog.fieldsOf 29).toList = [(Tryz.prog.fieldsOf 29)[0]!, (Tryz.prog.fieldsOf 29)[1]!, (Tryz.prog.fieldsOf 29)[2]!] := by kernel_rfl
theorem fl_t0 : (Tryz.prog.fieldsOf 29)[0]!.type = 3 := by kernel_rfl
theorem fl_p0 (d : Int) (a : Nat) (e : Int) (w : World) : (part (Tryz.prog.fieldsOf 29)[0]!.type #[.int .i64 d, .float .f64 a, .int .i64 e] (Tryz.prog.fieldsOf 29)[0]!.offset).run Tryz.prog w = .ok (.int .i64 d) w := by kernel_rfl
theorem fl_p1 (d : Int) (a : Nat) (e : Int) (w : World) : (part (Tryz.prog.fieldsOf 29)[1]!.type #[.int .i64 d, .float .f64 a, .int .i64 e] (Tryz.prog.fieldsOf 29)[1]!.offset).run Tryz.prog w = .ok (.float .f64 a) w := by kernel_rfl
theorem fl_p2 (d : Int) (a : Nat) (e : Int) (w : World) : (part (Tryz.prog.fieldsOf 29)[2]!.type #[.int .i64 d, .float .f64 a, .int .i64 e] (Tryz.prog.fieldsOf 29)[2]!.offset).run Tryz.prog w = .ok (.int .i64 e) w := by kernel_rfl
theorem fl_e0 (d : Int) (w : World) : (Op.equalIn 9999 (Tryz.prog.fieldsOf 29)[0]!.type (.int .i64 d) (.int .i64 d)).run Tryz.prog w = .ok true w := by
  rw [show (9999 : Nat) = 9998 + 1 from rfl, fl_t0, run_equalIn_int w 9998 3 .i64 .i64 d d (by kernel_rfl)]; simp
theorem fl_e1 (w : World) : (Op.equalIn 9999 (Tryz.prog.fieldsOf 29)[1]!.type (.float .f64 0) (.float .f64 0)).run Tryz.prog w = .ok true w := by kernel_rfl
theorem fl_e2 (w : World) : (Op.equalIn 9999 (Tryz.prog.fieldsOf 29)[2]!.type (.int .i64 0) (.int .i64 0)).run Tryz.prog w = .ok true w := by kernel_rfl
theorem neqFl (d : Int) (w : World) : (binOp .neq 29 (.agg #[.int .i64 d, .float .f64 0, .int .i64 0]) (.agg #[.int .i64 d, .float .f64 0, .int .i64 0])).run Tryz.prog w = .ok (.bool false) w := by
  rw [run_neq_struct, show (10000 : Nat) = 9999 + 1 from rfl, run_equalIn_agg w 9999 29 _ _ fl_h2 fl_h1, fl_hf]
  simp [Op.eqFields, Sem.run_bind, fl_p0, fl_p1, fl_p2, fl_e0, fl_e1, fl_e2]
theorem eqlF77 (w : World) : (binOp .eql 29 (.agg #[.int .i64 (-7), .float .f64 4665189353746595840, .int .i64 99]) (.agg #[.int .i64 (-7), .float .f64 4665189353746595840, .int .i64 99])).run Tryz.prog w = .ok (.bool true) w := by kernel_rfl
structure Bg (A : Nat) (lo hi : Nat → Nat) (vs : Nat → Value) (gf : Nat) (M : Nat → List Flw) (gs : Nat) (v0 v1 v2 v3 v4 : Value) (l : List Flw) (go co N : Nat) (vd d1 d3 d4 : Value) (w0 w : World) : Prop where
  f : Fv A lo hi vs gf (mst M 5 0) w
  lt : gs < w.heap.size
  r0 : w.cell? ⟨gs, 0, none⟩ = some v0
  r1 : w.cell? ⟨gs, 1, none⟩ = some v1
  r2 : w.cell? ⟨gs, 2, none⟩ = some v2
  r3 : w.cell? ⟨gs, 3, none⟩ = some v3
  r4 : w.cell? ⟨gs, 4, none⟩ = some v4
  s0 : JL w v0 (M 0)
  s1 : JL w v1 (M 1)
  s2 : JL w v2 (M 2)
  s3 : JL w v3 (M 3)
  s4 : JL w v4 (M 4)
  k : Kp l go co N vd A w
  e1 : JD w d1 (M 1)
  e3 : JD w d3 (M 3)
  e4 : JD w d4 (M 4)
  bl : Below w0.heap.size w0 w
theorem Bg.step {A : Nat} {lo hi : Nat → Nat} {vs : Nat → Value} {gf : Nat} {M : Nat → List Flw} {gs : Nat} {v0 v1 v2 v3 v4 : Value} {l : List Flw} {go co N : Nat} {vd d1 d3 d4 : Value} {w0 w w' : World} (h : Bg A lo hi vs gf M gs v0 v1 v2 v3 v4 l go co N vd d1 d3 d4 w0 w) (hb : Below w.heap.size w w') : Bg A lo hi vs gf M gs v0 v1 v2 v3 v4 l go co N vd d1 d3 d4 w0 w' :=
  ⟨h.f.below hb, Nat.lt_of_lt_of_le h.lt hb.size, (hb.cell (p := ⟨gs, 0, none⟩) h.lt).trans h.r0, (hb.cell (p := ⟨gs, 1, none⟩) h.lt).trans h.r1, (hb.cell (p := ⟨gs, 2, none⟩) h.lt).trans h.r2, (hb.cell (p := ⟨gs, 3, none⟩) h.lt).trans h.r3, (hb.cell (p := ⟨gs, 4, none⟩) h.lt).trans h.r4, h.s0.below hb, h.s1.below hb, h.s2.below hb, h.s3.below hb, h.s4.below hb, h.k.stay (hb.mono (Nat.le_trans h.f.up (Nat.le_of_lt h.f.lt))), h.e1.below hb, h.e3.below hb, h.e4.below hb, h.bl.trans (hb.mono h.bl.size)⟩
end Go.Proofs.YteglnchcnacjlaaGreat
