/- Package deal: the kinds' table in memory, and the operations that make it, each alone. Package deal: the slices that the table is made of. Package deal: the table of kinds is made, whatever order its parts are made in. Package deal: the table of kinds. -/
import Derived.Test.YtiiajhomdpfafaaGreatDoorDkA
import Derived.Test.YtiiajhomdpfafaaGreatDoorDqR
import Derived.Great.BuildSlice
namespace Go.Proofs.YtiiajhomdpfafaaGreatDoor
open Go.RowKit

inductive Fd where
  | num (f : Nat)
  | who (f : Nat) (lo hi : Int) (rd wr : Nat)
  | beh (f : Nat) (lo hi : Int) (rd wr : Nat)
def fit2V (b : Nat) : Value := .func (.func 114) #[] #[ptB (b + 1), ptB b, ptB (b + 2)]
def FdAt (d : Fd) (v : Value) (w : World) : Prop :=
  match d with
  | .num f => ∃ b, v = numV b ∧ w.heap[b]? = some (.cells #[fnB f] 101)
  | .who f lo hi rd wr => ∃ b, v = whoV b ∧ WhoB b f lo hi rd wr w
  | .beh f lo hi rd wr => ∃ b d, v = behV b d ∧ WhoB b f lo hi rd wr w ∧ w.heap[d]? = some (.cells #[fit2V b] 85)
theorem FdAt.below {d : Fd} {v : Value} {w w' : World} (h : FdAt d v w) (hb : Below w.heap.size w w') : FdAt d v w' := by
  cases d with
  | num f => obtain ⟨b, e, h⟩ := h; exact ⟨b, e, (hb.block _ (lt_of_blk h)).trans h⟩
  | who f lo hi rd wr => obtain ⟨b, e, h⟩ := h; exact ⟨b, e, h.below hb⟩
  | beh f lo hi rd wr => obtain ⟨b, d, e, h, h2⟩ := h; exact ⟨b, d, e, h.below hb, (hb.block _ (lt_of_blk h2)).trans h2⟩
theorem FdAt.agg {d : Fd} {v : Value} {w : World} (h : FdAt d v w) : ∃ c0 c1 c2 c3, v = .agg #[c0, c1, c2, c3] := by
  cases d with
  | num f => obtain ⟨b, rfl, h⟩ := h; exact ⟨_, _, _, _, rfl⟩
  | who f lo hi rd wr => obtain ⟨b, rfl, h⟩ := h; exact ⟨_, _, _, _, rfl⟩
  | beh f lo hi rd wr => obtain ⟨b, d, rfl, h⟩ := h; exact ⟨_, _, _, _, rfl⟩
def FldsAt (ds : List Fd) (v : Value) (w : World) : Prop := ∃ h : Nat, ∃ vs : List Value, v = .slice (some ⟨h, 0, none⟩) ds.length ds.length ∧ w.heap[h]? = some (.cells (vs.flatMap (fun v => v.cells.toList)).toArray 98) ∧ vs.length = ds.length ∧ ∀ i (hi : i < ds.length), FdAt ds[i] (vs.getD i undef) w
theorem FldsAt.below {ds : List Fd} {v : Value} {w w' : World} (h : FldsAt ds v w) (hb : Below w.heap.size w w') : FldsAt ds v w' := by
  obtain ⟨h, vs, e, hh, hl, ha⟩ := h
  exact ⟨h, vs, e, (hb.block _ (lt_of_blk hh)).trans hh, hl, fun i hi => (ha i hi).below hb⟩
structure Kd where
  num : Int
  word : ByteArray
  ds : List Fd
  parts : Int
  mean : Nat
def SlcAt (ds : List Fd) (u : Value) (w : World) : Prop := (ds = [] ∧ u = .slice none 0 0) ∨ (0 < ds.length ∧ FldsAt ds u w)
theorem SlcAt.below {ds : List Fd} {v : Value} {w w' : World} (h : SlcAt ds v w) (hb : Below w.heap.size w w') : SlcAt ds v w' := h.imp id fun h => ⟨h.1, h.2.below hb⟩
def kdC (k : Kd) (u : Value) : Array Value := #[.int .i64 k.num, .string k.word, u, .int .i64 k.parts, fnB k.mean]
def KdAt (k : Kd) (v : Value) (w : World) : Prop := ∃ u, v = .agg (kdC k u) ∧ SlcAt k.ds u w
theorem KdAt.below {k : Kd} {v : Value} {w w' : World} (h : KdAt k v w) (hb : Below w.heap.size w w') : KdAt k v w' := by
  obtain ⟨u, e, h⟩ := h
  exact ⟨u, e, h.below hb⟩
def TabAt (ks : List Kd) (v : Value) (w : World) : Prop := ∃ h : Nat, ∃ us : List Value, v = .slice (some ⟨h, 0, none⟩) ks.length ks.length ∧ us.length = ks.length ∧ w.heap[h]? = some (.cells ((ks.zip us).flatMap (fun x => (kdC x.1 x.2).toList)).toArray 65) ∧ ∀ i (hi : i < ks.length), SlcAt ks[i].ds (us.getD i undef) w
theorem TabAt.below {ks : List Kd} {v : Value} {w w' : World} (h : TabAt ks v w) (hb : Below w.heap.size w w') : TabAt ks v w' := by
  obtain ⟨h, vs, e, hl, hh, ha⟩ := h
  exact ⟨h, vs, e, hl, (hb.block _ (lt_of_blk hh)).trans hh, fun i hi => (ha i hi).below hb⟩
inductive Sp where
  | val (v : Value)
  | fd (d : Fd)
  | fds (ds : List Fd)
  | kd (k : Kd)
  | tab (ks : List Kd)
def Sp.At : Sp → Value → World → Prop
  | .val u, v, _ => v = u
  | .fd d, v, w => FdAt d v w
  | .fds ds, v, w => FldsAt ds v w
  | .kd k, v, w => KdAt k v w
  | .tab ks, v, w => TabAt ks v w
theorem Sp.At.below {s : Sp} {v : Value} {w w' : World} (h : s.At v w) (hb : Below w.heap.size w w') : s.At v w' := by
  cases s with
  | val u => exact h
  | fd d => exact FdAt.below h hb
  | fds ds => exact FldsAt.below h hb
  | kd k => exact KdAt.below h hb
  | tab ks => exact TabAt.below h hb
section
variable {ops : Array Oper} {Q : Exit → Act → World → Prop} {K : Act → World → Prop} {o : Oper} {a : Act} {w : World}
theorem stpR {i : Nat} (ho : ops[i]? = some o) (hg : o.guard = none) (h : o.wp Tryz.prog a w K Q) : wpOp Tryz.prog ops Q i K a w := by
  unfold wpOp
  rw [ho]
  show if Region.wanted o (yielded ops a.tmps) = true then _ else _
  rw [if_pos (by simp [Region.wanted, hg])]
  exact .inl h
theorem ldR {x : Operand} {g : Nat} {c0 c1 c2 c3 : Value} (hop : o.op = .load 98 x) (hx : a.eval x = ptB g) (hb : w.heap[g]? = some (.cells #[c0, c1, c2, c3] 98)) (h : K (a.put o.dst (.agg #[c0, c1, c2, c3])) w) : o.wp Tryz.prog a w K Q := by
  obtain ⟨q0, q1, q2, q3⟩ := cellF_of hb
  unfold Oper.wp execOp
  rw [hop]
  unfold ptB at hx
  simp only [hx]
  simp [go_sem, q0, q1, q2, q3]
  exact h
theorem mvR {x : Operand} (hop : o.op = .move x) (h : K (a.put o.dst (a.eval x)) w) : o.wp Tryz.prog a w K Q := by
  unfold Oper.wp execOp
  rw [hop]
  exact h
theorem asR {x : Operand} (hop : o.op = .assign x) (h : K (a.put o.dst (a.eval x)) w) : o.wp Tryz.prog a w K Q := by
  unfold Oper.wp execOp
  rw [hop]
  exact h
theorem bkR {x : Operand} (k : Kd) (hop : o.op = .build 65 #[(0, .const (.int .i64 k.num)), (1, .const (.string k.word)), (2, x), (3, .const (.int .i64 k.parts)), (4, .func k.mean)]) {p : Option Addr} {n c : Nat} (hx : a.eval x = .slice p n c) (h : K (a.put o.dst (.agg (kdC k (.slice p n c)))) w) : o.wp Tryz.prog a w K Q := by
  unfold Oper.wp execOp
  rw [hop]
  simp only [List.map_toArray, List.map_cons, List.map_nil]
  rw [hx]
  have e0 : ∀ v, a.eval (.const v) = v := fun _ => rfl
  have e1 : ∀ f, a.eval (.func f) = .func (.func f) #[] #[] := fun _ => rfl
  rw [e0, e0, e0, e1]
  simp [go_sem]
  exact h
theorem clR {F : Nat} {args : Array Operand} {ts : Array TypeId} (hop : o.op = .call { callee := .value (.func F), args := args, argTypes := ts }) (he : ∀ xs w, (callFunc F xs).run Tryz.prog w = .ok (.enter F xs) w) (h : Calls Tryz.prog F (args.map a.eval) w fun e w' => ∃ v, e = .returned v ∧ K (a.put o.dst v) w') : o.wp Tryz.prog a w K Q := by
  unfold Oper.wp execOp
  rw [hop]
  have e1 : ∀ f, a.eval (.func f) = .func (.func f) #[] #[] := fun _ => rfl
  simp only [resolve, e1]
  simp [go_sem, Deferred.ofValue, invoke, he]
  refine h.mono ?_
  rintro e w' ⟨v, rfl, hk⟩
  exact hk
theorem enter_upTo (xs : Array Value) (w : World) : (callFunc 42 xs).run Tryz.prog w = .ok (.enter 42 xs) w := enterD Tryz.func42 (by kernel_rfl) rfl xs w
theorem enter_behind (xs : Array Value) (w : World) : (callFunc 47 xs).run Tryz.prog w = .ok (.enter 47 xs) w := enterD Tryz.func47 (by kernel_rfl) rfl xs w
end
end Go.Proofs.YtiiajhomdpfafaaGreatDoor
namespace Go.Proofs.YtiiajhomdpfafaaGreatDoor
open Go.RowKit

section
variable {ops : Array Oper} {Q : Exit → Act → World → Prop} {K : Act → World → Prop} {o : Oper} {a : Act} {w : World}
set_option maxRecDepth 20000 in
set_option maxHeartbeats 6400000 in
theorem bs1R {x0 : Operand} {c00 c01 c02 c03 : Value} (hop : o.op = .buildSlice 62 1 #[(0, x0)]) (h0 : a.eval x0 = .agg #[c00, c01, c02, c03])
    (h : K (a.put o.dst (.slice (some ⟨w.heap.size, 0, none⟩) 1 1)) (w.alloc (.cells #[c00, c01, c02, c03] 98))) : o.wp Tryz.prog a w K Q := by
  unfold Oper.wp execOp
  rw [hop]
  simp only [List.map_toArray, List.map_cons, List.map_nil]
  rw [h0]
  simp [go_sem]
  exact h
set_option maxRecDepth 20000 in
set_option maxHeartbeats 6400000 in
theorem bs2R {x0 x1 : Operand} {c00 c01 c02 c03 c10 c11 c12 c13 : Value} (hop : o.op = .buildSlice 62 2 #[(0, x0), (1, x1)]) (h0 : a.eval x0 = .agg #[c00, c01, c02, c03]) (h1 : a.eval x1 = .agg #[c10, c11, c12, c13])
    (h : K (a.put o.dst (.slice (some ⟨w.heap.size, 0, none⟩) 2 2)) (w.alloc (.cells #[c00, c01, c02, c03, c10, c11, c12, c13] 98))) : o.wp Tryz.prog a w K Q := by
  unfold Oper.wp execOp
  rw [hop]
  simp only [List.map_toArray, List.map_cons, List.map_nil]
  rw [h0, h1]
  simp [go_sem]
  exact h
set_option maxRecDepth 20000 in
set_option maxHeartbeats 6400000 in
theorem bs3R {x0 x1 x2 : Operand} {c00 c01 c02 c03 c10 c11 c12 c13 c20 c21 c22 c23 : Value} (hop : o.op = .buildSlice 62 3 #[(0, x0), (1, x1), (2, x2)]) (h0 : a.eval x0 = .agg #[c00, c01, c02, c03]) (h1 : a.eval x1 = .agg #[c10, c11, c12, c13]) (h2 : a.eval x2 = .agg #[c20, c21, c22, c23])
    (h : K (a.put o.dst (.slice (some ⟨w.heap.size, 0, none⟩) 3 3)) (w.alloc (.cells #[c00, c01, c02, c03, c10, c11, c12, c13, c20, c21, c22, c23] 98))) : o.wp Tryz.prog a w K Q := by
  unfold Oper.wp execOp
  rw [hop]
  simp only [List.map_toArray, List.map_cons, List.map_nil]
  rw [h0, h1, h2]
  simp [go_sem]
  exact h
set_option maxRecDepth 20000 in
set_option maxHeartbeats 6400000 in
theorem bs7R {x0 x1 x2 x3 x4 x5 x6 : Operand} {c00 c01 c02 c03 c10 c11 c12 c13 c20 c21 c22 c23 c30 c31 c32 c33 c40 c41 c42 c43 c50 c51 c52 c53 c60 c61 c62 c63 : Value} (hop : o.op = .buildSlice 62 7 #[(0, x0), (1, x1), (2, x2), (3, x3), (4, x4), (5, x5), (6, x6)]) (h0 : a.eval x0 = .agg #[c00, c01, c02, c03]) (h1 : a.eval x1 = .agg #[c10, c11, c12, c13]) (h2 : a.eval x2 = .agg #[c20, c21, c22, c23]) (h3 : a.eval x3 = .agg #[c30, c31, c32, c33]) (h4 : a.eval x4 = .agg #[c40, c41, c42, c43]) (h5 : a.eval x5 = .agg #[c50, c51, c52, c53]) (h6 : a.eval x6 = .agg #[c60, c61, c62, c63])
    (h : K (a.put o.dst (.slice (some ⟨w.heap.size, 0, none⟩) 7 7)) (w.alloc (.cells #[c00, c01, c02, c03, c10, c11, c12, c13, c20, c21, c22, c23, c30, c31, c32, c33, c40, c41, c42, c43, c50, c51, c52, c53, c60, c61, c62, c63] 98))) : o.wp Tryz.prog a w K Q := by
  unfold Oper.wp execOp
  rw [hop]
  simp only [List.map_toArray, List.map_cons, List.map_nil]
  rw [h0, h1, h2, h3, h4, h5, h6]
  simp [go_sem]
  exact h
set_option maxRecDepth 20000 in
set_option maxHeartbeats 6400000 in
theorem bsTR {x0 x1 x2 x3 x4 x5 x6 x7 : Operand} {k0 k1 k2 k3 k4 k5 k6 k7 : Kd} {u0 u1 u2 u3 u4 u5 u6 u7 : Value} (hop : o.op = .buildSlice 59 8 #[(0, x0), (1, x1), (2, x2), (3, x3), (4, x4), (5, x5), (6, x6), (7, x7)]) (h0 : a.eval x0 = .agg (kdC k0 u0)) (h1 : a.eval x1 = .agg (kdC k1 u1)) (h2 : a.eval x2 = .agg (kdC k2 u2)) (h3 : a.eval x3 = .agg (kdC k3 u3)) (h4 : a.eval x4 = .agg (kdC k4 u4)) (h5 : a.eval x5 = .agg (kdC k5 u5)) (h6 : a.eval x6 = .agg (kdC k6 u6)) (h7 : a.eval x7 = .agg (kdC k7 u7))
    (h : K (a.put o.dst (.slice (some ⟨w.heap.size, 0, none⟩) 8 8)) (w.alloc (.cells (([k0, k1, k2, k3, k4, k5, k6, k7].zip [u0, u1, u2, u3, u4, u5, u6, u7]).flatMap (fun x => (kdC x.1 x.2).toList)).toArray 65))) : o.wp Tryz.prog a w K Q := by
  unfold Oper.wp execOp
  rw [hop]
  simp only [List.map_toArray, List.map_cons, List.map_nil]
  rw [h0, h1, h2, h3, h4, h5, h6, h7]
  unfold kdC fnB
  simp [go_sem]
  exact h
end
end Go.Proofs.YtiiajhomdpfafaaGreatDoor
namespace Go.Proofs.YtiiajhomdpfafaaGreatDoor
open Go.RowKit

def fdX : Fd := .num 35
def fdY : Fd := .num 36
def fdCount : Fd := .who 38 1 5 78 79
def fdFrom : Fd := .who 40 0 109572 80 81
def fdTo : Fd := .who 41 0 109572 80 81
def fdCur : Fd := .who 43 1 8 82 83
def fdMon : Fd := .who 44 1 1200 82 83
def fdN1200 : Fd := .who 33 1 1200 82 83
def fdN4096 : Fd := .who 33 1 4096 82 83
def fdBeh : Fd := .beh 41 0 109572 80 81
def kdZero : Kd := ⟨1, ⟨#[122, 101, 114, 111]⟩, [], 0, 45⟩
def kdPay : Kd := ⟨2, ⟨#[112, 97, 121]⟩, [fdX, fdCur, fdFrom], 0, 46⟩
def kdFixed : Kd := ⟨3, ⟨#[102, 105, 120, 101, 100]⟩, [fdX, fdY, fdCount, fdFrom, fdBeh, fdN1200, fdCur], 0, 48⟩
def kdGive : Kd := ⟨4, ⟨#[103, 105, 118, 101]⟩, [], 1, 49⟩
def kdBoth : Kd := ⟨5, ⟨#[98, 111, 116, 104]⟩, [], 2, 50⟩
def kdScale : Kd := ⟨6, ⟨#[115, 99, 97, 108, 101]⟩, [fdX], 1, 51⟩
def kdWindow : Kd := ⟨7, ⟨#[119, 105, 110, 100, 111, 119]⟩, [fdFrom, fdTo], 1, 52⟩
def kdRepeat : Kd := ⟨8, ⟨#[114, 101, 112, 101, 97, 116]⟩, [fdN4096, fdMon], 1, 53⟩
def kdL : List Kd := [kdZero, kdPay, kdFixed, kdGive, kdBoth, kdScale, kdWindow, kdRepeat]
def cV (C : Nat → Nat → Value) (j : Nat) : Value := .agg #[C j 0, C j 1, C j 2, C j 3]
def fdOf : Nat → Fd
  | 2 => fdX
  | 3 => fdY
  | 4 => fdCount
  | 5 => fdFrom
  | 6 => fdTo
  | 7 => fdCur
  | _ => fdMon
structure KBase (g : Nat → Nat) (C : Nat → Nat → Value) (w : World) : Prop where
  box : ∀ j, 2 ≤ j → j ≤ 8 → w.heap[g j]? = some (.cells #[C j 0, C j 1, C j 2, C j 3] 98)
  fd : ∀ j, 2 ≤ j → j ≤ 8 → FdAt (fdOf j) (cV C j) w
def spK (C : Nat → Nat → Value) : Nat → Sp
  | 0 => .kd kdZero
  | 1 => .val (cV C 2)
  | 2 => .val (cV C 7)
  | 3 => .val (cV C 5)
  | 4 => .fds [fdX, fdCur, fdFrom]
  | 5 => .kd kdPay
  | 6 => .val (cV C 2)
  | 7 => .val (cV C 3)
  | 8 => .val (cV C 4)
  | 9 => .val (cV C 5)
  | 10 => .val (cV C 6)
  | 11 => .fd fdBeh
  | 12 => .val (fnB 33)
  | 13 => .fd fdN1200
  | 14 => .val (cV C 7)
  | 15 => .fds [fdX, fdY, fdCount, fdFrom, fdBeh, fdN1200, fdCur]
  | 16 => .kd kdFixed
  | 17 => .kd kdGive
  | 18 => .kd kdBoth
  | 19 => .val (cV C 2)
  | 20 => .fds [fdX]
  | 21 => .kd kdScale
  | 22 => .val (cV C 5)
  | 23 => .val (cV C 6)
  | 24 => .fds [fdFrom, fdTo]
  | 25 => .kd kdWindow
  | 26 => .val (fnB 33)
  | 27 => .fd fdN4096
  | 28 => .val (cV C 8)
  | 29 => .fds [fdN4096, fdMon]
  | 30 => .kd kdRepeat
  | 31 => .tab kdL
  | _ => .val undef
structure InvK (w9 : World) (g : Nat → Nat) (C : Nat → Nat → Value) (D : Nat → Bool) (a : Act) (w : World) : Prop where
  sz : a.tmps.size = 48
  df : a.defers = []
  b1 : a.tmps[1]? = some (fnB 33)
  bj : ∀ j, 2 ≤ j → j ≤ 8 → a.tmps[j]? = some (ptB (g j))
  bl : Below w9.heap.size w9 w
  at_ : ∀ i, i < 32 → D i = true → ∃ v, a.tmps[16 + i]? = some v ∧ (spK C i).At v w
  fin : D 32 = true → ∃ v, a.tmps[0]? = some v ∧ (spK C 31).At v w
section
variable {w9 : World} {g : Nat → Nat} {C : Nat → Nat → Value} {D : Nat → Bool} {a : Act} {w w' : World}
theorem InvK.put {i : Nat} {v : Value} (h : InvK w9 g C D a w) (hi : i < 32) (hb : Below w.heap.size w w') (hv : (spK C i).At v w') : InvK w9 g C (fun j => D j || decide (j = i)) (a.put (some (16 + i)) v) w' := by
  have hz := h.sz
  refine ⟨by show (a.tmps.setIfInBounds _ _).size = 48; rw [Array.size_setIfInBounds]; exact hz, h.df, ?_, fun j h2 h8 => ?_, h.bl.trans (hb.mono h.bl.size), fun j hj hd => ?_, fun hd => ?_⟩
  · show (a.tmps.setIfInBounds _ _)[1]? = _
    rw [Array.getElem?_setIfInBounds, if_neg (by omega)]; exact h.b1
  · show (a.tmps.setIfInBounds _ _)[j]? = _
    rw [Array.getElem?_setIfInBounds, if_neg (by omega)]; exact h.bj j h2 h8
  · by_cases e : j = i
    · subst e
      refine ⟨v, ?_, hv⟩
      show (a.tmps.setIfInBounds _ _)[16 + j]? = _
      rw [Array.getElem?_setIfInBounds, if_pos rfl, if_pos (by omega)]
    · have hd' : D j = true := by simpa [e] using hd
      obtain ⟨u, h1, h2⟩ := h.at_ j hj hd'
      refine ⟨u, ?_, h2.below hb⟩
      show (a.tmps.setIfInBounds _ _)[16 + j]? = _
      rw [Array.getElem?_setIfInBounds, if_neg (by omega)]; exact h1
  · have hd' : D 32 = true := by
      have : decide (32 = i) = false := decide_eq_false (by omega)
      simpa [this] using hd
    obtain ⟨u, h1, h2⟩ := h.fin hd'
    refine ⟨u, ?_, h2.below hb⟩
    show (a.tmps.setIfInBounds _ _)[0]? = _
    rw [Array.getElem?_setIfInBounds, if_neg (by omega)]; exact h1
theorem InvK.last {v : Value} (h : InvK w9 g C D a w) (hv : (spK C 31).At v w) : InvK w9 g C (fun j => D j || decide (j = 32)) (a.put (some 0) v) w := by
  have hz := h.sz
  refine ⟨by show (a.tmps.setIfInBounds _ _).size = 48; rw [Array.size_setIfInBounds]; exact hz, h.df, ?_, fun j h2 h8 => ?_, h.bl, fun j hj hd => ?_, fun _ => ⟨v, ?_, hv⟩⟩
  · show (a.tmps.setIfInBounds _ _)[1]? = _
    rw [Array.getElem?_setIfInBounds, if_neg (by omega)]; exact h.b1
  · show (a.tmps.setIfInBounds _ _)[j]? = _
    rw [Array.getElem?_setIfInBounds, if_neg (by omega)]; exact h.bj j h2 h8
  · have hd' : D j = true := by
      have : decide (j = 32) = false := decide_eq_false (by omega)
      simpa [this] using hd
    obtain ⟨u, h1, h2⟩ := h.at_ j hj hd'
    refine ⟨u, ?_, h2⟩
    show (a.tmps.setIfInBounds _ _)[16 + j]? = _
    rw [Array.getElem?_setIfInBounds, if_neg (by omega)]; exact h1
  · show (a.tmps.setIfInBounds _ _)[0]? = _
    rw [Array.getElem?_setIfInBounds, if_pos rfl, if_pos (by omega)]
theorem InvK.ev {i : Nat} (h : InvK w9 g C D a w) (hi : i < 32) (hd : D i = true) : (spK C i).At (a.eval (.tmp (16 + i))) w := by
  obtain ⟨v, h1, h2⟩ := h.at_ i hi hd
  have : a.eval (.tmp (16 + i)) = v := by show a.tmps.getD (16 + i) undef = v; rw [Array.getD_eq_getD_getElem?, h1]; rfl
  rw [this]; exact h2
theorem InvK.evj {j : Nat} (h : InvK w9 g C D a w) (h2 : 2 ≤ j) (h8 : j ≤ 8) : a.eval (.tmp j) = ptB (g j) := by
  show a.tmps.getD j undef = _
  rw [Array.getD_eq_getD_getElem?, h.bj j h2 h8]; rfl
theorem InvK.ev1 (h : InvK w9 g C D a w) : a.eval (.tmp 1) = fnB 33 := by
  show a.tmps.getD 1 undef = _
  rw [Array.getD_eq_getD_getElem?, h.b1]; rfl
theorem KBase.at_ {j : Nat} (h : KBase g C w9) (hb : Below w9.heap.size w9 w) (h2 : 2 ≤ j) (h8 : j ≤ 8) : w.heap[g j]? = some (.cells #[C j 0, C j 1, C j 2, C j 3] 98) := (hb.block _ (lt_of_blk (h.box j h2 h8))).trans (h.box j h2 h8)
theorem KBase.fdw {j : Nat} (h : KBase g C w9) (hb : Below w9.heap.size w9 w) (h2 : 2 ≤ j) (h8 : j ≤ 8) : FdAt (fdOf j) (cV C j) w := (h.fd j h2 h8).below hb
theorem al_bel (w : World) (o : Obj) : Below w.heap.size w (w.alloc o) := (Below.refl _ _).alloc (Nat.le_refl _) _
noncomputable def kinOps : Array Oper := (match Tryz.f18.body with
  | some (.seq _ (.seq _ (.seq _ (.seq _ (.seq _ (.seq _ (.seq _ (.seq _ (.seq _ (.seq (.region _ ops _) _)))))))))) => ops
  | _ => #[])
set_option maxRecDepth 20000 in
theorem kin_0 {Q : Exit → Act → World → Prop} (_HB : KBase g C w9) (hI : InvK w9 g C D a w)  : wpOp Tryz.prog kinOps Q 0 (fun a' w' => InvK w9 g C (fun j => D j || decide (j = 0)) a' w') a w := by
  refine stpR (o := _) rfl rfl (bkR kdZero (x := .const (.slice none 0 0)) rfl (p := none) (n := 0) (c := 0) rfl ?_)
  exact hI.put (i := 0) (by omega) (Below.refl _ _) ⟨_, rfl, Or.inl ⟨rfl, rfl⟩⟩
set_option maxRecDepth 20000 in
theorem kin_1 {Q : Exit → Act → World → Prop} (_HB : KBase g C w9) (hI : InvK w9 g C D a w)  : wpOp Tryz.prog kinOps Q 1 (fun a' w' => InvK w9 g C (fun j => D j || decide (j = 1)) a' w') a w := by
  refine stpR (o := _) rfl rfl (ldR rfl (hI.evj (j := 2) (by omega) (by omega)) (_HB.at_ hI.bl (by omega) (by omega)) ?_)
  exact hI.put (i := 1) (by omega) (Below.refl _ _) rfl
set_option maxRecDepth 20000 in
theorem kin_2 {Q : Exit → Act → World → Prop} (_HB : KBase g C w9) (hI : InvK w9 g C D a w)  : wpOp Tryz.prog kinOps Q 2 (fun a' w' => InvK w9 g C (fun j => D j || decide (j = 2)) a' w') a w := by
  refine stpR (o := _) rfl rfl (ldR rfl (hI.evj (j := 7) (by omega) (by omega)) (_HB.at_ hI.bl (by omega) (by omega)) ?_)
  exact hI.put (i := 2) (by omega) (Below.refl _ _) rfl
set_option maxRecDepth 20000 in
theorem kin_3 {Q : Exit → Act → World → Prop} (_HB : KBase g C w9) (hI : InvK w9 g C D a w)  : wpOp Tryz.prog kinOps Q 3 (fun a' w' => InvK w9 g C (fun j => D j || decide (j = 3)) a' w') a w := by
  refine stpR (o := _) rfl rfl (ldR rfl (hI.evj (j := 5) (by omega) (by omega)) (_HB.at_ hI.bl (by omega) (by omega)) ?_)
  exact hI.put (i := 3) (by omega) (Below.refl _ _) rfl
set_option maxRecDepth 20000 in
theorem kin_4 {Q : Exit → Act → World → Prop} (_HB : KBase g C w9) (hI : InvK w9 g C D a w) (d1 : D 1 = true) (d2 : D 2 = true) (d3 : D 3 = true) : wpOp Tryz.prog kinOps Q 4 (fun a' w' => InvK w9 g C (fun j => D j || decide (j = 4)) a' w') a w := by
  have h0 := hI.ev (i := 1) (by omega) d1
  have f0 : FdAt fdX (cV C 2) w := _HB.fdw (j := 2) hI.bl (by omega) (by omega)
  have e0 : a.eval (.tmp 17) = .agg #[C 2 0, C 2 1, C 2 2, C 2 3] := h0
  have h1 := hI.ev (i := 2) (by omega) d2
  have f1 : FdAt fdCur (cV C 7) w := _HB.fdw (j := 7) hI.bl (by omega) (by omega)
  have e1 : a.eval (.tmp 18) = .agg #[C 7 0, C 7 1, C 7 2, C 7 3] := h1
  have h2 := hI.ev (i := 3) (by omega) d3
  have f2 : FdAt fdFrom (cV C 5) w := _HB.fdw (j := 5) hI.bl (by omega) (by omega)
  have e2 : a.eval (.tmp 19) = .agg #[C 5 0, C 5 1, C 5 2, C 5 3] := h2
  refine stpR (o := _) rfl rfl (bs3R rfl e0 e1 e2 ?_)
  refine hI.put (i := 4) (by omega) (al_bel _ _) ⟨_, [cV C 2, cV C 7, cV C 5], rfl, heap_alloc_new _ _, rfl, fun j hj => ?_⟩
  rcases j with _ | _ | _ | j
  · exact f0.below (al_bel _ _)
  · exact f1.below (al_bel _ _)
  · exact f2.below (al_bel _ _)
  · exact absurd hj (by show ¬ j + 3 < 3; omega)
set_option maxRecDepth 20000 in
theorem kin_5 {Q : Exit → Act → World → Prop} (_HB : KBase g C w9) (hI : InvK w9 g C D a w) (d4 : D 4 = true) : wpOp Tryz.prog kinOps Q 5 (fun a' w' => InvK w9 g C (fun j => D j || decide (j = 5)) a' w') a w := by
  have h := hI.ev (i := 4) (by omega) d4
  obtain ⟨h0, vs, e, r⟩ : FldsAt kdPay.ds _ _ := h
  refine stpR (o := _) rfl rfl (bkR kdPay (x := .tmp 20) rfl e ?_)
  exact hI.put (i := 5) (by omega) (Below.refl _ _) ⟨_, rfl, Or.inr ⟨by decide, h0, vs, rfl, r⟩⟩
set_option maxRecDepth 20000 in
theorem kin_6 {Q : Exit → Act → World → Prop} (_HB : KBase g C w9) (hI : InvK w9 g C D a w)  : wpOp Tryz.prog kinOps Q 6 (fun a' w' => InvK w9 g C (fun j => D j || decide (j = 6)) a' w') a w := by
  refine stpR (o := _) rfl rfl (ldR rfl (hI.evj (j := 2) (by omega) (by omega)) (_HB.at_ hI.bl (by omega) (by omega)) ?_)
  exact hI.put (i := 6) (by omega) (Below.refl _ _) rfl
set_option maxRecDepth 20000 in
theorem kin_7 {Q : Exit → Act → World → Prop} (_HB : KBase g C w9) (hI : InvK w9 g C D a w)  : wpOp Tryz.prog kinOps Q 7 (fun a' w' => InvK w9 g C (fun j => D j || decide (j = 7)) a' w') a w := by
  refine stpR (o := _) rfl rfl (ldR rfl (hI.evj (j := 3) (by omega) (by omega)) (_HB.at_ hI.bl (by omega) (by omega)) ?_)
  exact hI.put (i := 7) (by omega) (Below.refl _ _) rfl
set_option maxRecDepth 20000 in
theorem kin_8 {Q : Exit → Act → World → Prop} (_HB : KBase g C w9) (hI : InvK w9 g C D a w)  : wpOp Tryz.prog kinOps Q 8 (fun a' w' => InvK w9 g C (fun j => D j || decide (j = 8)) a' w') a w := by
  refine stpR (o := _) rfl rfl (ldR rfl (hI.evj (j := 4) (by omega) (by omega)) (_HB.at_ hI.bl (by omega) (by omega)) ?_)
  exact hI.put (i := 8) (by omega) (Below.refl _ _) rfl
set_option maxRecDepth 20000 in
theorem kin_9 {Q : Exit → Act → World → Prop} (_HB : KBase g C w9) (hI : InvK w9 g C D a w)  : wpOp Tryz.prog kinOps Q 9 (fun a' w' => InvK w9 g C (fun j => D j || decide (j = 9)) a' w') a w := by
  refine stpR (o := _) rfl rfl (ldR rfl (hI.evj (j := 5) (by omega) (by omega)) (_HB.at_ hI.bl (by omega) (by omega)) ?_)
  exact hI.put (i := 9) (by omega) (Below.refl _ _) rfl
set_option maxRecDepth 20000 in
theorem kin_10 {Q : Exit → Act → World → Prop} (_HB : KBase g C w9) (hI : InvK w9 g C D a w)  : wpOp Tryz.prog kinOps Q 10 (fun a' w' => InvK w9 g C (fun j => D j || decide (j = 10)) a' w') a w := by
  refine stpR (o := _) rfl rfl (ldR rfl (hI.evj (j := 6) (by omega) (by omega)) (_HB.at_ hI.bl (by omega) (by omega)) ?_)
  exact hI.put (i := 10) (by omega) (Below.refl _ _) rfl
set_option maxRecDepth 20000 in
theorem kin_11 {Q : Exit → Act → World → Prop} (_HB : KBase g C w9) (hI : InvK w9 g C D a w) (d10 : D 10 = true) : wpOp Tryz.prog kinOps Q 11 (fun a' w' => InvK w9 g C (fun j => D j || decide (j = 11)) a' w') a w := by
  have h : a.eval (.tmp 26) = cV C 6 := hI.ev (i := 10) (by omega) d10
  obtain ⟨b, e, hw⟩ : FdAt fdTo (cV C 6) w := _HB.fdw (j := 6) hI.bl (by omega) (by omega)
  refine stpR (o := _) rfl rfl (clR rfl enter_behind ?_)
  simp only [List.map_toArray, List.map_cons, List.map_nil]
  rw [h, e]
  refine (dBehind_any b w).mono ?_
  rintro x w' ⟨rfl, hd, hb⟩
  exact ⟨_, rfl, hI.put (i := 11) (by omega) hb ⟨b, _, rfl, hw.below hb, hd⟩⟩
set_option maxRecDepth 20000 in
theorem kin_12 {Q : Exit → Act → World → Prop} (_HB : KBase g C w9) (hI : InvK w9 g C D a w)  : wpOp Tryz.prog kinOps Q 12 (fun a' w' => InvK w9 g C (fun j => D j || decide (j = 12)) a' w') a w := by
  refine stpR (o := _) rfl rfl (mvR rfl ?_)
  exact hI.put (i := 12) (by omega) (Below.refl _ _) hI.ev1
set_option maxRecDepth 20000 in
theorem kin_13 {Q : Exit → Act → World → Prop} (_HB : KBase g C w9) (hI : InvK w9 g C D a w) (d12 : D 12 = true) : wpOp Tryz.prog kinOps Q 13 (fun a' w' => InvK w9 g C (fun j => D j || decide (j = 13)) a' w') a w := by
  have h : a.eval (.tmp 28) = fnB 33 := hI.ev (i := 12) (by omega) d12
  refine stpR (o := _) rfl rfl (clR rfl enter_upTo ?_)
  simp only [List.map_toArray, List.map_cons, List.map_nil]
  rw [h]
  refine (dUpTo_any 1200 33 w).mono ?_
  rintro x w' ⟨rfl, hd, hb⟩
  exact ⟨_, rfl, hI.put (i := 13) (by omega) hb ⟨_, rfl, hd⟩⟩
set_option maxRecDepth 20000 in
theorem kin_14 {Q : Exit → Act → World → Prop} (_HB : KBase g C w9) (hI : InvK w9 g C D a w)  : wpOp Tryz.prog kinOps Q 14 (fun a' w' => InvK w9 g C (fun j => D j || decide (j = 14)) a' w') a w := by
  refine stpR (o := _) rfl rfl (ldR rfl (hI.evj (j := 7) (by omega) (by omega)) (_HB.at_ hI.bl (by omega) (by omega)) ?_)
  exact hI.put (i := 14) (by omega) (Below.refl _ _) rfl
set_option maxRecDepth 20000 in
theorem kin_15 {Q : Exit → Act → World → Prop} (_HB : KBase g C w9) (hI : InvK w9 g C D a w) (d6 : D 6 = true) (d7 : D 7 = true) (d8 : D 8 = true) (d9 : D 9 = true) (d11 : D 11 = true) (d13 : D 13 = true) (d14 : D 14 = true) : wpOp Tryz.prog kinOps Q 15 (fun a' w' => InvK w9 g C (fun j => D j || decide (j = 15)) a' w') a w := by
  have h0 := hI.ev (i := 6) (by omega) d6
  have f0 : FdAt fdX (cV C 2) w := _HB.fdw (j := 2) hI.bl (by omega) (by omega)
  have e0 : a.eval (.tmp 22) = .agg #[C 2 0, C 2 1, C 2 2, C 2 3] := h0
  have h1 := hI.ev (i := 7) (by omega) d7
  have f1 : FdAt fdY (cV C 3) w := _HB.fdw (j := 3) hI.bl (by omega) (by omega)
  have e1 : a.eval (.tmp 23) = .agg #[C 3 0, C 3 1, C 3 2, C 3 3] := h1
  have h2 := hI.ev (i := 8) (by omega) d8
  have f2 : FdAt fdCount (cV C 4) w := _HB.fdw (j := 4) hI.bl (by omega) (by omega)
  have e2 : a.eval (.tmp 24) = .agg #[C 4 0, C 4 1, C 4 2, C 4 3] := h2
  have h3 := hI.ev (i := 9) (by omega) d9
  have f3 : FdAt fdFrom (cV C 5) w := _HB.fdw (j := 5) hI.bl (by omega) (by omega)
  have e3 : a.eval (.tmp 25) = .agg #[C 5 0, C 5 1, C 5 2, C 5 3] := h3
  have h4 := hI.ev (i := 11) (by omega) d11
  have f4 : FdAt fdBeh (a.eval (.tmp 27)) w := h4
  obtain ⟨p40, p41, p42, p43, e4⟩ := f4.agg
  rw [e4] at f4
  have h5 := hI.ev (i := 13) (by omega) d13
  have f5 : FdAt fdN1200 (a.eval (.tmp 29)) w := h5
  obtain ⟨p50, p51, p52, p53, e5⟩ := f5.agg
  rw [e5] at f5
  have h6 := hI.ev (i := 14) (by omega) d14
  have f6 : FdAt fdCur (cV C 7) w := _HB.fdw (j := 7) hI.bl (by omega) (by omega)
  have e6 : a.eval (.tmp 30) = .agg #[C 7 0, C 7 1, C 7 2, C 7 3] := h6
  refine stpR (o := _) rfl rfl (bs7R rfl e0 e1 e2 e3 e4 e5 e6 ?_)
  refine hI.put (i := 15) (by omega) (al_bel _ _) ⟨_, [cV C 2, cV C 3, cV C 4, cV C 5, .agg #[p40, p41, p42, p43], .agg #[p50, p51, p52, p53], cV C 7], rfl, heap_alloc_new _ _, rfl, fun j hj => ?_⟩
  rcases j with _ | _ | _ | _ | _ | _ | _ | j
  · exact f0.below (al_bel _ _)
  · exact f1.below (al_bel _ _)
  · exact f2.below (al_bel _ _)
  · exact f3.below (al_bel _ _)
  · exact f4.below (al_bel _ _)
  · exact f5.below (al_bel _ _)
  · exact f6.below (al_bel _ _)
  · exact absurd hj (by show ¬ j + 7 < 7; omega)
set_option maxRecDepth 20000 in
theorem kin_16 {Q : Exit → Act → World → Prop} (_HB : KBase g C w9) (hI : InvK w9 g C D a w) (d15 : D 15 = true) : wpOp Tryz.prog kinOps Q 16 (fun a' w' => InvK w9 g C (fun j => D j || decide (j = 16)) a' w') a w := by
  have h := hI.ev (i := 15) (by omega) d15
  obtain ⟨h0, vs, e, r⟩ : FldsAt kdFixed.ds _ _ := h
  refine stpR (o := _) rfl rfl (bkR kdFixed (x := .tmp 31) rfl e ?_)
  exact hI.put (i := 16) (by omega) (Below.refl _ _) ⟨_, rfl, Or.inr ⟨by decide, h0, vs, rfl, r⟩⟩
set_option maxRecDepth 20000 in
theorem kin_17 {Q : Exit → Act → World → Prop} (_HB : KBase g C w9) (hI : InvK w9 g C D a w)  : wpOp Tryz.prog kinOps Q 17 (fun a' w' => InvK w9 g C (fun j => D j || decide (j = 17)) a' w') a w := by
  refine stpR (o := _) rfl rfl (bkR kdGive (x := .const (.slice none 0 0)) rfl (p := none) (n := 0) (c := 0) rfl ?_)
  exact hI.put (i := 17) (by omega) (Below.refl _ _) ⟨_, rfl, Or.inl ⟨rfl, rfl⟩⟩
set_option maxRecDepth 20000 in
theorem kin_18 {Q : Exit → Act → World → Prop} (_HB : KBase g C w9) (hI : InvK w9 g C D a w)  : wpOp Tryz.prog kinOps Q 18 (fun a' w' => InvK w9 g C (fun j => D j || decide (j = 18)) a' w') a w := by
  refine stpR (o := _) rfl rfl (bkR kdBoth (x := .const (.slice none 0 0)) rfl (p := none) (n := 0) (c := 0) rfl ?_)
  exact hI.put (i := 18) (by omega) (Below.refl _ _) ⟨_, rfl, Or.inl ⟨rfl, rfl⟩⟩
set_option maxRecDepth 20000 in
theorem kin_19 {Q : Exit → Act → World → Prop} (_HB : KBase g C w9) (hI : InvK w9 g C D a w)  : wpOp Tryz.prog kinOps Q 19 (fun a' w' => InvK w9 g C (fun j => D j || decide (j = 19)) a' w') a w := by
  refine stpR (o := _) rfl rfl (ldR rfl (hI.evj (j := 2) (by omega) (by omega)) (_HB.at_ hI.bl (by omega) (by omega)) ?_)
  exact hI.put (i := 19) (by omega) (Below.refl _ _) rfl
set_option maxRecDepth 20000 in
theorem kin_20 {Q : Exit → Act → World → Prop} (_HB : KBase g C w9) (hI : InvK w9 g C D a w) (d19 : D 19 = true) : wpOp Tryz.prog kinOps Q 20 (fun a' w' => InvK w9 g C (fun j => D j || decide (j = 20)) a' w') a w := by
  have h0 := hI.ev (i := 19) (by omega) d19
  have f0 : FdAt fdX (cV C 2) w := _HB.fdw (j := 2) hI.bl (by omega) (by omega)
  have e0 : a.eval (.tmp 35) = .agg #[C 2 0, C 2 1, C 2 2, C 2 3] := h0
  refine stpR (o := _) rfl rfl (bs1R rfl e0 ?_)
  refine hI.put (i := 20) (by omega) (al_bel _ _) ⟨_, [cV C 2], rfl, heap_alloc_new _ _, rfl, fun j hj => ?_⟩
  rcases j with _ | j
  · exact f0.below (al_bel _ _)
  · exact absurd hj (by show ¬ j + 1 < 1; omega)
set_option maxRecDepth 20000 in
theorem kin_21 {Q : Exit → Act → World → Prop} (_HB : KBase g C w9) (hI : InvK w9 g C D a w) (d20 : D 20 = true) : wpOp Tryz.prog kinOps Q 21 (fun a' w' => InvK w9 g C (fun j => D j || decide (j = 21)) a' w') a w := by
  have h := hI.ev (i := 20) (by omega) d20
  obtain ⟨h0, vs, e, r⟩ : FldsAt kdScale.ds _ _ := h
  refine stpR (o := _) rfl rfl (bkR kdScale (x := .tmp 36) rfl e ?_)
  exact hI.put (i := 21) (by omega) (Below.refl _ _) ⟨_, rfl, Or.inr ⟨by decide, h0, vs, rfl, r⟩⟩
set_option maxRecDepth 20000 in
theorem kin_22 {Q : Exit → Act → World → Prop} (_HB : KBase g C w9) (hI : InvK w9 g C D a w)  : wpOp Tryz.prog kinOps Q 22 (fun a' w' => InvK w9 g C (fun j => D j || decide (j = 22)) a' w') a w := by
  refine stpR (o := _) rfl rfl (ldR rfl (hI.evj (j := 5) (by omega) (by omega)) (_HB.at_ hI.bl (by omega) (by omega)) ?_)
  exact hI.put (i := 22) (by omega) (Below.refl _ _) rfl
set_option maxRecDepth 20000 in
theorem kin_23 {Q : Exit → Act → World → Prop} (_HB : KBase g C w9) (hI : InvK w9 g C D a w)  : wpOp Tryz.prog kinOps Q 23 (fun a' w' => InvK w9 g C (fun j => D j || decide (j = 23)) a' w') a w := by
  refine stpR (o := _) rfl rfl (ldR rfl (hI.evj (j := 6) (by omega) (by omega)) (_HB.at_ hI.bl (by omega) (by omega)) ?_)
  exact hI.put (i := 23) (by omega) (Below.refl _ _) rfl
set_option maxRecDepth 20000 in
theorem kin_24 {Q : Exit → Act → World → Prop} (_HB : KBase g C w9) (hI : InvK w9 g C D a w) (d22 : D 22 = true) (d23 : D 23 = true) : wpOp Tryz.prog kinOps Q 24 (fun a' w' => InvK w9 g C (fun j => D j || decide (j = 24)) a' w') a w := by
  have h0 := hI.ev (i := 22) (by omega) d22
  have f0 : FdAt fdFrom (cV C 5) w := _HB.fdw (j := 5) hI.bl (by omega) (by omega)
  have e0 : a.eval (.tmp 38) = .agg #[C 5 0, C 5 1, C 5 2, C 5 3] := h0
  have h1 := hI.ev (i := 23) (by omega) d23
  have f1 : FdAt fdTo (cV C 6) w := _HB.fdw (j := 6) hI.bl (by omega) (by omega)
  have e1 : a.eval (.tmp 39) = .agg #[C 6 0, C 6 1, C 6 2, C 6 3] := h1
  refine stpR (o := _) rfl rfl (bs2R rfl e0 e1 ?_)
  refine hI.put (i := 24) (by omega) (al_bel _ _) ⟨_, [cV C 5, cV C 6], rfl, heap_alloc_new _ _, rfl, fun j hj => ?_⟩
  rcases j with _ | _ | j
  · exact f0.below (al_bel _ _)
  · exact f1.below (al_bel _ _)
  · exact absurd hj (by show ¬ j + 2 < 2; omega)
set_option maxRecDepth 20000 in
theorem kin_25 {Q : Exit → Act → World → Prop} (_HB : KBase g C w9) (hI : InvK w9 g C D a w) (d24 : D 24 = true) : wpOp Tryz.prog kinOps Q 25 (fun a' w' => InvK w9 g C (fun j => D j || decide (j = 25)) a' w') a w := by
  have h := hI.ev (i := 24) (by omega) d24
  obtain ⟨h0, vs, e, r⟩ : FldsAt kdWindow.ds _ _ := h
  refine stpR (o := _) rfl rfl (bkR kdWindow (x := .tmp 40) rfl e ?_)
  exact hI.put (i := 25) (by omega) (Below.refl _ _) ⟨_, rfl, Or.inr ⟨by decide, h0, vs, rfl, r⟩⟩
set_option maxRecDepth 20000 in
theorem kin_26 {Q : Exit → Act → World → Prop} (_HB : KBase g C w9) (hI : InvK w9 g C D a w)  : wpOp Tryz.prog kinOps Q 26 (fun a' w' => InvK w9 g C (fun j => D j || decide (j = 26)) a' w') a w := by
  refine stpR (o := _) rfl rfl (mvR rfl ?_)
  exact hI.put (i := 26) (by omega) (Below.refl _ _) hI.ev1
set_option maxRecDepth 20000 in
theorem kin_27 {Q : Exit → Act → World → Prop} (_HB : KBase g C w9) (hI : InvK w9 g C D a w) (d26 : D 26 = true) : wpOp Tryz.prog kinOps Q 27 (fun a' w' => InvK w9 g C (fun j => D j || decide (j = 27)) a' w') a w := by
  have h : a.eval (.tmp 42) = fnB 33 := hI.ev (i := 26) (by omega) d26
  refine stpR (o := _) rfl rfl (clR rfl enter_upTo ?_)
  simp only [List.map_toArray, List.map_cons, List.map_nil]
  rw [h]
  refine (dUpTo_any 4096 33 w).mono ?_
  rintro x w' ⟨rfl, hd, hb⟩
  exact ⟨_, rfl, hI.put (i := 27) (by omega) hb ⟨_, rfl, hd⟩⟩
set_option maxRecDepth 20000 in
theorem kin_28 {Q : Exit → Act → World → Prop} (_HB : KBase g C w9) (hI : InvK w9 g C D a w)  : wpOp Tryz.prog kinOps Q 28 (fun a' w' => InvK w9 g C (fun j => D j || decide (j = 28)) a' w') a w := by
  refine stpR (o := _) rfl rfl (ldR rfl (hI.evj (j := 8) (by omega) (by omega)) (_HB.at_ hI.bl (by omega) (by omega)) ?_)
  exact hI.put (i := 28) (by omega) (Below.refl _ _) rfl
set_option maxRecDepth 20000 in
theorem kin_29 {Q : Exit → Act → World → Prop} (_HB : KBase g C w9) (hI : InvK w9 g C D a w) (d27 : D 27 = true) (d28 : D 28 = true) : wpOp Tryz.prog kinOps Q 29 (fun a' w' => InvK w9 g C (fun j => D j || decide (j = 29)) a' w') a w := by
  have h0 := hI.ev (i := 27) (by omega) d27
  have f0 : FdAt fdN4096 (a.eval (.tmp 43)) w := h0
  obtain ⟨p00, p01, p02, p03, e0⟩ := f0.agg
  rw [e0] at f0
  have h1 := hI.ev (i := 28) (by omega) d28
  have f1 : FdAt fdMon (cV C 8) w := _HB.fdw (j := 8) hI.bl (by omega) (by omega)
  have e1 : a.eval (.tmp 44) = .agg #[C 8 0, C 8 1, C 8 2, C 8 3] := h1
  refine stpR (o := _) rfl rfl (bs2R rfl e0 e1 ?_)
  refine hI.put (i := 29) (by omega) (al_bel _ _) ⟨_, [.agg #[p00, p01, p02, p03], cV C 8], rfl, heap_alloc_new _ _, rfl, fun j hj => ?_⟩
  rcases j with _ | _ | j
  · exact f0.below (al_bel _ _)
  · exact f1.below (al_bel _ _)
  · exact absurd hj (by show ¬ j + 2 < 2; omega)
set_option maxRecDepth 20000 in
theorem kin_30 {Q : Exit → Act → World → Prop} (_HB : KBase g C w9) (hI : InvK w9 g C D a w) (d29 : D 29 = true) : wpOp Tryz.prog kinOps Q 30 (fun a' w' => InvK w9 g C (fun j => D j || decide (j = 30)) a' w') a w := by
  have h := hI.ev (i := 29) (by omega) d29
  obtain ⟨h0, vs, e, r⟩ : FldsAt kdRepeat.ds _ _ := h
  refine stpR (o := _) rfl rfl (bkR kdRepeat (x := .tmp 45) rfl e ?_)
  exact hI.put (i := 30) (by omega) (Below.refl _ _) ⟨_, rfl, Or.inr ⟨by decide, h0, vs, rfl, r⟩⟩
set_option maxRecDepth 20000 in
theorem kin_31 {Q : Exit → Act → World → Prop} (_HB : KBase g C w9) (hI : InvK w9 g C D a w) (d0 : D 0 = true) (d5 : D 5 = true) (d16 : D 16 = true) (d17 : D 17 = true) (d18 : D 18 = true) (d21 : D 21 = true) (d25 : D 25 = true) (d30 : D 30 = true) : wpOp Tryz.prog kinOps Q 31 (fun a' w' => InvK w9 g C (fun j => D j || decide (j = 31)) a' w') a w := by
  obtain ⟨u0, e0, s0⟩ : KdAt kdZero _ _ := hI.ev (i := 0) (by omega) d0
  obtain ⟨u1, e1, s1⟩ : KdAt kdPay _ _ := hI.ev (i := 5) (by omega) d5
  obtain ⟨u2, e2, s2⟩ : KdAt kdFixed _ _ := hI.ev (i := 16) (by omega) d16
  obtain ⟨u3, e3, s3⟩ : KdAt kdGive _ _ := hI.ev (i := 17) (by omega) d17
  obtain ⟨u4, e4, s4⟩ : KdAt kdBoth _ _ := hI.ev (i := 18) (by omega) d18
  obtain ⟨u5, e5, s5⟩ : KdAt kdScale _ _ := hI.ev (i := 21) (by omega) d21
  obtain ⟨u6, e6, s6⟩ : KdAt kdWindow _ _ := hI.ev (i := 25) (by omega) d25
  obtain ⟨u7, e7, s7⟩ : KdAt kdRepeat _ _ := hI.ev (i := 30) (by omega) d30
  refine stpR (o := _) rfl rfl (bsTR rfl e0 e1 e2 e3 e4 e5 e6 e7 ?_)
  refine hI.put (i := 31) (by omega) (al_bel _ _) ⟨_, [u0, u1, u2, u3, u4, u5, u6, u7], rfl, rfl, heap_alloc_new _ _, fun j hj => ?_⟩
  rcases j with _ | _ | _ | _ | _ | _ | _ | _ | j
  · exact s0.below (al_bel _ _)
  · exact s1.below (al_bel _ _)
  · exact s2.below (al_bel _ _)
  · exact s3.below (al_bel _ _)
  · exact s4.below (al_bel _ _)
  · exact s5.below (al_bel _ _)
  · exact s6.below (al_bel _ _)
  · exact s7.below (al_bel _ _)
  · exact absurd hj (by show ¬ j + 8 < 8; omega)
set_option maxRecDepth 20000 in
theorem kin_32 {Q : Exit → Act → World → Prop} (_HB : KBase g C w9) (hI : InvK w9 g C D a w) (d31 : D 31 = true) : wpOp Tryz.prog kinOps Q 32 (fun a' w' => InvK w9 g C (fun j => D j || decide (j = 32)) a' w') a w := by
  refine stpR (o := _) rfl rfl (asR rfl ?_)
  exact hI.last (hI.ev (i := 31) (by omega) d31)
end
end Go.Proofs.YtiiajhomdpfafaaGreatDoor
namespace Go.Proofs.YtiiajhomdpfafaaGreatDoor
open Go.RowKit

structure FBx (d : Fd) (g : Nat) (c0 c1 c2 c3 : Value) (w : World) : Prop where
  box : w.heap[g]? = some (.cells #[c0, c1, c2, c3] 98)
  fd : FdAt d (.agg #[c0, c1, c2, c3]) w
theorem FBx.below {d : Fd} {g : Nat} {c0 c1 c2 c3 : Value} {w w' : World} (h : FBx d g c0 c1 c2 c3 w) (hb : Below w.heap.size w w') : FBx d g c0 c1 c2 c3 w' := ⟨(hb.block _ (lt_of_blk h.box)).trans h.box, h.fd.below hb⟩
theorem fbx_new {d : Fd} {c0 c1 c2 c3 : Value} {w : World} (h : FdAt d (.agg #[c0, c1, c2, c3]) w) : FBx d w.heap.size c0 c1 c2 c3 (w.alloc (.cells #[c0, c1, c2, c3] 98)) := ⟨heap_alloc_new _ _, h.below (al_bel _ _)⟩
def gOf (l : List Nat) (j : Nat) : Nat := l.getD (j - 2) 0
def cOf (l : List (List Value)) (j i : Nat) : Value := (l.getD (j - 2) []).getD i undef
theorem kbase7 {g0 g1 g2 g3 g4 g5 g6 : Nat} {a0 b0 c0 d0 a1 b1 c1 d1 a2 b2 c2 d2 a3 b3 c3 d3 a4 b4 c4 d4 a5 b5 c5 d5 a6 b6 c6 d6 : Value} {w : World} (h0 : FBx fdX g0 a0 b0 c0 d0 w) (h1 : FBx fdY g1 a1 b1 c1 d1 w) (h2 : FBx fdCount g2 a2 b2 c2 d2 w) (h3 : FBx fdFrom g3 a3 b3 c3 d3 w) (h4 : FBx fdTo g4 a4 b4 c4 d4 w) (h5 : FBx fdCur g5 a5 b5 c5 d5 w) (h6 : FBx fdMon g6 a6 b6 c6 d6 w) : KBase (gOf [g0, g1, g2, g3, g4, g5, g6]) (cOf [[a0, b0, c0, d0], [a1, b1, c1, d1], [a2, b2, c2, d2], [a3, b3, c3, d3], [a4, b4, c4, d4], [a5, b5, c5, d5], [a6, b6, c6, d6]]) w := by
  refine ⟨fun j k2 k8 => ?_, fun j k2 k8 => ?_⟩
  · rcases (show j = 2 ∨ j = 3 ∨ j = 4 ∨ j = 5 ∨ j = 6 ∨ j = 7 ∨ j = 8 by omega) with rfl | rfl | rfl | rfl | rfl | rfl | rfl
    · exact h0.box
    · exact h1.box
    · exact h2.box
    · exact h3.box
    · exact h4.box
    · exact h5.box
    · exact h6.box
  · rcases (show j = 2 ∨ j = 3 ∨ j = 4 ∨ j = 5 ∨ j = 6 ∨ j = 7 ∨ j = 8 by omega) with rfl | rfl | rfl | rfl | rfl | rfl | rfl
    · exact h0.fd
    · exact h1.fd
    · exact h2.fd
    · exact h3.fd
    · exact h4.fd
    · exact h5.fd
    · exact h6.fd
theorem kin_line : lineB kinOps = true := by kernel_rfl
theorem dep_of {ops : Array Oper} {D : Nat → Bool} {i : Nat} {o : Oper} (ho : ops[i]? = some o) (h : ∀ e ∈ o.after, Region.binds .any e = true → D e.on = true) : ∀ e ∈ ((ops[i]?).map (·.after)).getD #[], Region.binds .any e = true → D e.on = true := by rw [ho]; exact h
set_option maxRecDepth 20000 in
theorem kin_step {w9 : World} {g : Nat → Nat} {C : Nat → Nat → Value} {Q : Exit → Act → World → Prop} (HB : KBase g C w9) (D : Nat → Bool) (a : Act) (w : World) (i : Nat) (o : Oper) (hI : InvK w9 g C D a w) (ho : kinOps[i]? = some o) (hd : ∀ e ∈ o.after, Region.binds .any e = true → D e.on = true) :
    wpOp Tryz.prog kinOps Q i (fun a' w' => InvK w9 g C (fun j => D j || decide (j = i)) a' w') a w := by
  have hi : i < 33 := (Array.getElem?_eq_some_iff.1 ho).1
  have hdep := dep_of ho hd
  clear ho hd
  rcases (show i = 0 ∨ i = 1 ∨ i = 2 ∨ i = 3 ∨ i = 4 ∨ i = 5 ∨ i = 6 ∨ i = 7 ∨ i = 8 ∨ i = 9 ∨ i = 10 ∨ i = 11 ∨ i = 12 ∨ i = 13 ∨ i = 14 ∨ i = 15 ∨ i = 16 ∨ i = 17 ∨ i = 18 ∨ i = 19 ∨ i = 20 ∨ i = 21 ∨ i = 22 ∨ i = 23 ∨ i = 24 ∨ i = 25 ∨ i = 26 ∨ i = 27 ∨ i = 28 ∨ i = 29 ∨ i = 30 ∨ i = 31 ∨ i = 32 by omega) with rfl | rfl | rfl | rfl | rfl | rfl | rfl | rfl | rfl | rfl | rfl | rfl | rfl | rfl | rfl | rfl | rfl | rfl | rfl | rfl | rfl | rfl | rfl | rfl | rfl | rfl | rfl | rfl | rfl | rfl | rfl | rfl | rfl
  · exact kin_0 HB hI
  · exact kin_1 HB hI
  · exact kin_2 HB hI
  · exact kin_3 HB hI
  · exact kin_4 HB hI (hdep ⟨1, .data⟩ (Array.mem_of_getElem? (i := 0) rfl) rfl) (hdep ⟨2, .data⟩ (Array.mem_of_getElem? (i := 1) rfl) rfl) (hdep ⟨3, .data⟩ (Array.mem_of_getElem? (i := 2) rfl) rfl)
  · exact kin_5 HB hI (hdep ⟨4, .data⟩ (Array.mem_of_getElem? (i := 0) rfl) rfl)
  · exact kin_6 HB hI
  · exact kin_7 HB hI
  · exact kin_8 HB hI
  · exact kin_9 HB hI
  · exact kin_10 HB hI
  · exact kin_11 HB hI (hdep ⟨10, .data⟩ (Array.mem_of_getElem? (i := 0) rfl) rfl)
  · exact kin_12 HB hI
  · exact kin_13 HB hI (hdep ⟨12, .data⟩ (Array.mem_of_getElem? (i := 0) rfl) rfl)
  · exact kin_14 HB hI
  · exact kin_15 HB hI (hdep ⟨6, .data⟩ (Array.mem_of_getElem? (i := 0) rfl) rfl) (hdep ⟨7, .data⟩ (Array.mem_of_getElem? (i := 1) rfl) rfl) (hdep ⟨8, .data⟩ (Array.mem_of_getElem? (i := 2) rfl) rfl) (hdep ⟨9, .data⟩ (Array.mem_of_getElem? (i := 3) rfl) rfl) (hdep ⟨11, .data⟩ (Array.mem_of_getElem? (i := 4) rfl) rfl) (hdep ⟨13, .data⟩ (Array.mem_of_getElem? (i := 5) rfl) rfl) (hdep ⟨14, .data⟩ (Array.mem_of_getElem? (i := 6) rfl) rfl)
  · exact kin_16 HB hI (hdep ⟨15, .data⟩ (Array.mem_of_getElem? (i := 0) rfl) rfl)
  · exact kin_17 HB hI
  · exact kin_18 HB hI
  · exact kin_19 HB hI
  · exact kin_20 HB hI (hdep ⟨19, .data⟩ (Array.mem_of_getElem? (i := 0) rfl) rfl)
  · exact kin_21 HB hI (hdep ⟨20, .data⟩ (Array.mem_of_getElem? (i := 0) rfl) rfl)
  · exact kin_22 HB hI
  · exact kin_23 HB hI
  · exact kin_24 HB hI (hdep ⟨22, .data⟩ (Array.mem_of_getElem? (i := 0) rfl) rfl) (hdep ⟨23, .data⟩ (Array.mem_of_getElem? (i := 1) rfl) rfl)
  · exact kin_25 HB hI (hdep ⟨24, .data⟩ (Array.mem_of_getElem? (i := 0) rfl) rfl)
  · exact kin_26 HB hI
  · exact kin_27 HB hI (hdep ⟨26, .data⟩ (Array.mem_of_getElem? (i := 0) rfl) rfl)
  · exact kin_28 HB hI
  · exact kin_29 HB hI (hdep ⟨27, .data⟩ (Array.mem_of_getElem? (i := 0) rfl) rfl) (hdep ⟨28, .data⟩ (Array.mem_of_getElem? (i := 1) rfl) rfl)
  · exact kin_30 HB hI (hdep ⟨29, .data⟩ (Array.mem_of_getElem? (i := 0) rfl) rfl)
  · exact kin_31 HB hI (hdep ⟨0, .data⟩ (Array.mem_of_getElem? (i := 0) rfl) rfl) (hdep ⟨5, .data⟩ (Array.mem_of_getElem? (i := 1) rfl) rfl) (hdep ⟨16, .data⟩ (Array.mem_of_getElem? (i := 2) rfl) rfl) (hdep ⟨17, .data⟩ (Array.mem_of_getElem? (i := 3) rfl) rfl) (hdep ⟨18, .data⟩ (Array.mem_of_getElem? (i := 4) rfl) rfl) (hdep ⟨21, .data⟩ (Array.mem_of_getElem? (i := 5) rfl) rfl) (hdep ⟨25, .data⟩ (Array.mem_of_getElem? (i := 6) rfl) rfl) (hdep ⟨30, .data⟩ (Array.mem_of_getElem? (i := 7) rfl) rfl)
  · exact kin_32 HB hI (hdep ⟨31, .data⟩ (Array.mem_of_getElem? (i := 0) rfl) rfl)
theorem xNumber (f : Nat) (w : World) : Calls Tryz.prog 34 #[.func (.func f) #[] #[]] w fun e w' => ∃ b, e = .returned (numV b) ∧ FdAt (.num f) (numV b) w' ∧ Below w.heap.size w w' := (dNumber_any f w).mono fun _ _ h => ⟨_, h.1, ⟨_, rfl, h.2.1⟩, h.2.2⟩
theorem xUpTo (hi : Int) (f : Nat) (w : World) : Calls Tryz.prog 42 #[.int .i64 hi, .func (.func f) #[] #[]] w fun e w' => ∃ b, e = .returned (whoV b) ∧ FdAt (.who f 1 hi 82 83) (whoV b) w' ∧ Below w.heap.size w w' := (dUpTo_any hi f w).mono fun _ _ h => ⟨_, h.1, ⟨_, rfl, h.2.1⟩, h.2.2⟩
theorem xDay (f : Nat) (w : World) : Calls Tryz.prog 39 #[.func (.func f) #[] #[]] w fun e w' => ∃ b, e = .returned (whoV b) ∧ FdAt (.who f 0 109572 80 81) (whoV b) w' ∧ Below w.heap.size w w' := (dDay_any f w).mono fun _ _ h => ⟨_, h.1, ⟨_, rfl, h.2.1⟩, h.2.2⟩
theorem xCounted (f : Nat) (w : World) : Calls Tryz.prog 37 #[.func (.func f) #[] #[]] w fun e w' => ∃ b, e = .returned (whoV b) ∧ FdAt (.who f 1 5 78 79) (whoV b) w' ∧ Below w.heap.size w w' := (dCounted_any f w).mono fun _ _ h => ⟨_, h.1, ⟨_, rfl, h.2.1⟩, h.2.2⟩
set_option maxRecDepth 20000 in
set_option maxHeartbeats 12800000 in
theorem kinds_any (w : World) : Calls Tryz.prog 18 #[] w fun e w' => ∃ v, e = .returned v ∧ TabAt kdL v w' ∧ Below w.heap.size w w' := by
  go_enter Tryz.func18, Tryz.ntmps18
  go_wp2_with fail
  refine (xNumber 35 _).mono ?_
  rintro e v0 ⟨b0, rfl, hf, hb⟩
  have hf : FdAt fdX _ _ := hf
  unfold numV ptB at hf
  have HV0 := hidD (fun o => hb.trans ((al_bel v0 o).mono hb.size))
  have HF0_0 := hidD (fbx_new hf)
  clear hb hf
  unfold numV ptB
  go_wp2_with fail
  refine (xNumber 36 _).mono ?_
  rintro e v1 ⟨b1, rfl, hf, hb⟩
  have hf : FdAt fdY _ _ := hf
  unfold numV ptB at hf
  have hq := (HV0.out _).trans (hb.mono (HV0.out _).size)
  have HV1 := hidD (fun o => hq.trans ((al_bel v1 o).mono hq.size))
  have HF0_1 := hidD (fun o => ((HF0_0.out).below hb).below (al_bel v1 o))
  clear hq HF0_0 HV0
  have HF1_1 := hidD (fbx_new hf)
  clear hb hf
  unfold numV ptB
  go_wp2_with fail
  refine (xCounted 38 _).mono ?_
  rintro e v2 ⟨b2, rfl, hf, hb⟩
  have hf : FdAt fdCount _ _ := hf
  unfold whoV ptB at hf
  have hq := (HV1.out _).trans (hb.mono (HV1.out _).size)
  have HV2 := hidD (fun o => hq.trans ((al_bel v2 o).mono hq.size))
  have HF0_2 := hidD (fun o => ((HF0_1.out _).below hb).below (al_bel v2 o))
  have HF1_2 := hidD (fun o => ((HF1_1.out).below hb).below (al_bel v2 o))
  clear hq HF0_1 HF1_1 HV1
  have HF2_2 := hidD (fbx_new hf)
  clear hb hf
  unfold whoV ptB
  go_wp2_with fail
  refine (xDay 40 _).mono ?_
  rintro e v3 ⟨b3, rfl, hf, hb⟩
  have hf : FdAt fdFrom _ _ := hf
  unfold whoV ptB at hf
  have hq := (HV2.out _).trans (hb.mono (HV2.out _).size)
  have HV3 := hidD (fun o => hq.trans ((al_bel v3 o).mono hq.size))
  have HF0_3 := hidD (fun o => ((HF0_2.out _).below hb).below (al_bel v3 o))
  have HF1_3 := hidD (fun o => ((HF1_2.out _).below hb).below (al_bel v3 o))
  have HF2_3 := hidD (fun o => ((HF2_2.out).below hb).below (al_bel v3 o))
  clear hq HF0_2 HF1_2 HF2_2 HV2
  have HF3_3 := hidD (fbx_new hf)
  clear hb hf
  unfold whoV ptB
  go_wp2_with fail
  refine (xDay 41 _).mono ?_
  rintro e v4 ⟨b4, rfl, hf, hb⟩
  have hf : FdAt fdTo _ _ := hf
  unfold whoV ptB at hf
  have hq := (HV3.out _).trans (hb.mono (HV3.out _).size)
  have HV4 := hidD (fun o => hq.trans ((al_bel v4 o).mono hq.size))
  have HF0_4 := hidD (fun o => ((HF0_3.out _).below hb).below (al_bel v4 o))
  have HF1_4 := hidD (fun o => ((HF1_3.out _).below hb).below (al_bel v4 o))
  have HF2_4 := hidD (fun o => ((HF2_3.out _).below hb).below (al_bel v4 o))
  have HF3_4 := hidD (fun o => ((HF3_3.out).below hb).below (al_bel v4 o))
  clear hq HF0_3 HF1_3 HF2_3 HF3_3 HV3
  have HF4_4 := hidD (fbx_new hf)
  clear hb hf
  unfold whoV ptB
  go_wp2_with fail
  refine (xUpTo 8 43 _).mono ?_
  rintro e v5 ⟨b5, rfl, hf, hb⟩
  have hf : FdAt fdCur _ _ := hf
  unfold whoV ptB at hf
  have hq := (HV4.out _).trans (hb.mono (HV4.out _).size)
  have HV5 := hidD (fun o => hq.trans ((al_bel v5 o).mono hq.size))
  have HF0_5 := hidD (fun o => ((HF0_4.out _).below hb).below (al_bel v5 o))
  have HF1_5 := hidD (fun o => ((HF1_4.out _).below hb).below (al_bel v5 o))
  have HF2_5 := hidD (fun o => ((HF2_4.out _).below hb).below (al_bel v5 o))
  have HF3_5 := hidD (fun o => ((HF3_4.out _).below hb).below (al_bel v5 o))
  have HF4_5 := hidD (fun o => ((HF4_4.out).below hb).below (al_bel v5 o))
  clear hq HF0_4 HF1_4 HF2_4 HF3_4 HF4_4 HV4
  have HF5_5 := hidD (fbx_new hf)
  clear hb hf
  unfold whoV ptB
  go_wp2_with fail
  refine (xUpTo 1200 44 _).mono ?_
  rintro e v6 ⟨b6, rfl, hf, hb⟩
  have hf : FdAt fdMon _ _ := hf
  unfold whoV ptB at hf
  have hq := (HV5.out _).trans (hb.mono (HV5.out _).size)
  have HV6 := hidD (fun o => hq.trans ((al_bel v6 o).mono hq.size))
  have HF0_6 := hidD (fun o => ((HF0_5.out _).below hb).below (al_bel v6 o))
  have HF1_6 := hidD (fun o => ((HF1_5.out _).below hb).below (al_bel v6 o))
  have HF2_6 := hidD (fun o => ((HF2_5.out _).below hb).below (al_bel v6 o))
  have HF3_6 := hidD (fun o => ((HF3_5.out _).below hb).below (al_bel v6 o))
  have HF4_6 := hidD (fun o => ((HF4_5.out _).below hb).below (al_bel v6 o))
  have HF5_6 := hidD (fun o => ((HF5_5.out).below hb).below (al_bel v6 o))
  clear hq HF0_5 HF1_5 HF2_5 HF3_5 HF4_5 HF5_5 HV5
  have HF6_6 := hidD (fbx_new hf)
  clear hb hf
  unfold whoV ptB
  go_wp2_with fail
  have HK := hidD (kbase7 (HF0_6.out _) (HF1_6.out _) (HF2_6.out _) (HF3_6.out _) (HF4_6.out _) (HF5_6.out _) HF6_6.out)
  refine region_inv (ops := kinOps) (by kernel_rfl) kin_line _ ?_ (fun D a w i o hI ho _ hd => kin_step HK.out D a w i o hI ho hd) ?_
  · refine ⟨rfl, rfl, rfl, fun j h2 h8 => ?_, ⟨rfl, rfl, rfl, Nat.le_refl _, fun _ _ => rfl⟩, (fun i hi hd => by cases hd), (fun hd => by cases hd)⟩
    rcases (show j = 2 ∨ j = 3 ∨ j = 4 ∨ j = 5 ∨ j = 6 ∨ j = 7 ∨ j = 8 by omega) with rfl | rfl | rfl | rfl | rfl | rfl | rfl <;> rfl
  · intro D a wz hI hall
    obtain ⟨v, hv, ht⟩ := hI.fin (hall 32 (by decide))
    have hb := (HV6.out _).trans (hI.bl.mono (HV6.out _).size)
    have hdf := hI.df
    clear hI hall
    rename_i K hK
    refine hK a wz (wp_ret ?_)
    refine bodyPost_ret (v := v) (by simp [results, Tryz.results18, go_sem, hv]) hdf ⟨v, rfl, ht, hb⟩
end Go.Proofs.YtiiajhomdpfafaaGreatDoor
