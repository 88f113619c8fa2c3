/- Package code: slices.Delete of one of the kept ops. Package code: the trimmer in memory; an op is added. Package code: the trimmer drops an op; what it asks. Package code: the trimmer takes an op that takes a mark away. -/
import Derived.Test.YtienedhaogjahaaGreatDoorHbf
import Derived.Deep.DeepAppendRoom
import Derived.Lib.SliceRun
namespace Go.Proofs.YtienedhaogjahaaGreatDoor
open Go.RowKit

def keC (x : Opr × Int) : Array Value := #[.int .i64 x.1.kind, .float .f64 x.1.x, .float .f64 x.1.y, .int .i64 x.1.day, .int .i64 x.1.to, .int .i64 x.1.cur, .int .i64 x.1.count, .int .i64 x.1.n, .int .i64 x.1.months, .int .i64 x.2]
theorem keC_size (x : Opr × Int) : (keC x).size = 10 := rfl
theorem keC_one (x : Opr × Int) : ∀ u ∈ (keC x).toList, u.oneCell' = true := fun u h => by
  simp only [keC, List.mem_cons, List.not_mem_nil, or_false] at h
  rcases h with rfl | rfl | rfl | rfl | rfl | rfl | rfl | rfl | rfl | rfl <;> rfl
def zKe : Value := .agg #[.int .i64 0, .float .f64 0, .float .f64 0, .int .i64 0, .int .i64 0, .int .i64 0, .int .i64 0, .int .i64 0, .int .i64 0, .int .i64 0]
def zRow : List Value := [.int .i64 0, .float .f64 0, .float .f64 0, .int .i64 0, .int .i64 0, .int .i64 0, .int .i64 0, .int .i64 0, .int .i64 0, .int .i64 0]
theorem zKe_row : (Builtin.zeroCells zKe.cells 1).toList = zRow := by kernel_rfl
theorem info_ke : (Tryz.prog.info? 122).map (fun i => (i.zero, i.size, i.bytes)) = some (some zKe, 10, 80) := by kernel_rfl
theorem run_clear_ke (w : World) (ty : TypeId) (b o c : Nat) (hc : ∀ j, j < 10 → (w.cell? ⟨b, o + j, none⟩).isSome = true) (hf : ∀ j, j < 10 → w.frozen? ⟨b, o + j, none⟩ = false) :
    (Builtin.clear_ #[116] ty #[.slice (some ⟨b, o, none⟩) 1 c]).run Tryz.prog w = .ok (.tuple #[]) (w.setCells b o zRow) := by
  have hst := run_storeCells_cells (P := Tryz.prog) b o zRow 0 w (by simpa [zRow] using hc) (by simpa [zRow] using hf) (by
    intro v hv
    simp only [zRow, List.mem_cons, List.not_mem_nil, or_false] at hv
    rcases hv with rfl | rfl | rfl | rfl | rfl | rfl | rfl | rfl | rfl | rfl <;> rfl)
  simp only [Nat.add_zero] at hst
  have hz := zKe_row
  unfold zKe at hz
  simp [Builtin.clear_, run_underlying Tryz.underlying116, hz, hst]
theorem setCells_grown (g : Nat) : ∀ (vs : List Value) (o : Nat) (w : World), w.grownBy (w.setCells g o vs) (some g)
  | [], _, w => World.grownBy.refl w _
  | v :: r, o, w => (⟨rfl, rfl, rfl, by simp, fun k hk hne => blkF_far _ _ _ _ (fun e => hne (by rw [e]))⟩ : w.grownBy (w.setCell ⟨g, o, none⟩ v) (some g)).trans (setCells_grown g r (o + 1) _)
theorem setCells_blk (g : Nat) (T : TypeId) : ∀ (vs : List Value) (o : Nat) (cur : Array Value) (w : World), w.heap[g]? = some (.cells cur T) → o + vs.length ≤ cur.size → ∃ cur', (w.setCells g o vs).heap[g]? = some (.cells cur' T) ∧ cur'.size = cur.size ∧ cur'.toList.take o = cur.toList.take o
  | [], o, cur, w, h, _ => ⟨cur, h, rfl, rfl⟩
  | v :: vs, o, cur, w, h, hl => by
    have h1 : (w.setCell ⟨g, o, none⟩ v).heap[g]? = some (.cells (cur.setIfInBounds o v) T) := heap_setCell_same w g o _ _ _ h
    obtain ⟨cur', a, b, c⟩ := setCells_blk g T vs (o + 1) _ _ h1 (by simp at hl ⊢; omega)
    refine ⟨cur', a, by rw [b]; simp, ?_⟩
    have c' := congrArg (List.take o) c
    rw [List.take_take, List.take_take, Nat.min_eq_left (by omega)] at c'
    rw [c', Array.toList_setIfInBounds, List.take_set_of_le (Nat.le_refl _)]
theorem orow_spoil {B T sz g n c o : Nat} {xs : List Value} {w : World} (h : w.ownsRow B T sz (.slice (some ⟨g, 0, none⟩) n c) n xs) (vs : List Value) (ho : n * sz ≤ o) (hv : o + vs.length ≤ c * sz) : (w.setCells g o vs).ownsRow B T sz (.slice (some ⟨g, 0, none⟩) n c) n xs ∧ w.grownBy (w.setCells g o vs) (some g) := by
  rcases h.2 with ⟨h0, _⟩ | ⟨g', cap, cur, e, hB, hg, h1, h2, h3, h4⟩
  · cases h0
  · injection e with e1 _ e3
    injection e1 with e1
    injection e1 with e1 _ _
    subst e1 e3
    obtain ⟨cur', a, b, d⟩ := setCells_blk g T vs o cur w hg (by omega)
    refine ⟨⟨h.1, .inr ⟨g, c, cur', rfl, hB, a, h1, h2, by omega, ?_⟩⟩, ?_⟩
    · have d' := congrArg (List.take (n * sz)) d
      rw [List.take_take, List.take_take, Nat.min_eq_left ho] at d'
      rw [d', h4]
    · exact setCells_grown g vs o w
theorem orow_room {B T sz g n c : Nat} {xs : List Value} {w : World} (h : w.ownsRow B T sz (.slice (some ⟨g, 0, none⟩) n c) n xs) (j : Nat) (hj : j < c * sz) : (w.cell? ⟨g, j, none⟩).isSome = true ∧ w.frozen? ⟨g, j, none⟩ = false := by
  rcases h.2 with ⟨h0, _⟩ | ⟨g', cap, cur, e, hB, hg, h1, h2, h3, h4⟩
  · cases h0
  · injection e with e1 _ e3
    injection e1 with e1
    injection e1 with e1 _ _
    subst e1 e3
    refine ⟨?_, by simp [World.frozen?, hg]⟩
    simp only [World.cell?, hg, Option.isSome_none, Bool.false_eq_true, if_false]
    rw [Array.getElem?_eq_getElem (by omega)]
    rfl
theorem rowV_drop {α : Type} {f : α → Array Value} {s : Nat} (hf : ∀ o, (f o).size = s) (l : List α) (k : Nat) (hk : k ≤ l.length) (j : Nat) : (rowV f (l.drop k))[j]? = (rowV f l)[k * s + j]? := by
  have h1 : (rowV f (l.take k)).length = k * s := by rw [rowV_len hf, List.length_take, Nat.min_eq_left hk]
  have h2 : rowV f l = rowV f (l.take k) ++ rowV f (l.drop k) := by rw [← rowV_append, List.take_append_drop]
  rw [h2, List.getElem?_append_right (by omega), h1, Nat.add_sub_cancel_left]
theorem step_append_sp {T ST : TypeId} {z : Value} {sz bt : Nat} (hu : Tryz.prog.underlying ST = some (.slice T)) (hinf : (Tryz.prog.info? T).map (fun i => (i.zero, i.size, i.bytes)) = some (some z, sz, bt))
    {ops : Array Oper} {o : Oper} {a : Act} {w : World} {K : Act → World → Prop} {Q : Exit → Act → World → Prop} {E : Prop} (hgd : o.guard = none) (s x : Operand)
    (ho : o.op = .call { callee := .builtin .append, args := #[s, x], argTypes := #[ST, ST] })
    (B g n c : Nat) (xs : List Value) (hs : a.eval s = .slice (some ⟨g, 0, none⟩) n c) (hown : w.ownsRow B T sz (.slice (some ⟨g, 0, none⟩) n c) n xs)
    (off m c2 : Nat) (news : List Value) (hx : a.eval x = .slice (some ⟨g, off, none⟩) m c2) (hl : news.length = m * sz) (hc : ∀ j u, news[j]? = some u → w.cell? ⟨g, off + j, none⟩ = some u) (h1 : ∀ u ∈ news, u.oneCell' = true) (hroom : n + m ≤ c)
    (h : ∀ w', w'.ownsRow B T sz (.slice (some ⟨g, 0, none⟩) (n + m) c) (n + m) (xs ++ news) → w.grownBy w' (some g) → K (a.put o.dst (.slice (some ⟨g, 0, none⟩) (n + m) c)) w') :
    if Region.wanted o (yielded ops a.tmps) = true then Oper.wp Tryz.prog o a w K Q else E := by
  have hw : Region.wanted o (yielded ops a.tmps) = true := by simp [Region.wanted, hgd]
  rw [if_pos hw]
  obtain ⟨i0, hi, _, hz1, _⟩ := info_partsD hinf
  refine wp_append_own_spare w s x ST ho B T i0 sz hu hi hz1 g n c xs hs hown ⟨g, off, none⟩ m c2 news hx hl ?_ h1 hroom h
  intro j u hj
  rw [Addr.add_lit]
  exact hc j u hj
set_option maxRecDepth 20000 in
set_option maxHeartbeats 12800000 in
theorem del_one (B g m c i : Nat) (xs : List (Opr × Int)) (hx : xs.length = m + 1) (hi : i ≤ m) (hm : m ≤ 100000) (w : World) (ho : w.ownsRow B 122 10 (.slice (some ⟨g, 0, none⟩) (m + 1) c) (m + 1) (rowV keC xs)) :
    Calls Tryz.prog 133 #[.slice (some ⟨g, 0, none⟩) (m + 1) c, .int .i64 i, .int .i64 ((i : Int) + 1)] w fun e w' => e = .returned (.slice (some ⟨g, 0, none⟩) m c) ∧ w'.ownsRow B 122 10 (.slice (some ⟨g, 0, none⟩) m c) m (rowV keC (xs.take i ++ xs.drop (i + 1))) ∧ w.grownBy w' (some g) := by
  obtain ⟨p', c', g', hv, hcc, hcm, hps, _, _, hcl, htk⟩ := orow_src ho
  injection hv with hv1 _ hv3
  subst hv1 hv3
  have hv2 := hps (by omega)
  injection hv2 with hv2
  injection hv2 with hv2 _ _
  subst hv2
  have HO := hidD (htk i (by omega))
  rw [← rowV_take keC_size] at HO
  obtain ⟨d, hd⟩ : ∃ d, m = i + d := ⟨m - i, by omega⟩
  subst hd
  have hcm' : c ≤ 9223372036854775807 := by unfold maxLen at hcm; omega
  have i0 : ((i : Int) == (i : Int) + 1) = false := beq_eq_false_iff_ne.2 (by omega)
  have i1 : (0 : Int) ≤ (i : Int) := by omega
  have i2 : (i : Int) ≤ (i : Int) + 1 := by omega
  have i3 : (i : Int) + 1 ≤ ((i + d + 1 : Nat) : Int) := by omega
  have i4 : ((i + d + 1 : Nat) : Int) ≤ (c : Int) := by omega
  have i5 : (i : Int) ≤ (c : Int) := by omega
  have i6 : ¬ (i : Int) < 0 := by omega
  have i7 : ¬ (c : Int) < (i : Int) := by omega
  have i8 : ((i + d + 1 : Nat) : Int) - ((i : Int) + 1) = (d : Int) := by omega
  have HW := hidD ho
  have HC := hidD hcl
  have e1 : i + d + 1 - (i + 1) = d := by omega
  have e2 : i + d + 1 - (i + d) = 1 := by omega
  have HX := hidD hx
  have HCd : Hid (∀ off, (d = 0 ∨ off = (i + 1) * 10) → ∀ j u, (rowV keC (xs.drop (i + 1)))[j]? = some u → w.cell? ⟨g, off + j, none⟩ = some u) := fun off ho j u hj => by
    have hlt := (List.getElem?_eq_some_iff.1 hj).1
    rw [rowV_len keC_size, List.length_drop, HX.out, e1] at hlt
    rcases ho with rfl | rfl
    · omega
    rw [rowV_drop keC_size xs (i + 1) (by omega)] at hj
    rw [HC.out _ (by omega)]
    exact hj
  have HLd : Hid ((rowV keC (xs.drop (i + 1))).length = d * 10) := by show _ = _; rw [rowV_len keC_size, List.length_drop, HX.out, e1]
  clear hcl htk hps ho hcm hx
  have i9 : (0 : Int) ≤ (i : Int) + 1 := by omega
  have i10 : (i : Int) ≤ (i : Int) + (d : Int) := by omega
  have i11 : ¬ c = i + d := by omega
  by_cases hce : c = i + 1
  · subst hce
    obtain rfl : d = 0 := by omega
    go_enter Tryz.func133, Tryz.ntmps133
    go_wp2_with fail
    go_region_law (refine step_append_sp Tryz.underlying116 info_ke rfl (.tmp 22) (.tmp 25) rfl B g i (i + 1) (rowV keC (xs.take i)) rfl (orow_keep HO.out (fun _ _ => rfl)) 0 0 _ (rowV keC (xs.drop (i + 1))) rfl HLd.out (HCd.out _ (by first | exact Or.inl rfl | exact Or.inl trivial | simp)) (rowV_one keC_one _) (by omega) ?_; intro w5 ho5 hg5; rw [← rowV_append] at ho5; have HO5 := hidD ho5; have HG5 := hidD hg5; have hclr : ∀ ty c2, (Builtin.clear_ #[116] ty #[.slice (some ⟨g, i * 10, none⟩) 1 c2]).run Tryz.prog w5 = .ok (.tuple #[]) (w5.setCells g (i * 10) zRow) := fun ty c2 => run_clear_ke w5 ty g (i * 10) c2 (fun j hj => (orow_room HO5.out _ (by omega)).1) (fun j hj => (orow_room HO5.out _ (by omega)).2); have HE := hidD (orow_spoil HO5.out zRow (Nat.le_refl _) (by show _ + 10 ≤ _; omega)); clear ho5 hg5)
    all_goals
      go_wp2_with fail
      go_ret
      exact ⟨rfl, HE.out.1, (World.grownBy.trans (show w.grownBy w5 (some g) from ⟨HG5.out.os, HG5.out.tape, HG5.out.output, HG5.out.size, HG5.out.block⟩) HE.out.2)⟩
  · go_enter Tryz.func133, Tryz.ntmps133
    go_wp2_with fail
    go_region_law (refine step_append_sp Tryz.underlying116 info_ke rfl (.tmp 22) (.tmp 25) rfl B g i c (rowV keC (xs.take i)) rfl (orow_keep HO.out (fun _ _ => rfl)) ((i + 1) * 10) d _ (rowV keC (xs.drop (i + 1))) rfl HLd.out (HCd.out _ (Or.inr rfl)) (rowV_one keC_one _) (by omega) ?_; intro w5 ho5 hg5; rw [← rowV_append] at ho5; have HO5 := hidD ho5; have HG5 := hidD hg5; have hclr : ∀ ty c2, (Builtin.clear_ #[116] ty #[.slice (some ⟨g, (i + d) * 10, none⟩) 1 c2]).run Tryz.prog w5 = .ok (.tuple #[]) (w5.setCells g ((i + d) * 10) zRow) := fun ty c2 => run_clear_ke w5 ty g ((i + d) * 10) c2 (fun j hj => (orow_room HO5.out _ (by omega)).1) (fun j hj => (orow_room HO5.out _ (by omega)).2); have HE := hidD (orow_spoil HO5.out zRow (Nat.le_refl _) (by show _ + 10 ≤ _; omega)); clear ho5 hg5)
    all_goals
      go_wp2_with fail
      go_ret
      exact ⟨rfl, HE.out.1, (World.grownBy.trans (show w.grownBy w5 (some g) from ⟨HG5.out.os, HG5.out.tape, HG5.out.output, HG5.out.size, HG5.out.block⟩) HE.out.2)⟩
end Go.Proofs.YtienedhaogjahaaGreatDoor
namespace Go.Proofs.YtienedhaogjahaaGreatDoor
open Go.RowKit

def inC (n : Int) : Array Value := #[.int .i64 n]
theorem inC_size (n : Int) : (inC n).size = 1 := rfl
theorem inC_one (n : Int) : ∀ u ∈ (inC n).toList, u.oneCell' = true := fun u h => by
  simp only [inC, List.mem_cons, List.not_mem_nil, or_false] at h
  subst h; rfl
structure TrM (B b : Nat) (cv mv : Value) (cs : List (Opr × Int)) (ms : List Int) (w : World) : Prop where
  box : w.heap[b]? = some (.cells #[cv, mv] 118)
  code : w.ownsRow B 122 10 cv cs.length (rowV keC cs)
  marks : w.ownsRow B 3 1 mv ms.length (rowV inC ms)
theorem TrM.below {B b : Nat} {cv mv : Value} {cs : List (Opr × Int)} {ms : List Int} {w w' : World} (h : TrM B b cv mv cs ms w) (hb : Below w.heap.size w w') : TrM B b cv mv cs ms w' :=
  ⟨(hb.block _ (lt_of_blk h.box)).trans h.box, orow_below h.code hb, orow_below h.marks hb⟩
theorem TrM.cells {B b : Nat} {cv mv : Value} {cs : List (Opr × Int)} {ms : List Int} {w : World} (h : TrM B b cv mv cs ms w) : w.cell? ⟨b, 0, none⟩ = some cv ∧ w.cell? ⟨b, 1, none⟩ = some mv ∧ ∀ i, w.frozen? ⟨b, i, none⟩ = false := by
  have h := h.box
  refine ⟨?_, ?_, fun i => by simp [World.frozen?, h]⟩ <;>
  · simp only [World.cell?, h, Option.isSome_none, Bool.false_eq_true, if_false]; rfl
theorem orow_box {B sz n b : Nat} {T T' : TypeId} {v : Value} {xs : List Value} {w : World} {cur : Array Value} (h : w.ownsRow B T sz v n xs) (hb : w.heap[b]? = some (.cells cur T')) (hT : T ≠ T') : ∀ g, v.ownBlock = some g → g ≠ b := fun g hg e => by
  subst e
  rcases h.2 with ⟨rfl, _⟩ | ⟨g', cap, cur', rfl, _, hgg, _⟩
  · cases hg
  · have : g' = g := by simpa [Value.ownBlock] using hg
    subst this
    rw [hb] at hgg
    injection hgg with hgg
    injection hgg with _ hgg
    exact hT hgg.symm
theorem TrM.recode {B b : Nat} {cv mv cv' : Value} {cs cs' : List (Opr × Int)} {ms : List Int} {w w5 : World} (h : TrM B b cv mv cs ms w) (hb : B ≤ b) (hB : B ≤ w.heap.size) (hg : w.grownBy w5 cv.ownBlock) (ho : w5.ownsRow B 122 10 cv' cs'.length (rowV keC cs')) :
    w5.heap[b]? = some (.cells #[cv, mv] 118) ∧ TrM B b cv' mv cs' ms (w5.setCell ⟨b, 0, none⟩ cv') ∧ Below B w (w5.setCell ⟨b, 0, none⟩ cv') := by
  have h5 : w5.heap[b]? = some (.cells #[cv, mv] 118) := (hg.block b (lt_of_blk h.box) (fun e => orow_box h.code h.box (by decide) b e.symm rfl)).trans h.box
  refine ⟨h5, ⟨(heap_setCell_same w5 b 0 _ _ _ h5).trans rfl, orow_keep ho fun g hg => blkF_far _ _ _ _ (orow_box ho h5 (by decide) g hg), ?_⟩, (orow_grown h.code hg hB).setCell (p := ⟨b, 0, none⟩) hb _⟩
  have hm := h.marks.kept hg (orow_apart h.marks h.code (by decide))
  exact orow_keep hm fun g hg => blkF_far _ _ _ _ (orow_box hm h5 (by decide) g hg)
theorem TrM.remark {B b : Nat} {cv mv mv' : Value} {cs : List (Opr × Int)} {ms ms' : List Int} {w w5 : World} (h : TrM B b cv mv cs ms w) (hb : B ≤ b) (hB : B ≤ w.heap.size) (hg : w.grownBy w5 mv.ownBlock) (ho : w5.ownsRow B 3 1 mv' ms'.length (rowV inC ms')) :
    w5.heap[b]? = some (.cells #[cv, mv] 118) ∧ TrM B b cv mv' cs ms' (w5.setCell ⟨b, 1, none⟩ mv') ∧ Below B w (w5.setCell ⟨b, 1, none⟩ mv') := by
  have h5 : w5.heap[b]? = some (.cells #[cv, mv] 118) := (hg.block b (lt_of_blk h.box) (fun e => orow_box h.marks h.box (by decide) b e.symm rfl)).trans h.box
  have hc := h.code.kept hg (orow_apart h.code h.marks (by decide))
  exact ⟨h5, ⟨(heap_setCell_same w5 b 1 _ _ _ h5).trans rfl, orow_keep hc fun g hg => blkF_far _ _ _ _ (orow_box hc h5 (by decide) g hg), orow_keep ho fun g hg => blkF_far _ _ _ _ (orow_box ho h5 (by decide) g hg)⟩, (orow_grown h.marks hg hB).setCell (p := ⟨b, 1, none⟩) hb _⟩
theorem ke_cells (w : World) (o : Opr) (k : Int) : ∀ j u, (rowV keC [(o, k)])[j]? = some u → (w.alloc (.cells (keC (o, k)) 122)).cell? ⟨w.heap.size, j, none⟩ = some u := fun j u hj => new_cells w (keC (o, k)) _ j u (by simpa [rowV] using hj)
set_option maxRecDepth 20000 in
set_option maxHeartbeats 12800000 in
theorem trAdd_any (B b : Nat) (cv mv : Value) (cs : List (Opr × Int)) (ms : List Int) (o : Opr) (k : Int) (w : World) (h : TrM B b cv mv cs ms w) (hb : B ≤ b) (hn : cs.length ≤ 100000) :
    Calls Tryz.prog 56 #[.pointer (some ⟨b, 0, none⟩), .agg (opC o), .int .i64 k] w fun e w' => e = .returned (.tuple #[]) ∧ ∃ v, TrM B b v mv (cs ++ [(o, k)]) ms w' ∧ Below B w w' := by
  have hbw := lt_of_blk h.box
  have HBw : Hid (B ≤ w.heap.size) := by show _ ≤ _; omega
  obtain ⟨p, c, g, hcv, _⟩ := orow_src h.code
  subst hcv
  have HW1 := hidD (al_bel w (.cells (opC o) 47))
  have H1 := hidD (h.below HW1.out)
  have HT1 : Hid ((w.alloc (.cells (opC o) 47)).heap[w.heap.size]? = some (.cells (opC o) 47)) := heap_alloc_new _ _
  have hst := store_fltD
  have HN := hidD hn
  have HBb := hidD hb
  clear h hn
  unfold opC at H1 HT1 HW1 ⊢
  have hs1 : (w.alloc (.cells #[.int .i64 o.kind, .float .f64 o.x, .float .f64 o.y, .int .i64 o.day, .int .i64 o.to, .int .i64 o.cur, .int .i64 o.count, .int .i64 o.n, .int .i64 o.months] 47)).heap.size = w.heap.size + 1 := by simp
  go_enter Tryz.func56, Tryz.ntmps56
  go_wp2_with fail
  obtain ⟨w1, hw1⟩ : ∃ w1, w.alloc (.cells #[.int .i64 o.kind, .float .f64 o.x, .float .f64 o.y, .int .i64 o.day, .int .i64 o.to, .int .i64 o.cur, .int .i64 o.count, .int .i64 o.n, .int .i64 o.months] 47) = w1 := ⟨_, rfl⟩
  rw [hw1] at H1 HT1 HW1 hs1 ⊢
  obtain ⟨L, hL⟩ : ∃ L, cs.length = L := ⟨_, rfl⟩
  have HL := hidD hL
  have HB1 : Hid (B ≤ w1.heap.size) := Nat.le_trans HBw.out HW1.out.size
  obtain ⟨r0, _, rf⟩ := H1.out.cells
  have y0 := rf 0
  have z0 := (opx_cells HT1.out 0 rfl).1
  have z1 := (opx_cells HT1.out 1 rfl).1
  have z2 := (opx_cells HT1.out 2 rfl).1
  have z3 := (opx_cells HT1.out 3 rfl).1
  have z4 := (opx_cells HT1.out 4 rfl).1
  have z5 := (opx_cells HT1.out 5 rfl).1
  have z6 := (opx_cells HT1.out 6 rfl).1
  have z7 := (opx_cells HT1.out 7 rfl).1
  have z8 := (opx_cells HT1.out 8 rfl).1
  rw [hL] at r0
  have hb1 : b < w1.heap.size := lt_of_blk H1.out.box
  have hb2 : b ≠ w1.heap.size := Nat.ne_of_lt hb1
  have hR1 : w.heap.size < w1.heap.size := by omega
  have hR2 : w.heap.size ≠ w1.heap.size := Nat.ne_of_lt hR1
  have HA : Hid (TrM B b (.slice p L c) mv cs ms (w1.drew.alloc (.cells (keC (o, k)) 122))) := by
    have := H1.out
    rw [hL] at this
    exact this.below ((Below.refl _ _).drew.alloc (Nat.le_refl _) _)
  have HBA : Hid (B ≤ (w1.drew.alloc (.cells (keC (o, k)) 122)).heap.size) := Nat.le_trans HB1.out (by simp)
  have HCA := hidD (ke_cells w1.drew o k)
  have HNA : Hid (L ≤ 100000) := by show _ ≤ _; rw [← hL]; exact HN.out
  unfold keC at HA HCA HBA
  clear hw1 hs1 rf hL hbw
  have HR : Hid (∀ w5 v5, w5.ownsRow B 122 10 v5 (L + 1) (rowV keC cs ++ rowV keC [(o, k)]) → World.grownBy (w1.drew.alloc (.cells #[.int .i64 o.kind, .float .f64 o.x, .float .f64 o.y, .int .i64 o.day, .int .i64 o.to, .int .i64 o.cur, .int .i64 o.count, .int .i64 o.n, .int .i64 o.months, .int .i64 k] 122)) w5 (Value.slice p L c).ownBlock → w5.heap[b]? = some (.cells #[.slice p L c, mv] 118) ∧ TrM B b v5 mv (cs ++ [(o, k)]) ms (w5.setCell ⟨b, 0, none⟩ v5) ∧ Below B w (w5.setCell ⟨b, 0, none⟩ v5)) := fun w5 v5 h5 g5 => by
    have h6 := HA.out.recode HBb.out HBA.out g5 (cs' := cs ++ [(o, k)]) (row_more (by rw [HL.out]; exact h5) rfl)
    exact ⟨h6.1, h6.2.1, ((HW1.out.mono HBw.out).trans ((Below.refl B w1).drew.alloc HB1.out _)).trans h6.2.2⟩
  go_region_law (refine step_append_g Tryz.underlying116 info_ke rfl (by decide) rfl (.tmp 10) (.tmp 14) rfl B (.slice p L c) L (rowV keC cs) rfl (by have := HA.out.code; rw [HL.out] at this; exact this) HBA.out w1.heap.size 1 1 (rowV keC [(o, k)]) rfl rfl HCA.out (rowV_one keC_one _) (by have := HNA.out; omega) (by have := HNA.out; omega) ?_; intro v5 w5 ho5 hg5; have te := HR.out w5 v5 ho5 hg5; obtain ⟨p5, c5, g5, hv5, _, _, hp5, _⟩ := orow_src ho5; obtain rfl := hp5 (by omega); subst hv5; clear hp5; have HTE := hidD te; have q5 := (opx_cells te.1 0 rfl).1; have y5 := (opx_cells te.1 0 rfl).2; clear ho5 hg5 te)
  all_goals
    go_wp2_with fail
    exact bodyPost_end (v := .tuple #[]) (by simp [results, Tryz.results56, go_sem]) rfl ⟨rfl, ⟨_, HTE.out.2.1⟩, HTE.out.2.2⟩
end Go.Proofs.YtienedhaogjahaaGreatDoor
namespace Go.Proofs.YtienedhaogjahaaGreatDoor
open Go.RowKit

theorem TrM.shape {B b : Nat} {cv mv : Value} {cs : List (Opr × Int)} {ms : List Int} {w : World} (h : TrM B b cv mv cs ms w) (hn : 0 < cs.length) : ∃ g c, cv = .slice (some ⟨g, 0, none⟩) cs.length c := by
  obtain ⟨p, c, g, hcv, _, _, hp, _⟩ := orow_src h.code
  rw [hp hn] at hcv
  exact ⟨g, c, hcv⟩
theorem TrM.shapeM {B b : Nat} {cv mv : Value} {cs : List (Opr × Int)} {ms : List Int} {w : World} (h : TrM B b cv mv cs ms w) (hn : 0 < ms.length) : ∃ g c, mv = .slice (some ⟨g, 0, none⟩) ms.length c ∧ ms.length ≤ c ∧ (∀ j < ms.length, w.cell? ⟨g, j, none⟩ = some (.int .i64 (ms.getD j 0))) ∧ ∀ k ≤ ms.length, w.ownsRow B 3 1 (.slice (some ⟨g, 0, none⟩) k c) k (rowV inC (ms.take k)) := by
  obtain ⟨p, c, g, hmv, hc, _, hp, _, _, hcl, htk⟩ := orow_src h.marks
  have e := hp hn
  subst e
  refine ⟨g, c, hmv, hc, fun j hj => ?_, fun k hk => ?_⟩
  · rw [hcl j (by omega)]
    have := rowV_get inC_size 0 ms j 0 hj (by decide)
    rw [Nat.mul_one, Nat.add_zero] at this
    rw [this]
    rfl
  · rw [rowV_take inC_size]
    exact htk k hk
set_option maxRecDepth 20000 in
set_option maxHeartbeats 12800000 in
theorem trDrop_any (B b i m : Nat) (cv mv : Value) (cs : List (Opr × Int)) (ms : List Int) (w : World) (h : TrM B b cv mv cs ms w) (hb : B ≤ b) (hc : cs.length = m + 1) (hi : i ≤ m) (hm : m ≤ 100000) :
    Calls Tryz.prog 94 #[.pointer (some ⟨b, 0, none⟩), .int .i64 i] w fun e w' => e = .returned (.tuple #[]) ∧ ∃ v, TrM B b v mv (cs.take i ++ cs.drop (i + 1)) ms w' ∧ Below B w w' := by
  obtain ⟨g, c, rfl⟩ := h.shape (by omega)
  rw [hc] at h
  have hbw := lt_of_blk h.box
  have HBw : Hid (B ≤ w.heap.size) := by show _ ≤ _; omega
  have hl : (cs.take i ++ cs.drop (i + 1)).length = m := by rw [List.length_append, List.length_take, List.length_drop]; omega
  have HD : Hid (Calls Tryz.prog 133 #[.slice (some ⟨g, 0, none⟩) (m + 1) c, .int .i64 i, .int .i64 ((i : Int) + 1)] w fun e w' => e = .returned (.slice (some ⟨g, 0, none⟩) m c) ∧ (w'.heap[b]? = some (.cells #[.slice (some ⟨g, 0, none⟩) (m + 1) c, mv] 118) ∧ TrM B b (.slice (some ⟨g, 0, none⟩) m c) mv (cs.take i ++ cs.drop (i + 1)) ms (w'.setCell ⟨b, 0, none⟩ (.slice (some ⟨g, 0, none⟩) m c)) ∧ Below B w (w'.setCell ⟨b, 0, none⟩ (.slice (some ⟨g, 0, none⟩) m c)))) := by
    refine (del_one B g m c i cs hc hi hm w (by have := h.code; rw [hc] at this; exact this)).mono ?_
    rintro e w' ⟨he, ho, hg⟩
    exact ⟨he, h.recode hb HBw.out hg (by rw [hl]; exact ho)⟩
  obtain ⟨r0, _, rf⟩ := h.cells
  have i1 : (0 : Int) ≤ (i : Int) := by omega
  have i2 : (i : Int) ≤ 100000 := by omega
  have i3 : (i : Int) + 1 ≤ 100001 := by omega
  clear h hc hl rf hbw
  go_enter Tryz.func94, Tryz.ntmps94
  go_wp2_with fail
  refine HD.out.mono ?_
  rintro e w1 ⟨rfl, hx⟩
  have HE := hidD hx
  have q0 := (opx_cells hx.1 0 rfl).1
  have y0 := (opx_cells hx.1 0 rfl).2
  clear hx r0
  go_wp2_with fail
  exact bodyPost_end (v := .tuple #[]) (by simp [results, Tryz.results94, go_sem]) rfl ⟨rfl, _, HE.out.2.1, HE.out.2.2⟩
set_option maxRecDepth 20000 in
set_option maxHeartbeats 3200000 in
theorem turns_no (o : Opr) (h5 : o.kind ≠ 5) (h7 : o.kind ≠ 7) (w : World) : Calls Tryz.prog 93 #[.agg (opC o)] w fun e w' => e = .returned (.bool false) ∧ Below w.heap.size w w' := by
  have z5 : (o.kind == 5) = false := beq_eq_false_iff_ne.2 h5
  have z7 : (o.kind == 7) = false := beq_eq_false_iff_ne.2 h7
  clear h5 h7
  unfold opC
  go_enter Tryz.func93, Tryz.ntmps93
  go_wp2_with fail
  go_ret
  exact ⟨rfl, al_bel _ _⟩
def gabO (x : Opr × Int) (l m : Int) : Bool := x.1.kind == 4 && l - x.2 == m + 1
set_option maxRecDepth 20000 in
set_option maxHeartbeats 6400000 in
theorem gives_any (B b l : Nat) (m : Int) (cv mv : Value) (r : List (Opr × Int)) (x : Opr × Int) (ms : List Int) (w : World) (h : TrM B b cv mv (r ++ [x]) ms w) (hr : r.length = l) (hl : l ≤ 100000) (hm0 : 0 ≤ m) (hm1 : m ≤ 100000) (hx0 : 0 ≤ x.2) (hx1 : x.2 ≤ 100000) :
    Calls Tryz.prog 95 #[.pointer (some ⟨b, 0, none⟩), .int .i64 m] w fun e w' => e = .returned (.bool (gabO x l m)) ∧ Below w.heap.size w w' := by
  obtain ⟨p, c, g, hcv, hcc, _, hp, _, _, hcl, _⟩ := orow_src h.code
  have hlen : (r ++ [x]).length = l + 1 := by simp [hr]
  rw [hlen] at hcv hcc hp hcl
  obtain rfl := hp (by omega)
  subst hcv
  have cc : ∀ j < 10, w.cell? ⟨g, l * 10 + j, none⟩ = (keC x)[j]? := fun j hj => by
    rw [hcl _ (by omega), ← hr]
    exact rowV_end keC_size r x j hj
  obtain ⟨r0, _, rf⟩ := h.cells
  have c0 := cc 0 (by decide)
  have c1 := cc 1 (by decide)
  have c2 := cc 2 (by decide)
  have c3 := cc 3 (by decide)
  have c4 := cc 4 (by decide)
  have c5 := cc 5 (by decide)
  have c6 := cc 6 (by decide)
  have c7 := cc 7 (by decide)
  have c8 := cc 8 (by decide)
  have c9 := cc 9 (by decide)
  obtain ⟨⟨xk, xx, xy, xd, xt, xc, xo, xn, xm⟩, xb⟩ := x
  simp only [keC, Nat.add_zero] at c0 c1 c2 c3 c4 c5 c6 c7 c8 c9
  dsimp only at hx0 hx1
  have i0 : (((l + 1 : Nat) : Int) - 1) = (l : Int) := by omega
  have i1 : (0 : Int) ≤ (l : Int) := by omega
  have i2 : (l : Int) < ((l + 1 : Nat) : Int) := by omega
  have i3 : (l : Int) ≤ 100000 := by omega
  have hst := store_fltD
  have hbl : b < w.heap.size := lt_of_blk h.box
  have hgl : g < w.heap.size := by
    rcases h.code.2 with ⟨h0, _⟩ | ⟨g', _, _, e, _, hg, _⟩
    · cases h0
    · injection e with e _ _
      injection e with e
      injection e with e _ _
      subst e
      exact lt_of_blk hg
  have hbn := Nat.ne_of_lt hbl
  have hgn := Nat.ne_of_lt hgl
  unfold gabO
  clear h hcl cc rf hlen hp hr hbl hgl
  have HB := hidD (al_bel w (.cells #[.int .i64 xk, .float .f64 xx, .float .f64 xy, .int .i64 xd, .int .i64 xt, .int .i64 xc, .int .i64 xo, .int .i64 xn, .int .i64 xm, .int .i64 xb] 122))
  by_cases h4 : xk = 4
  · subst h4
    go_enter Tryz.func95, Tryz.ntmps95
    go_wp2_with fail
    go_ret
    exact ⟨by simp, HB.out⟩
  · have z4 : (xk == 4) = false := beq_eq_false_iff_ne.2 h4
    clear h4
    go_enter Tryz.func95, Tryz.ntmps95
    go_wp2_with fail
    go_ret
    exact ⟨by simp [z4], HB.out⟩
end Go.Proofs.YtienedhaogjahaaGreatDoor
namespace Go.Proofs.YtienedhaogjahaaGreatDoor
open Go.RowKit

def drop3 (r : List (Opr × Int)) (m : Nat) : List (Opr × Int) := (r.take (m + 1) ++ r.drop (m + 1 + 1)).take m ++ (r.take (m + 1) ++ r.drop (m + 1 + 1)).drop (m + 1)
set_option maxRecDepth 20000 in
set_option maxHeartbeats 12800000 in
theorem trTake_any (B b L m N : Nat) (cv mv : Value) (r : List (Opr × Int)) (x : Opr × Int) (ms : List Int) (o : Opr) (w : World) (h : TrM B b cv mv (r ++ [x]) (ms ++ [(m : Int)]) w) (hb : B ≤ b) (hr : r.length = L) (hms : ms.length = N) (hL : L ≤ 90000) (hN : N ≤ 90000) (hm : m < L) (hx0 : 0 ≤ x.2) (hx1 : x.2 ≤ 100000) (hx4 : x.1.kind = 4 → 1 ≤ x.2) (h5 : o.kind ≠ 5) (h7 : o.kind ≠ 7) :
    Calls Tryz.prog 55 #[.pointer (some ⟨b, 0, none⟩), .agg (opC o)] w fun e w' => e = .returned (.tuple #[]) ∧ ∃ v v', TrM B b v v' (if (o.kind == 4 && gabO x L m) = true then drop3 r m else r ++ [x] ++ [(o, (L : Int) + 1 - (m : Int))]) ms w' ∧ Below B w w' := by
  obtain ⟨Z, hZ⟩ : ∃ Z, (if (o.kind == 4 && gabO x L m) = true then drop3 r m else r ++ [x] ++ [(o, (L : Int) + 1 - (m : Int))]) = Z := ⟨_, rfl⟩
  rw [hZ]
  have HZ := hidD hZ
  clear hZ
  have HBb := hidD hb
  have HBw : Hid (B ≤ w.heap.size) := by have := lt_of_blk h.box; show _ ≤ _; omega
  obtain ⟨g, c, hmv, hmc, hcl, htk⟩ := h.shapeM (by simp)
  have hlm : (ms ++ [(m : Int)]).length = N + 1 := by simp [hms]
  rw [hlm] at hmv hmc hcl htk
  subst hmv
  obtain ⟨gc, cc, hcv⟩ := h.shape (by simp)
  have hlc : (r ++ [x]).length = L + 1 := by simp [hr]
  rw [hlc] at hcv
  subst hcv
  have HW1 := hidD (al_bel w (.cells (opC o) 47))
  have H1 := hidD (h.below HW1.out)
  have HT1 : Hid ((w.alloc (.cells (opC o) 47)).heap[w.heap.size]? = some (.cells (opC o) 47)) := heap_alloc_new _ _
  have HM1 : Hid ((w.alloc (.cells (opC o) 47)).cell? ⟨g, N, none⟩ = some (.int .i64 (m : Int)) ∧ (w.alloc (.cells (opC o) 47)).ownsRow B 3 1 (.slice (some ⟨g, 0, none⟩) N c) N (rowV inC ms)) := by
    have e0 := hcl N (by omega)
    have e1 := htk N (by omega)
    rw [← hms, List.take_left, hms] at e1
    have e2 : (ms ++ [(m : Int)]).getD N 0 = (m : Int) := by rw [← hms]; simp [List.getD]
    rw [e2] at e0
    have hgl : g < w.heap.size := by
      rcases h.marks.2 with ⟨h0, _⟩ | ⟨g', _, _, e, _, hg, _⟩
      · cases h0
      · injection e with e _ _
        injection e with e
        injection e with e _ _
        subst e
        exact lt_of_blk hg
    exact ⟨(World.cell?_of_block (w := w) (a := ⟨g, N, none⟩) (HW1.out.block g hgl)).trans e0, orow_below e1 HW1.out⟩
  have HTn : Hid (∀ wx, Calls Tryz.prog 93 #[.agg (opC o)] wx fun e w' => e = .returned (.bool false) ∧ Below wx.heap.size wx w') := fun wx => turns_no o h5 h7 wx
  have HAd : Hid (∀ (wx : World) (mv' : Value), TrM B b (.slice (some ⟨gc, 0, none⟩) (L + 1) cc) mv' (r ++ [x]) ms wx → Calls Tryz.prog 56 #[.pointer (some ⟨b, 0, none⟩), .agg (opC o), .int .i64 ((L : Int) + 1 - (m : Int))] wx fun e w' => e = .returned (.tuple #[]) ∧ ∃ v, TrM B b v mv' (r ++ [x] ++ [(o, (L : Int) + 1 - (m : Int))]) ms w' ∧ Below B wx w') := fun wx mv' t => trAdd_any B b _ mv' _ ms o _ wx t hb (by simp [hr]; omega)
  have HGv : Hid (∀ (wx : World) (cv' mv' : Value), TrM B b cv' mv' (r ++ [x]) ms wx → Calls Tryz.prog 95 #[.pointer (some ⟨b, 0, none⟩), .int .i64 (m : Int)] wx fun e w' => e = .returned (.bool (gabO x L m)) ∧ Below wx.heap.size wx w') := fun wx cv' mv' t => gives_any B b L m cv' mv' r x ms wx t hr (by omega) (by omega) (by omega) hx0 hx1
  have HD1 : Hid (∀ (wx : World) (cv' mv' : Value), TrM B b cv' mv' (r ++ [x]) ms wx → Calls Tryz.prog 94 #[.pointer (some ⟨b, 0, none⟩), .int .i64 (L : Int)] wx fun e w' => e = .returned (.tuple #[]) ∧ ∃ v, TrM B b v mv' r ms w' ∧ Below B wx w') := fun wx cv' mv' t => by
    have d := trDrop_any B b L L cv' mv' (r ++ [x]) ms wx t hb (by simp [hr]) (Nat.le_refl _) (by omega)
    rw [← hr, List.take_left, List.drop_eq_nil_of_le (by simp), List.append_nil] at d
    rw [← hr]
    exact d
  have HD2 : Hid (∀ (wx : World) (cv' mv' : Value), m + 2 ≤ L → TrM B b cv' mv' r ms wx → Calls Tryz.prog 94 #[.pointer (some ⟨b, 0, none⟩), .int .i64 ((m : Int) + 1)] wx fun e w' => e = .returned (.tuple #[]) ∧ ∃ v, TrM B b v mv' (r.take (m + 1) ++ r.drop (m + 1 + 1)) ms w' ∧ Below B wx w') := fun wx cv' mv' h2 t => trDrop_any B b (m + 1) (L - 1) cv' mv' r ms wx t hb (by omega) (by omega) (by omega)
  have HD3 : Hid (∀ (wx : World) (cv' mv' : Value), m + 2 ≤ L → TrM B b cv' mv' (r.take (m + 1) ++ r.drop (m + 1 + 1)) ms wx → Calls Tryz.prog 94 #[.pointer (some ⟨b, 0, none⟩), .int .i64 (m : Int)] wx fun e w' => e = .returned (.tuple #[]) ∧ ∃ v, TrM B b v mv' (drop3 r m) ms w' ∧ Below B wx w') := fun wx cv' mv' h2 t => trDrop_any B b m (L - 2) cv' mv' _ ms wx t hb (by rw [List.length_append, List.length_take, List.length_drop]; omega) (by omega) (by omega)
  have HGt : Hid (gabO x L m = true → m + 2 ≤ L) := fun e => by
    unfold gabO at e
    rw [Bool.and_eq_true, beq_iff_eq, beq_iff_eq] at e
    have := hx4 e.1
    omega
  have hst := store_fltD
  have HHr := hidD hr
  have HHm := hidD hms
  clear h hcl htk h5 h7 hlm hlc
  unfold opC at HW1 H1 HT1 HM1 HTn HAd ⊢
  have i0 : (((N + 1 : Nat) : Int) - 1) = (N : Int) := by omega
  have i1 : (0 : Int) ≤ (N : Int) := by omega
  have i2 : (N : Int) < ((N + 1 : Nat) : Int) := by omega
  have i3 : (N : Int) ≤ (c : Int) := by omega
  have i4 : (((L + 1 : Nat) : Int) - 1) = (L : Int) := by omega
  have i5 : ¬ (m : Int) = (L : Int) := by omega
  have i6 : ((m : Int) == (L : Int)) = false := beq_eq_false_iff_ne.2 i5
  have i7 : ¬ (c : Int) < (N : Int) := by omega
  have i8 : N ≤ c := by omega
  have iw : IntKind.i64.wrap (N : Int) = (N : Int) := by rw [IntKind.wrap_i64]; omega
  have iv : IntKind.i64.wrap (L : Int) = (L : Int) := by rw [IntKind.wrap_i64]; omega
  have iu : IntKind.i64.wrap ((L : Int) + 1 - (m : Int)) = (L : Int) + 1 - (m : Int) := by rw [IntKind.wrap_i64]; omega
  have it : IntKind.i64.wrap ((m : Int) + 1) = (m : Int) + 1 := by rw [IntKind.wrap_i64]; omega
  have i9 : N ≤ N + 1 := by omega
  go_enter Tryz.func55, Tryz.ntmps55
  go_wp2_with fail
  obtain ⟨w1, hw1⟩ : ∃ w1, w.alloc (.cells #[.int .i64 o.kind, .float .f64 o.x, .float .f64 o.y, .int .i64 o.day, .int .i64 o.to, .int .i64 o.cur, .int .i64 o.count, .int .i64 o.n, .int .i64 o.months] 47) = w1 := ⟨_, rfl⟩
  rw [hw1] at HW1 H1 HT1 HM1 ⊢
  clear hw1
  have HB1 : Hid (Below B w w1 ∧ B ≤ w1.heap.size) := ⟨HW1.out.mono HBw.out, Nat.le_trans HBw.out HW1.out.size⟩
  obtain ⟨r0, r1, rf⟩ := H1.out.cells
  have y1 := rf 1
  have m0 := HM1.out.1
  clear rf HW1
  go_quiet (fail)
  go_wp2_with fail
  obtain ⟨w2, hw2⟩ : ∃ wq, World.drewN w1 nq = wq := ⟨_, rfl⟩
  have HK2 : Hid (Below w1.heap.size w1 w2) := by show Below _ _ _; rw [← hw2]; exact ⟨rfl, rfl, rfl, Nat.le_refl _, fun _ _ => rfl⟩
  rw [hw2]
  clear hw2 r0 r1 y1 m0
  have H2 := hidD (H1.out.below HK2.out)
  have HM2 := hidD (orow_below HM1.out.2 HK2.out)
  have HT2 : Hid (w2.heap[w.heap.size]? = some (.cells #[.int .i64 o.kind, .float .f64 o.x, .float .f64 o.y, .int .i64 o.day, .int .i64 o.to, .int .i64 o.cur, .int .i64 o.count, .int .i64 o.n, .int .i64 o.months] 47)) := (HK2.out.block _ (lt_of_blk HT1.out)).trans HT1.out
  have HB2 : Hid (Below B w w2 ∧ B ≤ w2.heap.size) := ⟨HB1.out.1.trans (HK2.out.mono HB1.out.2), Nat.le_trans HB1.out.2 HK2.out.size⟩
  clear H1 HM1 HT1 HB1 HK2
  obtain ⟨r0, r1, rf⟩ := H2.out.cells
  have y1 := rf 1
  clear rf
  go_region_with (fail)
  all_goals
    obtain ⟨w3, hw3⟩ : ∃ w3, World.drew (w2.setCell ⟨b, 1, none⟩ (.slice (some ⟨g, 0, none⟩) N c)) = w3 := ⟨_, rfl⟩
    have H3 : Hid (TrM B b (.slice (some ⟨gc, 0, none⟩) (L + 1) cc) (.slice (some ⟨g, 0, none⟩) N c) (r ++ [x]) ms w3 ∧ Below B w w3 ∧ B ≤ w3.heap.size ∧ w3.heap[w.heap.size]? = some (.cells #[.int .i64 o.kind, .float .f64 o.x, .float .f64 o.y, .int .i64 o.day, .int .i64 o.to, .int .i64 o.cur, .int .i64 o.count, .int .i64 o.n, .int .i64 o.months] 47)) := by
      have t := H2.out.remark HBb.out HB2.out.2 (World.grownBy.refl w2 _) (mv' := .slice (some ⟨g, 0, none⟩) N c) (ms' := ms) (by rw [HHm.out]; exact HM2.out)
      have hs : (World.drew (w2.setCell ⟨b, 1, none⟩ (.slice (some ⟨g, 0, none⟩) N c))).heap.size = w2.heap.size := by simp
      have hbn : w.heap.size ≠ b := fun e => by
        have t2 := HT2.out
        rw [e, H2.out.box] at t2
        injection t2 with t2
        injection t2 with _ t2
        exact absurd t2 (by decide)
      rw [← hw3]
      exact ⟨⟨t.2.1.box, t.2.1.code, t.2.1.marks⟩, HB2.out.1.trans t.2.2.drew, by rw [hs]; exact HB2.out.2, (blkF_far _ _ _ _ hbn).trans HT2.out⟩
    rw [hw3]
    clear hw3 r0 r1 y1
    obtain ⟨r0, r1, _⟩ := H3.out.1.cells
    have HO3 := hidD H3.out.2.2.2
    have z0 := (opx_cells HO3.out 0 rfl).1
    have z1 := (opx_cells HO3.out 1 rfl).1
    have z2 := (opx_cells HO3.out 2 rfl).1
    have z3 := (opx_cells HO3.out 3 rfl).1
    have z4 := (opx_cells HO3.out 4 rfl).1
    have z5 := (opx_cells HO3.out 5 rfl).1
    have z6 := (opx_cells HO3.out 6 rfl).1
    have z7 := (opx_cells HO3.out 7 rfl).1
    have z8 := (opx_cells HO3.out 8 rfl).1
    go_wp2_with fail
    refine (HTn.out _).mono ?_
    rintro e w4 ⟨rfl, hb4⟩
    have H4 : Hid (TrM B b (.slice (some ⟨gc, 0, none⟩) (L + 1) cc) (.slice (some ⟨g, 0, none⟩) N c) (r ++ [x]) ms w4 ∧ Below B w w4 ∧ B ≤ w4.heap.size ∧ w4.heap[w.heap.size]? = some (.cells #[.int .i64 o.kind, .float .f64 o.x, .float .f64 o.y, .int .i64 o.day, .int .i64 o.to, .int .i64 o.cur, .int .i64 o.count, .int .i64 o.n, .int .i64 o.months] 47)) := ⟨H3.out.1.below hb4, H3.out.2.1.trans (hb4.mono H3.out.2.2.1), Nat.le_trans H3.out.2.2.1 hb4.size, (hb4.block _ (lt_of_blk H3.out.2.2.2)).trans H3.out.2.2.2⟩
    clear hb4 r0 r1 z0 z1 z2 z3 z4 z5 z6 z7 z8 HO3
    obtain ⟨r0, r1, _⟩ := H4.out.1.cells
    have HO4 := hidD H4.out.2.2.2
    have z0 := (opx_cells HO4.out 0 rfl).1
    have z1 := (opx_cells HO4.out 1 rfl).1
    have z2 := (opx_cells HO4.out 2 rfl).1
    have z3 := (opx_cells HO4.out 3 rfl).1
    have z4 := (opx_cells HO4.out 4 rfl).1
    have z5 := (opx_cells HO4.out 5 rfl).1
    have z6 := (opx_cells HO4.out 6 rfl).1
    have z7 := (opx_cells HO4.out 7 rfl).1
    have z8 := (opx_cells HO4.out 8 rfl).1
    by_cases h4 : o.kind = 4
    · have zk : (o.kind == 4) = true := by rw [h4]; rfl
      have HZk := hidD zk
      clear h4
      go_wp2_with fail
      refine (HGv.out _ _ _ H4.out.1).mono ?_
      rintro e w5 ⟨rfl, hb5⟩
      have H5 : Hid (TrM B b (.slice (some ⟨gc, 0, none⟩) (L + 1) cc) (.slice (some ⟨g, 0, none⟩) N c) (r ++ [x]) ms w5 ∧ Below B w w5 ∧ B ≤ w5.heap.size ∧ w5.heap[w.heap.size]? = some (.cells #[.int .i64 o.kind, .float .f64 o.x, .float .f64 o.y, .int .i64 o.day, .int .i64 o.to, .int .i64 o.cur, .int .i64 o.count, .int .i64 o.n, .int .i64 o.months] 47)) := ⟨H4.out.1.below hb5, H4.out.2.1.trans (hb5.mono H4.out.2.2.1), Nat.le_trans H4.out.2.2.1 hb5.size, (hb5.block _ (lt_of_blk H4.out.2.2.2)).trans H4.out.2.2.2⟩
      clear zk hb5 r0 r1 z0 z1 z2 z3 z4 z5 z6 z7 z8 HO4
      obtain ⟨r0, r1, _⟩ := H5.out.1.cells
      have HO5 := hidD H5.out.2.2.2
      have z0 := (opx_cells HO5.out 0 rfl).1
      have z1 := (opx_cells HO5.out 1 rfl).1
      have z2 := (opx_cells HO5.out 2 rfl).1
      have z3 := (opx_cells HO5.out 3 rfl).1
      have z4 := (opx_cells HO5.out 4 rfl).1
      have z5 := (opx_cells HO5.out 5 rfl).1
      have z6 := (opx_cells HO5.out 6 rfl).1
      have z7 := (opx_cells HO5.out 7 rfl).1
      have z8 := (opx_cells HO5.out 8 rfl).1
      cases hG : gabO x L m
      · have eZ : Hid (Z = r ++ [x] ++ [(o, (L : Int) + 1 - (m : Int))]) := by show _ = _; rw [← HZ.out, HZk.out, hG]; rfl
        clear hG
        have HTd : Hid (TrM B b (.slice (some ⟨gc, 0, none⟩) (L + 1) cc) (.slice (some ⟨g, 0, none⟩) N c) (r ++ [x]) ms w5.drew) := ⟨H5.out.1.box, H5.out.1.code, H5.out.1.marks⟩
        have HT5 : Hid (∀ w6, Below B w5.drew w6 → Below B w w6) := fun w6 b6 => H5.out.2.1.trans ⟨b6.os, b6.tape, b6.output, b6.size, b6.block⟩
        go_wp2_with fail
        go_region_with ((go_at_call 56; refine (HAd.out _ (.slice (some ⟨g, 0, none⟩) N c) HTd.out).mono ?_; rintro e w6 ⟨rfl, v6, t6, b6⟩; have HE := hidD (And.intro t6 (HT5.out w6 b6)); clear t6 b6))
        all_goals
          go_wp2_with fail
          exact bodyPost_end (v := .tuple #[]) (by simp [results, Tryz.results55, go_sem]) rfl ⟨rfl, _, _, by rw [eZ.out]; exact HE.out.1, HE.out.2⟩
      · have eZ : Hid (Z = drop3 r m) := by show _ = _; rw [← HZ.out, HZk.out, hG]; rfl
        have HG2 := hidD (HGt.out hG)
        clear hG
        go_wp2_with fail
        refine (HD1.out _ _ _ H5.out.1).mono ?_
        rintro e w6 ⟨rfl, v6, t6, b6⟩
        have H6 := hidD (And.intro t6 (H5.out.2.1.trans b6))
        clear t6 b6
        go_wp2_with fail
        refine (HD2.out _ _ _ HG2.out H6.out.1).mono ?_
        rintro e w7 ⟨rfl, v7, t7, b7⟩
        have H7 := hidD (And.intro t7 (H6.out.2.trans b7))
        clear t7 b7
        go_wp2_with fail
        refine (HD3.out _ _ _ HG2.out H7.out.1).mono ?_
        rintro e w8 ⟨rfl, v8, t8, b8⟩
        have H8 := hidD (And.intro t8 (H7.out.2.trans b8))
        clear t8 b8
        go_wp2_with fail
        exact bodyPost_end (v := .tuple #[]) (by simp [results, Tryz.results55, go_sem]) rfl ⟨rfl, _, _, by rw [eZ.out]; exact H8.out.1, H8.out.2⟩
    · have zk : (o.kind == 4) = false := beq_eq_false_iff_ne.2 h4
      have eZ : Hid (Z = r ++ [x] ++ [(o, (L : Int) + 1 - (m : Int))]) := by show _ = _; rw [← HZ.out, zk, Bool.false_and]; rfl
      clear h4
      have HTd : Hid (TrM B b (.slice (some ⟨gc, 0, none⟩) (L + 1) cc) (.slice (some ⟨g, 0, none⟩) N c) (r ++ [x]) ms w4.drew) := ⟨H4.out.1.box, H4.out.1.code, H4.out.1.marks⟩
      have HT5 : Hid (∀ w6, Below B w4.drew w6 → Below B w w6) := fun w6 b6 => H4.out.2.1.trans ⟨b6.os, b6.tape, b6.output, b6.size, b6.block⟩
      go_wp2_with fail
      go_region_with ((go_at_call 56; refine (HAd.out _ (.slice (some ⟨g, 0, none⟩) N c) HTd.out).mono ?_; rintro e w6 ⟨rfl, v6, t6, b6⟩; have HE := hidD (And.intro t6 (HT5.out w6 b6)); clear t6 b6))
      all_goals
        go_wp2_with fail
        exact bodyPost_end (v := .tuple #[]) (by simp [results, Tryz.results55, go_sem]) rfl ⟨rfl, _, _, by rw [eZ.out]; exact HE.out.1, HE.out.2⟩
end Go.Proofs.YtienedhaogjahaaGreatDoor
