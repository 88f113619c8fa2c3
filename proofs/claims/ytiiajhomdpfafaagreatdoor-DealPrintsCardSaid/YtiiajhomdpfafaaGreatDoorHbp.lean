/- Package deal: the word of a field. Package deal: the own words of a term. Package deal: the own words of a term. Package deal: Print of a tree that may be. Package deal: what awake17's deal is printed as, and what it means. The law's awake of stage 17. -/
import Derived.Test.YtiiajhomdpfafaaGreatDoorHay
import Derived.Test.YtiiajhomdpfafaaGreatDoorHau
import Derived.Test.YtiiajhomdpfafaaGreatDoorHbm
import Derived.Test.YtiiajhomdpfafaaGreatDoorDPrint
import Derived.Test.YtiiajhomdpfafaaGreatDoorHba
import Derived.Test.YtiiajhomdpfafaaGreatDoorRwJ
import Derived.Test.YtiiajhomdpfafaaGreatDoorHbd
import Derived.Test.YtiiajhomdpfafaaGreatDoorHan
import Derived.Test.YtiiajhomdpfafaaGreatDoorHbe
import Derived.Test.YtiiajhomdpfafaaGreatDoorHbf
import Derived.Test.YtiiajhomdpfafaaGreatDoorHbj
import Derived.Test.YtiiajhomdpfafaaGreatDoorHbg
namespace Go.Proofs.YtiiajhomdpfafaaGreatDoor
open Go.RowKit

def HexC (x : Nat) (s : ByteArray) (w0 : World) : Prop := ∀ wx, Below w0.heap.size w0 wx → Calls Tryz.prog 75 #[.float .f64 x] wx fun e w' => e = .returned (.tuple #[.string s, .int .i64 0]) ∧ Below wx.heap.size wx w'
theorem HexC.below {x : Nat} {s : ByteArray} {w w' : World} (h : HexC x s w) (hb : Below w.heap.size w w') : HexC x s w' := fun wx hx => h wx (hb.trans (hx.mono hb.size))
set_option maxRecDepth 20000 in
set_option maxHeartbeats 1600000 in
theorem wrNum (f b i x : Nat) (s : ByteArray) (ha : AcF f i) (t : Trm) (w : World) (hb : w.heap[b]? = some (.cells #[fnB f] 101)) (hv : (trC t)[i]? = some (.float .f64 x)) (hh : HexC x s w) :
    Calls Tryz.prog 74 #[.agg (trC t), .pointer (some ⟨b, 0, none⟩)] w fun e w' => e = .returned (.string s) ∧ Below w.heap.size w w' := by
  have c0 := cell1_of hb
  have hlt := lt_of_blk hb
  have hne := Nat.ne_of_lt hlt
  have HA := hidD ha.at_
  have he := ha.en
  have HW := hidD (al_bel w (.cells (trC t) 47))
  have HH := hidD (hh _ HW.out)
  unfold fnB at c0
  clear hb ha hh
  go_enter Tryz.func74, Tryz.ntmps74
  go_wp2_with fail
  refine (HA.out _ _).mono ?_
  rintro e w2 ⟨rfl, rfl⟩
  go_wp2_with fail
  refine HH.out.mono ?_
  rintro e w3 ⟨rfl, hb3⟩
  have HB := hidD (HW.out.trans (hb3.mono HW.out.size))
  clear hb3 HH
  go_wp2_with fail
  go_ret
  exact ⟨rfl, HB.out⟩
structure WrC (wr : Nat) (v : Int) (s : ByteArray) (w0 : World) : Prop where
  en : ∀ xs w, (callFunc wr xs).run Tryz.prog w = .ok (.enter wr xs) w
  ct : ∀ wx, Below w0.heap.size w0 wx → Calls Tryz.prog wr #[.int .i64 v] wx fun e w' => e = .returned (.string s) ∧ Below wx.heap.size wx w'
theorem WrC.below {wr : Nat} {v : Int} {s : ByteArray} {w w' : World} (h : WrC wr v s w) (hb : Below w.heap.size w w') : WrC wr v s w' := ⟨h.en, fun wx hx => h.ct wx (hb.trans (hx.mono hb.size))⟩
def SWr (b wr : Nat) (w : World) : Prop := w.cell? ⟨b + 4, 0, none⟩ = some (fnB wr)
set_option maxRecDepth 20000 in
set_option maxHeartbeats 3200000 in
theorem wrWho (f b i : Nat) (lo hi v : Int) (rd wr : Nat) (s : ByteArray) (ha : AcF f i) (t : Trm) (w : World) (hb : WhoB b f lo hi rd wr w) (hv : (trC t)[i]? = some (.int .i64 v)) (hw : WrC wr v s w) :
    Calls Tryz.prog 115 #[.agg (trC t), .pointer (some ⟨b + 4, 0, none⟩), .pointer (some ⟨b, 0, none⟩)] w fun e w' => e = .returned (.string s) ∧ Below w.heap.size w w' := by
  obtain ⟨c0, _, _, _, c4⟩ := (hb.below (al_bel w (.cells (trC t) 47))).cells
  have cv : (w.alloc (.cells (trC t) 47)).cell? ⟨w.heap.size, i, none⟩ = some (.int .i64 v) := (box_cell w _ _ i).trans hv
  have HA := hidD ha.at_
  have he := ha.en
  have hen := hw.en
  have HW := hidD (al_bel w (.cells (trC t) 47))
  have HC : Hid (∀ q, Calls Tryz.prog wr #[.int .i64 v] ((w.alloc (.cells (trC t) 47)).drewN q) fun e w' => e = .returned (.string s) ∧ Below w.heap.size w w') := fun q => (hw.ct ((w.alloc (.cells (trC t) 47)).drewN q) ⟨HW.out.os, HW.out.tape, HW.out.output, HW.out.size, HW.out.block⟩).mono fun e w' ⟨h, hb⟩ => ⟨h, HW.out.trans ((show Below _ (w.alloc (.cells (trC t) 47)) w' from ⟨hb.os, hb.tape, hb.output, hb.size, hb.block⟩).mono HW.out.size)⟩
  have HS : Hid (SWr b wr (w.alloc (.cells (trC t) 47)).drew) := c4
  clear hb ha hv hw
  generalize hw1 : w.alloc (.cells (trC t) 47) = w1 at *
  have HW1 := hidD hw1
  clear hw1
  go_enter Tryz.func115, Tryz.ntmps115
  go_wp2_with fail
  rw [HW1.out]
  clear HW1
  refine wp_region_late (SWr b wr) (fun i => decide (5 ≤ i)) (by kernel_rfl) ?_
  have d0 : w1.drew.cell? ⟨b, 0, none⟩ = some (fnB f) := c0
  have dv : w1.drew.cell? ⟨w.heap.size, i, none⟩ = some (.int .i64 v) := cv
  refine anyL_take 0 (fnB wr) rfl (by kernel_rfl) (by kernel_rfl) (by kernel_rfl) (by kernel_rfl) (by kernel_rfl) (fun _ _ _ h => h) (by rfl) HS.out (fun wx hS => by unfold SWr fnB at hS; unfold fnB; go_simp) ?_
  simp only [Act.put, List.setIfInBounds_toArray]
  unfold fnB at d0
  unfold fnB
  refine anyL_one (i := 1) (by kernel_rfl) ?_
  refine wpOp_step rfl (fun K1 hK1 => ?_)
  go_simp
  refine hK1 _ _ ⟨fun _ => HS.out, ?_⟩
  refine anyL_one (i := 2) (by kernel_rfl) ?_
  refine wpOp_step rfl (fun K2 hK2 => ?_)
  go_simp
  refine (HA.out _ _).mono ?_
  rintro e w2 ⟨rfl, rfl⟩
  refine hK2 _ _ ⟨fun _ => HS.out, ?_⟩
  refine anyL_one (i := 3) (by kernel_rfl) ?_
  refine wpOp_step rfl (fun K3 hK3 => ?_)
  go_simp
  refine hK3 _ _ ⟨fun _ => HS.out, ?_⟩
  refine anyL_one (i := 4) (by kernel_rfl) ?_
  refine wpOp_step rfl (fun K4 hK4 => ?_)
  go_simp
  refine hK4 _ _ ⟨fun _ => HS.out, ?_⟩
  refine anyL_one (i := 5) (by kernel_rfl) ?_
  refine wpOp_step rfl (fun K5 hK5 => ?_)
  go_simp
  refine (HC.out 1).mono ?_
  rintro e w3 ⟨rfl, hb3⟩
  have HB := hidD hb3
  clear hb3
  refine hK5 _ _ ⟨fun h => absurd h (by decide), ?_⟩
  refine anyL_one (i := 6) (by kernel_rfl) ?_
  refine wpOp_step rfl (fun K6 hK6 => ?_)
  go_simp
  refine hK6 _ _ ⟨fun h => absurd h (by decide), ?_⟩
  refine anyL_done (by kernel_rfl) ?_
  go_wp2_with fail
  go_ret
  exact ⟨rfl, HB.out⟩
end Go.Proofs.YtiiajhomdpfafaaGreatDoor
namespace Go.Proofs.YtiiajhomdpfafaaGreatDoor
open Go.RowKit

def WrD (d : Fd) (i : Nat) (t : Trm) (s : ByteArray) (w : World) : Prop :=
  match d with
  | .num _ => HexC (xAt t i) s w
  | .who _ _ _ _ wr => WrC wr (tAt t i) s w
  | .beh _ _ _ _ wr => WrC wr t.to s w
theorem WrD.below {d : Fd} {i : Nat} {t : Trm} {s : ByteArray} {w w' : World} (h : WrD d i t s w) (hb : Below w.heap.size w w') : WrD d i t s w' := by
  cases d with
  | num f => exact HexC.below h hb
  | who f lo hi rd wr => exact WrC.below h hb
  | beh f lo hi rd wr => exact WrC.below h hb
set_option maxRecDepth 20000 in
theorem fd_write {d : Fd} {i : Nat} {c0 c1 c2 c3 : Value} {w : World} (h : FdAt d (.agg #[c0, c1, c2, c3]) w) (hi : fdI d i) (t : Trm) (s : ByteArray) (hs : WrD d i t s w) :
    ∃ F cap, c2 = .func (.func F) #[] cap ∧ (∀ xs w, (callFunc F xs).run Tryz.prog w = .ok (.enter F xs) w) ∧ ∀ wx, Below w.heap.size w wx → Calls Tryz.prog F (#[.agg (trC t)] ++ cap) wx fun e w' => e = .returned (.string s) ∧ Below wx.heap.size wx w' := by
  cases d with
  | num f =>
    obtain ⟨b, e, hb⟩ := h
    obtain ⟨ha, hi⟩ := hi
    injection e with e
    obtain ⟨_, _, rfl, _⟩ : c0 = _ ∧ c1 = _ ∧ c2 = _ ∧ c3 = _ := by simpa [numV] using e
    refine ⟨_, _, rfl, fun xs w => enterD Tryz.func74 (by kernel_rfl) rfl xs w, fun wx hx => ?_⟩
    have hv : (trC t)[i]? = some (.float .f64 (xAt t i)) := by rcases hi with rfl | rfl <;> rfl
    exact wrNum f b i (xAt t i) s ha t wx ((hx.block _ (lt_of_blk hb)).trans hb) hv (HexC.below hs hx)
  | who f lo hi' rd wr =>
    obtain ⟨b, e, hb⟩ := h
    obtain ⟨ha, h5, h10⟩ := hi
    injection e with e
    obtain ⟨_, _, rfl, _⟩ : c0 = _ ∧ c1 = _ ∧ c2 = _ ∧ c3 = _ := by simpa [whoV] using e
    exact ⟨_, _, rfl, fun xs w => enterD Tryz.func115 (by kernel_rfl) rfl xs w, fun wx hx => wrWho f b i lo hi' (tAt t i) rd wr s ha t wx (hb.below hx) (trC_at t h5 h10) (WrC.below hs hx)⟩
  | beh f lo hi' rd wr =>
    obtain ⟨b, d, e, hb, hd⟩ := h
    obtain ⟨ha, rfl⟩ := hi
    injection e with e
    obtain ⟨_, _, rfl, _⟩ : c0 = _ ∧ c1 = _ ∧ c2 = _ ∧ c3 = _ := by simpa [behV] using e
    exact ⟨_, _, rfl, fun xs w => enterD Tryz.func115 (by kernel_rfl) rfl xs w, fun wx hx => wrWho f b 6 lo hi' t.to rd wr s ha t wx (hb.below hx) rfl (WrC.below hs hx)⟩
def stC (s : ByteArray) : Array Value := #[.string s]
theorem stC_one : ∀ s, ∀ u ∈ (stC s).toList, u.oneCell' = true := fun s u h => by
  simp [stC] at h; subst h; rfl
theorem info_str : (Tryz.prog.info? 9).map (fun i => (i.zero, i.size, i.bytes)) = some (some (.string ⟨#[]⟩), 1, 16) := by kernel_rfl
end Go.Proofs.YtiiajhomdpfafaaGreatDoor
namespace Go.Proofs.YtiiajhomdpfafaaGreatDoor
open Go.RowKit

structure WdI (w : World) (k : Kd) (u : Value) (t : Trm) (v : Value) (xs : List ByteArray) (wr : World) : Prop where
  kb : wr.heap[w.heap.size]? = some (.cells #[.int .i64 k.num, .string k.word, u, .int .i64 k.parts, fnB k.mean] 65)
  tb : TrB wr (w.heap.size + 1) t
  row : wr.ownsRow (w.heap.size + 2) 9 1 v xs.length (rowV stC xs)
  bl : Below w.heap.size w wr
  sz : w.heap.size + 2 ≤ wr.heap.size
theorem WdI.step {w : World} {k : Kd} {u : Value} {t : Trm} {v : Value} {xs : List ByteArray} {wr w' : World} (h : WdI w k u t v xs wr) (hb : Below wr.heap.size wr w') : WdI w k u t v xs w' :=
  ⟨(hb.block _ (lt_of_blk h.kb)).trans h.kb, h.tb.below hb, orow_below h.row hb, h.bl.trans (hb.mono h.bl.size), Nat.le_trans h.sz hb.size⟩
theorem WdI.app {w : World} {k : Kd} {u : Value} {t : Trm} {v v' : Value} {xs : List ByteArray} {s : ByteArray} {wr w' : World} (h : WdI w k u t v xs wr) (hr : w'.ownsRow (w.heap.size + 2) 9 1 v' (xs.length + 1) (rowV stC xs ++ rowV stC [s])) (hg : wr.grownBy w' v.ownBlock) : WdI w k u t v' (xs ++ [s]) w' := by
  have hb : Below (w.heap.size + 2) wr w' := orow_grown h.row hg h.sz
  refine ⟨(hb.block _ (by omega)).trans h.kb, (hb.block _ (by omega)).trans h.tb, ?_, h.bl.trans (hb.mono (by omega)), Nat.le_trans h.sz hb.size⟩
  rw [rowV_append, List.length_append]
  exact hr
theorem row_new {w : World} {B : Nat} (hB : B ≤ w.heap.size) (s : ByteArray) : (w.alloc (.cells #[.string s] 9)).ownsRow B 9 1 (.slice (some ⟨w.heap.size, 0, none⟩) 1 1) 1 (rowV stC [s]) :=
  ⟨rfl, .inr ⟨w.heap.size, 1, #[.string s], rfl, hB, heap_alloc_new _ _, Nat.le_refl _, by unfold maxLen; omega, rfl, rfl⟩⟩
theorem wdI_at (w : World) (k : Kd) (u : Value) (t : Trm) : WdI w k u t (.slice (some ⟨w.heap.size + 1 + 1, 0, none⟩) 1 1) [k.word] (((w.alloc (.cells #[.int .i64 k.num, .string k.word, u, .int .i64 k.parts, fnB k.mean] 65)).alloc (.cells (trC t) 47)).alloc (.cells #[.string k.word] 9)) := by
  refine ⟨?_, ?_, ?_, (((Below.refl _ _).alloc (Nat.le_refl _) _).alloc (by simp) _).alloc (by simp; omega) _, by simp⟩
  · simp only [al_at, sz_al]; repeat rw [if_neg (by omega)]
    exact if_pos trivial
  · unfold TrB; simp only [al_at, sz_al]; repeat rw [if_neg (by omega)]
    exact if_pos trivial
  · have h := row_new (w := (w.alloc (.cells #[.int .i64 k.num, .string k.word, u, .int .i64 k.parts, fnB k.mean] 65)).alloc (.cells (trC t) 47)) (B := w.heap.size + 2) (by simp) k.word
    rw [sz_al, sz_al] at h
    exact h
theorem fd_shape4 {d : Fd} {x0 x1 x2 x3 : Value} {w : World} (h : FdAt d (.agg #[x0, x1, x2, x3]) w) : ∃ F0 C0 F1 C1 F3 C3, x0 = .func (.func F0) #[] C0 ∧ x1 = .func (.func F1) #[] C1 ∧ x3 = .func (.func F3) #[] C3 := by
  cases d with
  | num f =>
    obtain ⟨b, e, _⟩ := h
    injection e with e
    obtain ⟨rfl, rfl, _, rfl⟩ : x0 = _ ∧ x1 = _ ∧ x2 = _ ∧ x3 = _ := by simpa [numV] using e
    exact ⟨_, _, _, _, _, _, rfl, rfl, rfl⟩
  | who f lo hi' rd wr =>
    obtain ⟨b, e, _⟩ := h
    injection e with e
    obtain ⟨rfl, rfl, _, rfl⟩ : x0 = _ ∧ x1 = _ ∧ x2 = _ ∧ x3 = _ := by simpa [whoV] using e
    exact ⟨_, _, _, _, _, _, rfl, rfl, rfl⟩
  | beh f lo hi' rd wr =>
    obtain ⟨b, d, e, _⟩ := h
    injection e with e
    obtain ⟨rfl, rfl, _, rfl⟩ : x0 = _ ∧ x1 = _ ∧ x2 = _ ∧ x3 = _ := by simpa [behV] using e
    exact ⟨_, _, _, _, _, _, rfl, rfl, rfl⟩
set_option maxRecDepth 20000 in
set_option maxHeartbeats 12800000 in
theorem words_any (k : Kd) (u : Value) (ps : List Nat) (ss : List ByteArray) (t : Trm) (w : World) (hs : SlcAt k.ds u w) (hl : ps.length = k.ds.length) (hss : ss.length = k.ds.length) (hp : ∀ j (hj : j < k.ds.length), fdI k.ds[j] (ps.getD j 0)) (hw : ∀ j (hj : j < k.ds.length), WrD k.ds[j] (ps.getD j 0) t (ss.getD j ⟨#[]⟩) w) (h7 : k.ds.length ≤ 7) :
    Calls Tryz.prog 20 #[kV k u, .agg (trC t)] w fun e w' => ∃ v, e = .returned v ∧ w'.ownsRow w.heap.size 9 1 v (k.word :: ss).length (rowV stC (k.word :: ss)) ∧ Below w.heap.size w w' := by
  obtain ⟨p, n, g, rfl, rfl, hg, hc⟩ := flds_cell hs
  have HC := hidD hc
  have HG := hidD hg
  have HH := hidD (And.intro hl (And.intro hp (And.intro hss hw)))
  have HB0 := hidD (wdI_at w k (.slice p k.ds.length k.ds.length) t)
  clear hs hl hss hp hw hc hg
  unfold kV
  obtain ⟨m, hm⟩ : ∃ m, k.ds.length = m := ⟨_, rfl⟩
  have HM := hidD hm
  rw [hm] at h7 HB0 ⊢
  clear hm
  unfold fnB trC at HB0
  unfold fnB trC
  go_enter Tryz.func20, Tryz.ntmps20
  go_wp2_with fail
  generalize hw3 : World.alloc _ _ = w3 at HB0 ⊢
  clear hw3
  go_loopw [5, 14] (fun vr i wr => ∃ j : Nat, j ≤ m ∧ i = .int .i64 j ∧ Hid (WdI w k (.slice p m m) t vr (k.word :: ss.take j) wr)) (fun _ i _ => m - (intOf i).toNat)
  case atStart => exact ⟨0, Nat.zero_le _, rfl, HB0⟩
  case round =>
    clear HB0
    obtain ⟨j, hj, rfl, HI⟩ := hrel
    by_cases hlt : j < m
    · have hlt' : j < k.ds.length := by rw [HM.out]; exact hlt
      obtain ⟨x0, x1, x2, x3, HF⟩ := HC.out j hlt'
      obtain ⟨rfl, hgl⟩ := HG.out (by omega)
      obtain ⟨hl, hp, hss, hw⟩ := HH.out
      obtain ⟨F2, C2, rfl, en2, HF2⟩ := fd_write HF.fd (hp j hlt') t _ (hw j hlt')
      obtain ⟨F0, C0, F1, C1, F3, C3, rfl, rfl, rfl⟩ := fd_shape4 HF.fd
      obtain ⟨c0, c1, c2, c3, _⟩ := HF.below hgl HI.out.bl
      have HT : Hid (ss.take (j + 1) = ss.take j ++ [ss.getD j ⟨#[]⟩]) := by
        have hj' : j < ss.length := by omega
        show _ = _
        rw [List.take_add_one, List.getD_eq_getElem?_getD, List.getElem?_eq_getElem hj']; rfl
      have HL : Hid ((k.word :: ss.take j).length = j + 1) := by
        show _ = _
        rw [List.length_cons, List.length_take, Nat.min_eq_left (by omega)]
      have HF2' := hidD (fun wx hb => HF2 wx hb)
      have i1 : (j : Int) < (m : Int) := by omega
      obtain ⟨d0, d1, d2, d3, d4, d5, d6, d7, d8, d9, d10⟩ := trm_cells HI.out.tb
      have hs1 := lt_of_blk HI.out.tb
      have hs2 := Nat.ne_of_lt hs1
      have kb := HI.out.kb
      obtain ⟨kb0, kb1, kb2, kb3, kb4⟩ := cellK_of kb
      clear kb
      clear hl hp hss hw HF2 HF hgl
      generalize ss.getD j ⟨#[]⟩ = s at *
      unfold trC at HF2'
      go_wp2_with fail
      refine (HF2'.out _ (HI.out.step (al_bel _ _)).bl).mono ?_
      rintro e w2 ⟨rfl, hb⟩
      have HI2 := hidD ((HI.out.step (al_bel _ _)).step hb)
      have HI3 := hidD (HI2.out.step (al_bel w2 (.cells #[.string s] 9)))
      have HC3 : Hid (∀ j u, (rowV stC [s])[j]? = some u → (w2.alloc (.cells #[.string s] 9)).cell? ⟨w2.heap.size, j, none⟩ = some u) := fun j u hj => new_cells w2 (stC s) 9 j u (by simpa [rowV] using hj)
      have HR3 : Hid ((w2.alloc (.cells #[.string s] 9)).ownsRow (w.heap.size + 2) 9 1 u5 (j + 1) (rowV stC (k.word :: ss.take j))) := by
        have h := HI3.out.row
        rw [HL.out] at h
        exact h
      clear kb0 kb1 kb2 kb3 kb4 hs1 hs2
      clear hb HF2' HI c0 c1 c2 c3 d0 d1 d2 d3 d4 d5 d6 d7 d8 d9 d10
      go_wp2_with (at_builtin; refine wpList_append_g _ Tryz.underlying61 info_str rfl (by decide) rfl (.tmp 18) (.tmp 23) rfl (w.heap.size + 2) u5 (j + 1) (rowV stC (k.word :: ss.take j)) rfl HR3.out HI3.out.sz w2.heap.size 1 1 (rowV stC [s]) rfl rfl HC3.out (rowV_one stC_one _) (by omega) (by omega) ?_; intro v5 w5 ho5 hg5; have HI5 : Hid (WdI w k (.slice (some ⟨g, 0, none⟩) m m) t v5 (k.word :: ss.take (j + 1)) w5) := (by show WdI _ _ _ _ _ _ _; rw [HT.out, ← List.cons_append]; exact HI3.out.app (by rw [HL.out]; exact ho5) hg5); clear ho5 hg5)
      go_wp2_with fail
      go_roundw
      case rel => exact ⟨j + 1, by omega, by simp, HI5⟩
      case measure => simp [intOf]; omega
    · have hjm : j = m := by omega
      have e : ss.take j = ss := by
        have := HH.out.2.2.1
        rw [HM.out] at this
        rw [hjm, ← this, List.take_length]
      rw [e] at HI
      have i1 : ¬ (j : Int) < (m : Int) := by omega
      clear HC HH e
      go_wp2_with fail
      go_ret
      exact ⟨_, rfl, orow_lower HI.out.row (by omega), HI.out.bl⟩
end Go.Proofs.YtiiajhomdpfafaaGreatDoor
namespace Go.Proofs.YtiiajhomdpfafaaGreatDoor
open Go.RowKit

def TxR (w : World) (g n k : Nat) (W : Nat → ByteArray) : Prop := ∃ cs : Array Value, w.heap[g]? = some (.cells cs 9) ∧ cs.size = n ∧ ∀ j < k, cs[j]? = some (.string (W j))
theorem TxR.below {w w' : World} {g n k : Nat} {W : Nat → ByteArray} (h : TxR w g n k W) {B : Nat} (hb : Below B w w') (hg : g < B) : TxR w' g n k W := by
  obtain ⟨cs, h1, h2⟩ := h
  exact ⟨cs, (hb.block g hg).trans h1, h2⟩
theorem TxR.cell {w : World} {g n k : Nat} {W : Nat → ByteArray} (h : TxR w g n k W) {j : Nat} (hj : j < k) : w.cell? ⟨g, j, none⟩ = some (.string (W j)) := by
  obtain ⟨cs, h1, _, h3⟩ := h
  simp only [World.cell?, h1, Option.isSome_none, Bool.false_eq_true, if_false]
  exact h3 j hj
theorem TxR.some {w : World} {g n k : Nat} {W : Nat → ByteArray} (h : TxR w g n k W) {j : Nat} (hj : j < n) : ∃ u, w.cell? ⟨g, j, none⟩ = some u := by
  obtain ⟨cs, h1, h2, _⟩ := h
  refine ⟨cs[j]'(by omega), ?_⟩
  simp only [World.cell?, h1, Option.isSome_none, Bool.false_eq_true, if_false]
  exact Array.getElem?_eq_getElem (by omega)
theorem TxR.frozen {w : World} {g n k : Nat} {W : Nat → ByteArray} (h : TxR w g n k W) (j : Nat) : w.frozen? ⟨g, j, none⟩ = false := by
  obtain ⟨cs, h1, _⟩ := h
  simp [World.frozen?, h1]
theorem TxR.lt {w : World} {g n k : Nat} {W : Nat → ByteArray} (h : TxR w g n k W) : g < w.heap.size := by
  obtain ⟨cs, h1, _⟩ := h
  exact lt_of_blk h1
theorem TxR.put {w : World} {g n k : Nat} {W : Nat → ByteArray} (h : TxR w g n k W) (hk : k < n) : TxR (w.setCell ⟨g, k, none⟩ (.string (W k))) g n (k + 1) W := by
  obtain ⟨cs, h1, h2, h3⟩ := h
  refine ⟨_, heap_setCell_same w g k _ _ _ h1, by simpa using h2, fun j hj => ?_⟩
  rw [Array.getElem?_setIfInBounds]
  by_cases c : k = j
  · subst c
    rw [if_pos rfl, if_pos (by omega)]
  · rw [if_neg c]
    exact h3 j (by omega)
theorem make_txt (N : Nat) (hN : N ≤ 2000) : ∃ z, ∀ w : World, (Instr.makeSlice 61 (.int .i64 (N : Int)) (.int .i64 (N : Int))).run Tryz.prog w = .ok (.slice (some ⟨w.heap.size, 0, none⟩) N N) (w.alloc (.cells (madeCells z N) 9)) ∧ (madeCells z N).size = N := by
  obtain ⟨i0, hi, hz0, hz1, hz2⟩ := info_partsD info_str
  refine ⟨(Value.string ⟨#[]⟩).cells, fun w => ⟨?_, ?_⟩⟩
  · have := run_make (P := Tryz.prog) w 61 9 i0 _ Tryz.underlying61 hi hz0 .i64 .i64 (N : Int) (N : Int) (by omega) (by omega) (by rw [hz2]; omega) (by omega)
    rw [hz1, Nat.mul_one, Int.toNat_natCast] at this
    exact this
  · simp [madeCells]
theorem txR_made (w : World) (N : Nat) (z : Array Value) (W : Nat → ByteArray) (h : (madeCells z N).size = N) : TxR (w.alloc (.cells (madeCells z N) 9)) w.heap.size N 0 W := ⟨_, heap_alloc_new _ _, h, fun j hj => by omega⟩
theorem PtsB.below {w w' : World} {g : Nat} {a b : Int} (h : PtsB w g a b) (hb : Below w.heap.size w w') : PtsB w' g a b :=
  ⟨(hb.cell (p := ⟨g, 0, none⟩) h.lt).trans h.c0, (hb.cell (p := ⟨g, 1, none⟩) h.lt).trans h.c1, Nat.lt_of_lt_of_le h.lt hb.size⟩
structure PwI (B g : Nat) (a b : Int) (v : Value) (xs : List ByteArray) (w1 wr : World) : Prop where
  row : wr.ownsRow B 9 1 v xs.length (rowV stC xs)
  pts : PtsB wr g a b
  ap : v.ownBlock ≠ some g
  bel : Below B w1 wr
  sz : B ≤ wr.heap.size
theorem PwI.step {B g : Nat} {a b : Int} {v : Value} {xs : List ByteArray} {w1 wr w' : World} (h : PwI B g a b v xs w1 wr) (hb : Below wr.heap.size wr w') : PwI B g a b v xs w1 w' :=
  ⟨orow_below h.row hb, h.pts.below hb, h.ap, h.bel.trans (hb.mono h.sz), Nat.le_trans h.sz hb.size⟩
theorem PwI.app {B g : Nat} {a b : Int} {v v' : Value} {xs : List ByteArray} {s : ByteArray} {w1 wr w' : World} (h : PwI B g a b v xs w1 wr) (hr : w'.ownsRow B 9 1 v' (xs.length + 1) (rowV stC xs ++ rowV stC [s])) (hg : wr.grownBy w' v.ownBlock) (hn : v'.ownBlock = v.ownBlock ∨ v'.ownBlock = some wr.heap.size) : PwI B g a b v' (xs ++ [s]) w1 w' := by
  have hb : Below B wr w' := orow_grown h.row hg h.sz
  have hgl := h.pts.lt
  have hk := hg.block g hgl (fun e => h.ap e.symm)
  refine ⟨?_, ⟨(World.cell?_of_block (w := wr) (a := ⟨g, 0, none⟩) hk).trans h.pts.c0, (World.cell?_of_block (w := wr) (a := ⟨g, 1, none⟩) hk).trans h.pts.c1, Nat.lt_of_lt_of_le hgl hb.size⟩, ?_, h.bel.trans hb, Nat.le_trans h.sz hb.size⟩
  · rw [rowV_append, List.length_append]
    exact hr
  · rcases hn with hn | hn
    · rw [hn]; exact h.ap
    · rw [hn]; intro e; injection e with e; omega
theorem rowV_str (xs : List ByteArray) : rowV stC xs = xs.map Value.string := by
  induction xs with
  | nil => rfl
  | cons x l ih => rw [rowV, ih]; rfl
def prt (t : Trm) (q : Nat) : Int := if q = 0 then t.a else t.b
theorem PtsB.at {w : World} {g : Nat} {t : Trm} (h : PtsB w g t.a t.b) {q : Nat} (hq : q < 2) : w.cell? ⟨g, q, none⟩ = some (.int .i64 (prt t q)) := by
  match q, hq with
  | 0, _ => exact h.c0
  | 1, _ => exact h.c1
def ptT (W : Nat → ByteArray) (t : Trm) (m : Nat) : List ByteArray := (List.range m).map fun q => W (prt t q).toNat
theorem ptT_more (W : Nat → ByteArray) (t : Trm) (q : Nat) : ptT W t (q + 1) = ptT W t q ++ [W (prt t q).toNat] := by
  unfold ptT
  rw [List.range_succ, List.map_append]; rfl
def jnT (l : List ByteArray) : ByteArray := ⟨(Lib.join (l.map (·.data.toList)) [32]).toArray⟩
structure PtO (ts : List Trm) (W : Nat → ByteArray) (w : World) (k x m : Nat) (ps : List Nat) (ss : List ByteArray) : Prop where
  x8 : x < 8
  kd : (ts.getD k trm0).kind = (x : Int) + 1
  l1 : ps.length = (kdG x).ds.length
  l2 : ss.length = (kdG x).ds.length
  l7 : (kdG x).ds.length ≤ 7
  fd : ∀ j (hj : j < (kdG x).ds.length), fdI (kdG x).ds[j] (ps.getD j 0)
  wr : ∀ j (hj : j < (kdG x).ds.length), WrD (kdG x).ds[j] (ps.getD j 0) (ts.getD k trm0) (ss.getD j ⟨#[]⟩) w
  pn : (kdG x).parts = (m : Int)
  p2 : m ≤ 2
  pt : ∀ q < m, 0 ≤ prt (ts.getD k trm0) q ∧ prt (ts.getD k trm0) q < (k : Int)
  tx : W k = jnT ((kdG x).word :: ss ++ ptT W (ts.getD k trm0) m)
  tl : (Lib.join (((kdG x).word :: ss ++ ptT W (ts.getD k trm0) m).map (·.data.toList)) [32]).length ≤ 140737488355328
set_option maxRecDepth 20000 in
set_option maxHeartbeats 51200000 in
theorem dPrint_go (ts : List Trm) (n : Nat) (p0 : Option Addr) (b off c : Nat) (D : Int) (W : Nat → ByteArray) (ix m : Nat → Nat) (ps : Nat → List Nat) (ss : Nat → List ByteArray) (w : World) (hs : TSrc w p0 b off ts) (hn : ts.length = n) (hu : ∀ i < n, TrU (ts.getD i trm0)) (hl : n ≤ 1024) (h1 : 1 ≤ n) (hm : MesR ts D 0 0)
    (hk : ∀ k < n, PtO ts W w k (ix k) (m k) (ps k) (ss k)) :
    Calls Tryz.prog 11 #[.slice p0 n c] w fun e w' => e = .returned (.tuple #[.string (W (n - 1)), .int .i64 0]) ∧ Below w.heap.size w w' := by
  have H := hidD (dCheck_is hm n p0 b off c w hs hn hu (by omega))
  have HS := hidD (And.intro hs hn)
  have HK := hidD hk
  have hst := store_fltD
  obtain ⟨z, hmk⟩ := make_txt n (by omega)
  have hmk1 := fun w => (hmk w).1
  have HMz := hidD (hmk w).2
  clear hm hs hn hu hk hmk
  go_enter Tryz.func11, Tryz.ntmps11
  go_wp2_with fail
  refine H.out.mono ?_
  rintro e w1 ⟨rfl, hb1⟩
  have HB1 := hidD hb1
  clear hb1 H
  go_wp2_with fail
  refine (kinds_any _).mono ?_
  rintro e wk ⟨v, rfl, hv, hb⟩
  obtain ⟨h, u, rfl, ht⟩ := tab_open hv
  have HB := hidD (HB1.out.trans (hb.mono HB1.out.size))
  have HTk := hidD ht
  have HSk := hidD (HS.out.1.below HB.out)
  have HX0 := hidD (txR_made wk n z W HMz.out)
  have HWa := hidD (al_bel wk (.cells (madeCells z n) 9))
  clear hv hb ht HB1
  go_wp2_with fail
  clear hmk1
  generalize hw2 : World.alloc wk _ = w2 at HX0 HWa ⊢
  clear hw2
  go_loopw [29] (fun i wr => ∃ k : Nat, k ≤ n ∧ i = .int .i64 k ∧ Hid (TxR wr wk.heap.size n k W) ∧ Hid (Below wk.heap.size wk wr)) (fun i _ => n - (intOf i).toNat)
  case atStart => exact ⟨0, Nat.zero_le _, rfl, HX0, HWa⟩
  case round =>
    clear HX0 HWa
    obtain ⟨k, hk, rfl, HX, HW⟩ := hrel
    have HSr := hidD (HSk.out.below HW.out)
    by_cases hlt : k < n
    · have hlt' : k < ts.length := by rw [HS.out.2]; exact hlt
      obtain rfl := HSr.out.at_ (by omega)
      have c0 := HSr.out.c0 k hlt'
      have c1 := HSr.out.c1 k hlt'
      have c2 := HSr.out.c2 k hlt'
      have c3 := HSr.out.c3 k hlt'
      have c4 := HSr.out.c4 k hlt'
      have c5 := HSr.out.c5 k hlt'
      have c6 := HSr.out.c6 k hlt'
      have c7 := HSr.out.c7 k hlt'
      have c8 := HSr.out.c8 k hlt'
      have c9 := HSr.out.c9 k hlt'
      have c10 := HSr.out.c10 k hlt'
      have hbl : b < wr.heap.size := HSr.out.lt (by omega)
      have hbn := Nat.ne_of_lt hbl
      have i1 : (k : Int) < (n : Int) := by omega
      have HP := hidD (HK.out k hlt)
      obtain ⟨mk, hmk⟩ : ∃ mk, m k = mk := ⟨_, rfl⟩
      obtain ⟨pk, hpk⟩ : ∃ pk, ps k = pk := ⟨_, rfl⟩
      obtain ⟨sk, hsk⟩ : ∃ sk, ss k = sk := ⟨_, rfl⟩
      obtain ⟨x, hx⟩ : ∃ x, ix k = x := ⟨_, rfl⟩
      rw [hmk, hpk, hsk, hx] at HP
      clear hmk hpk hsk hx
      have h8 := HP.out.x8
      have hkx := HP.out.kd
      have g1 := HP.out.l1
      have g2 := HP.out.l2
      have g7 := HP.out.l7
      have gf := HP.out.fd
      have gw := HP.out.wr
      have gn := HP.out.pn
      have gp := HP.out.p2
      have HLs : Hid (sk.length ≤ 7) := by show _ ≤ _; omega
      have HQ : Hid ((∀ q < mk, 0 ≤ prt (ts.getD k trm0) q ∧ prt (ts.getD k trm0) q < (k : Int)) ∧ W k = jnT ((kdG x).word :: sk ++ ptT W (ts.getD k trm0) mk) ∧ (Lib.join (((kdG x).word :: sk ++ ptT W (ts.getD k trm0) mk).map (·.data.toList)) [32]).length ≤ 140737488355328) := ⟨HP.out.pt, HP.out.tx, HP.out.tl⟩
      clear HP
      generalize ht : ts.getD k trm0 = t at *
      clear ht
      obtain ⟨p, q, hu, hq⟩ := (HTk.out.slc x h8).shape
      clear hq
      have HOf : Hid (∀ wx, TabC h u wx → Calls Tryz.prog 19 #[.slice (some ⟨h, 0, none⟩) 8 8, .int .i64 t.kind] wx fun e w' => e = .returned (.tuple #[.agg #[.int .i64 (kdG x).num, .string (kdG x).word, .slice p q q, .int .i64 (kdG x).parts, .func (.func (kdG x).mean) #[] #[]], .bool true]) ∧ Below wx.heap.size wx w') := fun wx ht => (ofNumber_any h u t.kind wx ht).mono fun e w' ⟨v, he, hv, hb⟩ => ⟨by
        rw [hkx] at hv
        have := fnd_num h8 hv
        rw [hu] at this
        rw [he, this]; rfl, hb⟩
      have HWd : Hid (∀ wx, Below wk.heap.size wk wx → Calls Tryz.prog 20 #[.agg #[.int .i64 (kdG x).num, .string (kdG x).word, .slice p q q, .int .i64 (kdG x).parts, .func (.func (kdG x).mean) #[] #[]], .agg #[.int .i64 t.kind, .int .i64 t.a, .int .i64 t.b, .float .f64 t.x, .float .f64 t.y, .int .i64 t.day, .int .i64 t.to, .int .i64 t.cur, .int .i64 t.count, .int .i64 t.n, .int .i64 t.months]] wx fun e w' => ∃ v, e = .returned v ∧ w'.ownsRow wx.heap.size 9 1 v ((kdG x).word :: sk).length (rowV stC ((kdG x).word :: sk)) ∧ Below wx.heap.size wx w') := fun wx hb => by
        have := words_any (kdG x) (u x) pk sk t wx (hu ▸ (HTk.out.below hb).slc x h8) g1 g2 gf (fun j hj => (gw j hj).below (HB.out.trans (hb.mono HB.out.size))) g7
        rw [hu] at this
        exact this
      have HPt : Hid (∀ wx, Calls Tryz.prog 21 #[.agg #[.int .i64 (kdG x).num, .string (kdG x).word, .slice p q q, .int .i64 (kdG x).parts, .func (.func (kdG x).mean) #[] #[]], .agg #[.int .i64 t.kind, .int .i64 t.a, .int .i64 t.b, .float .f64 t.x, .float .f64 t.y, .int .i64 t.day, .int .i64 t.to, .int .i64 t.cur, .int .i64 t.count, .int .i64 t.n, .int .i64 t.months]] wx fun e w' => e = .returned (.slice (some ⟨wx.heap.size + 1 + 1, 0, none⟩) mk 2) ∧ PtsB w' (wx.heap.size + 1 + 1) t.a t.b ∧ Below wx.heap.size wx w') := fun wx => partsOf_any (kdG x) p q mk gn gp t wx
      clear hu hkx g1 g2 g7 gf gw gn h8
      go_wp2_with fail
      have Ht1 : Hid (TrB (wr.alloc (.cells #[.int .i64 t.kind, .int .i64 t.a, .int .i64 t.b, .float .f64 t.x, .float .f64 t.y, .int .i64 t.day, .int .i64 t.to, .int .i64 t.cur, .int .i64 t.count, .int .i64 t.n, .int .i64 t.months] 47)) wr.heap.size t) := heap_alloc_new _ _
      refine (HOf.out _ ((HTk.out.below HW.out).below (al_bel _ _))).mono ?_
      rintro e w1 ⟨rfl, hb1⟩
      have HB1 := hidD ((al_bel wr _).trans (hb1.mono (by simp)))
      have Ht2 := hidD ((Ht1.out.below hb1).below (al_bel w1 (.cells #[.int .i64 (kdG x).num, .string (kdG x).word, .slice p q q, .int .i64 (kdG x).parts, .func (.func (kdG x).mean) #[] #[]] 65)))
      have Hk2 := hidD (heap_alloc_new w1 (.cells #[.int .i64 (kdG x).num, .string (kdG x).word, .slice p q q, .int .i64 (kdG x).parts, .func (.func (kdG x).mean) #[] #[]] 65))
      have HB2 := hidD (HB1.out.trans ((al_bel w1 (.cells #[.int .i64 (kdG x).num, .string (kdG x).word, .slice p q q, .int .i64 (kdG x).parts, .func (.func (kdG x).mean) #[] #[]] 65)).mono HB1.out.size))
      have HW2 := hidD (HW.out.trans (HB2.out.mono HW.out.size))
      have HX2 := hidD (HX.out.below HB2.out HX.out.lt)
      obtain ⟨d0, d1, d2, d3, d4, d5, d6, d7, d8, d9, d10⟩ := trm_cells Ht2.out
      obtain ⟨e0, e1, e2, e3, e4⟩ := cellK_of Hk2.out
      clear hb1 c0 c1 c2 c3 c4 c5 c6 c7 c8 c9 c10 HOf Ht1 HB1 HX
      have HC := hidD (HWd.out _ HW2.out)
      clear HWd
      go_wp2_with fail
      refine HC.out.mono ?_
      rintro e w3 ⟨vw, rfl, hrow, hb3⟩
      have HZ3 := hidD hb3.size
      have HW3 := hidD (HW2.out.trans (hb3.mono HW2.out.size))
      have HX3 := hidD (HX2.out.below hb3 HX2.out.lt)
      have Ht3 := hidD (Ht2.out.below hb3)
      have Hk3 := hidD ((hb3.block _ (lt_of_blk Hk2.out)).trans Hk2.out)
      have HR3 := hidD hrow
      clear hb3 hrow HC d0 d1 d2 d3 d4 d5 d6 d7 d8 d9 d10 e0 e1 e2 e3 e4
      obtain ⟨d0, d1, d2, d3, d4, d5, d6, d7, d8, d9, d10⟩ := trm_cells Ht3.out
      obtain ⟨e0, e1, e2, e3, e4⟩ := cellK_of Hk3.out
      have HC := hidD (HPt.out w3)
      go_wp2_with fail
      refine HC.out.mono ?_
      rintro e w4 ⟨rfl, hpt, hb4⟩
      obtain ⟨B0, hB0⟩ : ∃ B0, (w1.alloc (.cells #[.int .i64 (kdG x).num, .string (kdG x).word, .slice p q q, .int .i64 (kdG x).parts, .func (.func (kdG x).mean) #[] #[]] 65)).heap.size = B0 := ⟨_, rfl⟩
      rw [hB0] at HR3
      have HWB : Hid (wk.heap.size < B0) := by
        have h := HX2.out.lt
        rw [hB0] at h
        exact h
      have HB03 : Hid (B0 ≤ w3.heap.size) := by
        show _ ≤ _
        rw [← hB0]
        exact HZ3.out
      have HX4 := hidD (HX3.out.below hb4 HX3.out.lt)
      have HW4 := hidD (HW3.out.trans (hb4.mono HW3.out.size))
      have HI0 : Hid (PwI B0 (w3.heap.size + 1 + 1) t.a t.b vw ((kdG x).word :: sk ++ ptT W t 0) w4 w4) := by
        show PwI _ _ _ _ _ _ _ _
        have e0 : ptT W t 0 = [] := rfl
        rw [e0, List.append_nil]
        refine ⟨orow_below HR3.out hb4, hpt, fun e => ?_, Below.refl _ _, Nat.le_trans HB03.out hb4.size⟩
        have := (HR3.out.lt _ e).2
        omega
      have HLn : Hid (∀ q, ((kdG x).word :: sk ++ ptT W t q).length = 1 + sk.length + q) := fun q => by
        simp [ptT]; omega
      clear hpt hb4 hB0 HR3 HX3 HW3 HX2 HW2 HB2 Ht2 Hk2 Ht3 Hk3 HC d0 d1 d2 d3 d4 d5 d6 d7 d8 d9 d10 e0 e1 e2 e3 e4 HPt HB03 HZ3
      generalize w3.heap.size + 1 + 1 = g4 at *
      go_wp2_with fail
      go_loopw [12, 48] (fun vr i wr => ∃ q : Nat, q ≤ mk ∧ i = .int .i64 q ∧ Hid (PwI B0 g4 t.a t.b vr ((kdG x).word :: sk ++ ptT W t q) w4 wr)) (fun _ i _ => mk - (intOf i).toNat)
      case atStart => exact ⟨0, Nat.zero_le _, rfl, HI0⟩
      case round =>
        clear HI0
        obtain ⟨q, hq, rfl, HI⟩ := hrel
        by_cases hqm : q < mk
        · have hq2 : q < 2 := by omega
          obtain ⟨hx0, hx1⟩ := HQ.out.1 q hqm
          have cq := HI.out.pts.at hq2
          have HT : Hid ((kdG x).word :: sk ++ ptT W t (q + 1) = ((kdG x).word :: sk ++ ptT W t q) ++ [W (prt t q).toNat]) := by
            show _ = _
            rw [ptT_more, List.append_assoc]
          obtain ⟨xq, hxq⟩ : ∃ xq : Nat, prt t q = (xq : Int) := ⟨(prt t q).toNat, by omega⟩
          rw [hxq, Int.toNat_natCast] at HT
          rw [hxq] at cq hx0 hx1
          have cx := (HX4.out.below HI.out.bel HWB.out).cell (j := xq) (by omega)
          have HL := hidD (HLn.out q)
          obtain ⟨L, hL⟩ : ∃ L, ((kdG x).word :: sk ++ ptT W t q).length = L := ⟨_, rfl⟩
          rw [hL] at HL
          have hL2 : L ≤ 20 := by have := HL.out; have := HLs.out; omega
          have i2 : (q : Int) < (mk : Int) := by omega
          have i3 : (xq : Int) < (n : Int) := by omega
          have HLe := hidD hL
          have HI3 := hidD (HI.out.step (al_bel wr (.cells #[.string (W xq)] 9)))
          have HC3 : Hid (∀ j u, (rowV stC [W xq])[j]? = some u → (wr.alloc (.cells #[.string (W xq)] 9)).cell? ⟨wr.heap.size, j, none⟩ = some u) := fun j u hj => new_cells wr (stC (W xq)) 9 j u (by simpa [rowV] using hj)
          have HR3 : Hid ((wr.alloc (.cells #[.string (W xq)] 9)).ownsRow B0 9 1 u12 L (rowV stC ((kdG x).word :: sk ++ ptT W t q))) := by
            have h := HI3.out.row
            rw [hL] at h
            exact h
          clear hL hxq HI HL
          go_wp2_with (at_builtin; refine wpList_append_h _ Tryz.underlying61 info_str rfl (by decide) rfl (.tmp 52) (.tmp 57) rfl B0 u12 L (rowV stC ((kdG x).word :: sk ++ ptT W t q)) rfl HR3.out HI3.out.sz wr.heap.size 1 1 (rowV stC [W xq]) rfl rfl HC3.out (rowV_one stC_one _) (by omega) (by omega) ?_; intro v5 w5 ho5 hg5 hn5; have HI5 : Hid (PwI B0 g4 t.a t.b v5 ((kdG x).word :: sk ++ ptT W t (q + 1)) w4 w5) := (by show PwI _ _ _ _ _ _ _ _; rw [HT.out]; exact HI3.out.app (by rw [HLe.out]; exact ho5) hg5 hn5); clear ho5 hg5 hn5)
          go_wp2_with fail
          go_roundw
          case rel => exact ⟨q + 1, by omega, by simp, HI5⟩
          case measure => simp [intOf]; omega
        · obtain rfl : q = mk := by omega
          have i2 : ¬ (q : Int) < (q : Int) := by omega
          have HQ2 := hidD (And.intro HQ.out.2.1 (And.intro HQ.out.2.2 (And.intro HI.out.row (HLn.out q))))
          obtain ⟨xs, hxs⟩ : ∃ xs, (kdG x).word :: sk ++ ptT W t q = xs := ⟨_, rfl⟩
          rw [hxs] at HQ2
          obtain ⟨L, hL⟩ : ∃ L, xs.length = L := ⟨_, rfl⟩
          rw [hL] at HQ2
          have hL1 : 1 ≤ L := by have := HQ2.out.2.2.2; omega
          have hL2 : L ≤ 20 := by have := HQ2.out.2.2.2; have := HLs.out; omega
          obtain ⟨pr, cr, gr, hv, hcr, _, hpr, _, hbr, hcl, _⟩ := orow_src HQ2.out.2.2.1
          obtain rfl := hpr (by omega)
          subst hv
          have HJ : Hid (Calls Tryz.prog 22 #[.slice (some ⟨gr, 0, none⟩) L cr, .string ⟨#[32]⟩] wr fun e w' => e = .returned (.string (W k)) ∧ Below wr.heap.size wr w') := by
            show Calls _ _ _ _ _
            rw [HQ2.out.1, ← hL]
            refine join_go gr 0 cr xs ⟨#[32]⟩ wr (fun j y hy => ?_) (hbr _ rfl).2.2 (by omega) (by omega) HQ2.out.2.1
            have hj := (List.getElem?_eq_some_iff.1 hy).1
            rw [Nat.zero_add, hcl j (by omega), rowV_str, List.getElem?_map, hy]; rfl
          have HX5 := hidD (HX4.out.below HI.out.bel HWB.out)
          have HW5 : Hid (Below wk.heap.size wk wr) := HW4.out.trans (HI.out.bel.mono (Nat.le_of_lt HWB.out))
          clear hcl hpr hbr hcr HI HX4 HW4 HQ2 hxs hL
          go_wp2_with fail
          refine HJ.out.mono ?_
          rintro e w6 ⟨rfl, hb6⟩
          have HX6 := hidD (HX5.out.below hb6 HX5.out.lt)
          have HW6 := hidD (HW5.out.trans (hb6.mono HW5.out.size))
          obtain ⟨uc, hc⟩ := HX6.out.some hlt
          have hz := HX6.out.frozen k
          have HX7 := hidD (HX6.out.put hlt)
          have HW7 := hidD (HW6.out.setCell (p := ⟨wk.heap.size, k, none⟩) (Nat.le_refl _) (.string (W k)))
          clear hb6 HJ HX6 HW6 HX5 HW5
          go_wp2_with fail
          go_roundw
          case rel => exact ⟨k + 1, by omega, by simp, HX7, HW7⟩
          case measure => simp [intOf]; omega
    · have hkn : k = n := by omega
      subst hkn
      obtain ⟨j, hj⟩ : ∃ j, k - 1 = j := ⟨_, rfl⟩
      have i1 : ¬ (k : Int) < (k : Int) := by omega
      have i2 : (k : Int) - 1 = (j : Int) := by omega
      have i3 : (0 : Int) ≤ (j : Int) := by omega
      have i4 : (j : Int) < (k : Int) := by omega
      have c0 := HX.out.cell (j := j) (by omega)
      have HB2 := hidD (HB.out.trans (HW.out.mono HB.out.size))
      have HJ := hidD hj
      clear hj HX HW HK
      go_wp2_with fail
      go_ret2
      exact ⟨by rw [HJ.out]; rfl, HB2.out⟩
end Go.Proofs.YtiiajhomdpfafaaGreatDoor
namespace Go.Proofs.YtiiajhomdpfafaaGreatDoor
open Go.RowKit

structure Aw17 (w : World) : Prop where
  pf : ∃ b o c, PfT 7 6 10 b o c w
  db : w.cell? ⟨12, 15, none⟩ = some (.int .u8 4)
  tb : Lib.TabBelow Tryz.prog w.heap.size w "internal/strconv.uint64pow10" .u64 Lib.pow10Tab
theorem Aw17.below {w w' : World} (h : Aw17 w) (hb : Below w.heap.size w w') : Aw17 w' := by
  have k : ∀ (a : Addr) v, w.cell? a = some v → w'.cell? a = some v := fun a v e => (World.cell?_of_block (w := w) (a := a) (hb.block a.block (World.block_lt_of_cell? _ _ e))).trans e
  obtain ⟨b, o, c, p⟩ := h.pf
  exact ⟨⟨b, o, c, k _ _ p.mb, k _ _ p.op, k _ _ p.pw, k _ _ p.p1⟩, k _ _ h.db, fun w2 h2 => h.tb w2 (hb.trans (h2.mono hb.size))⟩
theorem hexC17 {x : Nat} (hx : U64 x) (hs : splOk x = true) {w : World} (h : Aw17 w) : HexC x (bsA (hexS x)) w := fun wx hb => hex_ok x hx hs wx (h.below hb).db (h.below hb).tb
theorem itoC17 {n : Nat} (hn : n < 100000) {w : World} (h : Aw17 w) : WrC 83 (n : Int) ⟨(Lib.decDigits n).toArray⟩ w :=
  ⟨fun xs w => enterD Tryz.func83 (by kernel_rfl) rfl xs w, fun wx hb => itoa_any n wx wx.heap.size (h.below hb).tb hn⟩
set_option maxRecDepth 20000 in
theorem wday_ok (n : Int) (y m d : Nat) (w : World) (hT : Tab w.heap.size w) (h : IsD n y m d) :
    Calls Tryz.prog 81 #[.int .i64 n] w fun e w' => e = .returned (.string (dateT y m d)) ∧ Below w.heap.size w w' := by
  have H := hidD (print_ok n y m d w hT h)
  clear hT h
  generalize dateT y m d = s at *
  go_enter Tryz.func81, Tryz.ntmps81
  go_wp2_with fail
  refine H.out.mono ?_
  rintro e w1 ⟨rfl, hb⟩
  have HB := hidD hb
  clear hb H
  go_wp2_with fail
  go_ret
  exact ⟨rfl, HB.out⟩
theorem dayC17 {n : Int} {y m d : Nat} (hn : IsD n y m d) {w : World} (h : Aw17 w) : WrC 81 n (dateT y m d) w :=
  ⟨fun xs w => enterD Tryz.func81 (by kernel_rfl) rfl xs w, fun wx hb => wday_ok n y m d wx (h.below hb).tb hn⟩
theorem mes17 : MesR ts17 4 0 0 := .ok 4 4 (by decide) (by kernel_rfl) (by decide)
def ix17 : Nat → Nat
  | 0 => 1
  | 1 => 1
  | 2 => 3
  | 3 => 4
  | _ => 5
def m17 : Nat → Nat
  | 0 => 0
  | 1 => 0
  | 2 => 1
  | 3 => 2
  | _ => 1
def ss17 : Nat → List ByteArray
  | 0 => [bsA (hexS 4607182418800017408), ⟨(Lib.decDigits 1).toArray⟩, dateT 2030 1 1]
  | 1 => [bsA (hexS 4613937818241073152), ⟨(Lib.decDigits 2).toArray⟩, dateT 2031 1 1]
  | 4 => [bsA (hexS 4602678819172646912)]
  | _ => []
def T17a : ByteArray := jnT (kdPay.word :: ss17 0)
def T17b : ByteArray := jnT (kdPay.word :: ss17 1)
def T17c : ByteArray := jnT [kdGive.word, T17b]
def T17d : ByteArray := jnT [kdBoth.word, T17a, T17c]
def T17e : ByteArray := jnT (kdScale.word :: ss17 4 ++ [T17d])
def W17 : Nat → ByteArray
  | 0 => T17a
  | 1 => T17b
  | 2 => T17c
  | 3 => T17d
  | _ => T17e
theorem isD17 : IsD 47482 2030 1 1 ∧ IsD 47847 2031 1 1 := by
  refine ⟨⟨⟨by decide, by decide, by decide, by decide, by decide, by decide⟩, ?_⟩, ⟨⟨by decide, by decide, by decide, by decide, by decide, by decide⟩, ?_⟩⟩ <;> decide
theorem pt17 {w : World} (h : Aw17 w) : ∀ k < 5, PtO ts17 W17 w k (ix17 k) (m17 k) (psG (ix17 k)) (ss17 k) := fun k hk => by
  rcases (show k = 0 ∨ k = 1 ∨ k = 2 ∨ k = 3 ∨ k = 4 by omega) with rfl | rfl | rfl | rfl | rfl
  · refine ⟨by decide, by decide, by decide, by decide, by decide, fdI_G (by decide), fun j hj => ?_, by decide, by decide, fun q hq => absurd (show q < 0 from hq) (by omega), by kernel_rfl, of_decide_eq_true (by kernel_rfl)⟩
    match j, hj with
    | 0, _ => exact hexC17 ⟨by decide, by decide⟩ (by decide) h
    | 1, _ => exact itoC17 (by decide) h
    | 2, _ => exact dayC17 isD17.1 h
  · refine ⟨by decide, by decide, by decide, by decide, by decide, fdI_G (by decide), fun j hj => ?_, by decide, by decide, fun q hq => absurd (show q < 0 from hq) (by omega), by kernel_rfl, of_decide_eq_true (by kernel_rfl)⟩
    match j, hj with
    | 0, _ => exact hexC17 ⟨by decide, by decide⟩ (by decide) h
    | 1, _ => exact itoC17 (by decide) h
    | 2, _ => exact dayC17 isD17.2 h
  · refine ⟨by decide, by decide, by decide, by decide, by decide, fdI_G (by decide), fun j hj => absurd (show j < 0 from hj) (by omega), by decide, by decide, fun q hq => ?_, by kernel_rfl, of_decide_eq_true (by kernel_rfl)⟩
    match q, hq with
    | 0, _ => decide
  · refine ⟨by decide, by decide, by decide, by decide, by decide, fdI_G (by decide), fun j hj => absurd (show j < 0 from hj) (by omega), by decide, by decide, fun q hq => ?_, by kernel_rfl, of_decide_eq_true (by kernel_rfl)⟩
    match q, hq with
    | 0, _ => decide
    | 1, _ => decide
  · refine ⟨by decide, by decide, by decide, by decide, by decide, fdI_G (by decide), fun j hj => ?_, by decide, by decide, fun q hq => ?_, by kernel_rfl, of_decide_eq_true (by kernel_rfl)⟩
    · match j, hj with
      | 0, _ => exact hexC17 ⟨by decide, by decide⟩ (by decide) h
    · match q, hq with
      | 0, _ => decide
theorem trU17 : ∀ i < 5, TrU (ts17.getD i trm0) := fun i hi => by
  rcases (show i = 0 ∨ i = 1 ∨ i = 2 ∨ i = 3 ∨ i = 4 by omega) with rfl | rfl | rfl | rfl | rfl <;> exact ⟨⟨by decide, by decide⟩, ⟨by decide, by decide⟩⟩
theorem print17 (p0 : Option Addr) (b off c : Nat) (w : World) (hs : TSrc w p0 b off ts17) (h : Aw17 w) :
    Calls Tryz.prog 11 #[.slice p0 5 c] w fun e w' => e = .returned (.tuple #[.string T17e, .int .i64 0]) ∧ Below w.heap.size w w' :=
  dPrint_go ts17 5 p0 b off c 4 W17 ix17 m17 (fun k => psG (ix17 k)) ss17 w hs rfl trU17 (by decide) (by decide) mes17 (pt17 h)
def F17 : Nat → List Flw
  | 0 => []
  | 1 => [⟨47482, 4607182418800017408, 1⟩]
  | 2 => fA17
  | 3 => fB17
  | 4 => fB17
  | _ => fC17
def S17 : Nat → List Int
  | 0 => []
  | 1 => [0]
  | 2 => [0, 1]
  | 3 => [0, 1]
  | _ => [0]
theorem mean17 : ∀ k < 5, ∀ B d fv sv wx, MnM B d fv sv (F17 k) (S17 k) wx → B ≤ d → Calls Tryz.prog (kdG (ix17 k)).mean #[.pointer (some ⟨d, 0, none⟩), .agg (trC (ts17.getD k trm0))] wx fun e w' => e = .returned (.int .i64 0) ∧ (∃ v u, MnM B d v u (F17 (k + 1)) (S17 (k + 1)) w') ∧ Below B wx w' := fun k hk B d fv sv wx h hb => by
  rcases (show k = 0 ∨ k = 1 ∨ k = 2 ∨ k = 3 ∨ k = 4 by omega) with rfl | rfl | rfl | rfl | rfl
  · exact mPay_any B d fv sv [] [] (tmP1 3) wx h hb (by decide) (by decide)
  · exact mPay_any B d fv sv (F17 1) [0] (tmP2 3) wx h hb (by decide) (by decide)
  · refine (mGive_any B d 1 fv sv fA17 [0] (ts17.getD 2 trm0) wx h hb (by decide) (by decide) (by decide)).mono ?_
    rintro e w' ⟨h1, ⟨v, h2⟩, h3⟩
    rw [give17] at h2
    exact ⟨h1, ⟨v, sv, h2⟩, h3⟩
  · refine (mBoth_any B d fv sv fB17 [0] 1 (ts17.getD 3 trm0) wx h hb (by decide)).mono ?_
    rintro e w' ⟨h1, ⟨u, h2⟩, h3⟩
    exact ⟨h1, ⟨fv, u, h2⟩, h3⟩
  · refine (mScale_any B d 0 fv sv fB17 [] (ts17.getD 4 trm0) wx h hb (by decide) (by decide) (by decide) (by decide) fit17 scl17 (by decide)).mono ?_
    rintro e w' ⟨h1, ⟨v, h2⟩, h3⟩
    exact ⟨h1, ⟨v, sv, h2⟩, h3⟩
theorem flows17 (p0 : Option Addr) (b off c : Nat) (w : World) (hs : TSrc w p0 b off ts17) :
    Calls Tryz.prog 12 #[.slice p0 5 c] w fun e w' => ∃ v, e = .returned (.tuple #[v, .int .i64 0]) ∧ w'.ownsRow w.heap.size 45 3 v 2 (rowF aF fC17) ∧ Below w.heap.size w w' := by
  refine (dFlows_go ts17 5 p0 b off c 4 F17 S17 ix17 5 1 w hs rfl trU17 (by decide) mes17 rfl rfl (by decide) (by decide) (fun k hk => ?_) mean17 (fun h => absurd h (by decide))).mono ?_
  · rcases (show k = 0 ∨ k = 1 ∨ k = 2 ∨ k = 3 ∨ k = 4 by omega) with rfl | rfl | rfl | rfl | rfl <;> exact ⟨by decide, by decide⟩
  · rintro e w' ⟨_, h2, h3⟩
    obtain ⟨v, he, hr⟩ := h2 rfl
    exact ⟨v, he, hr, h3⟩
end Go.Proofs.YtiiajhomdpfafaaGreatDoor
namespace Go.Proofs.YtiiajhomdpfafaaGreatDoor
open Go.RowKit

theorem rowT_V : ∀ l : List Trm, rowT l = rowV trC l
  | [] => rfl
  | t :: l => by rw [rowT, rowV, rowT_V l]
theorem t17e_is : T17e = ⟨#[115, 99, 97, 108, 101, 32, 48, 120, 49, 112, 45, 49, 32, 98, 111, 116, 104, 32, 112, 97, 121, 32, 48, 120, 49, 112, 43, 48, 32, 49, 32, 50, 48, 51, 48, 45, 48, 49, 45, 48, 49, 32, 103, 105, 118, 101, 32, 112, 97, 121, 32, 48, 120, 49, 46, 56, 112, 43, 49, 32, 50, 32, 50, 48, 51, 49, 45, 48, 49, 45, 48, 49]⟩ := by kernel_rfl
set_option maxRecDepth 20000 in
set_option maxHeartbeats 12800000 in
theorem awake17 (w : World) (h : Aw17 w) :
    Calls Tryz.prog 5 #[] w fun e w' => e = .returned (.bool true) ∧ Below w.heap.size w w' := by
  obtain ⟨b, o, c, hp⟩ := h.pf
  have HP := hidD (parse17 w hp)
  have HA := hidD h
  clear hp h
  go_enter Tryz.func5, Tryz.ntmps5
  go_wp2_with fail
  refine HP.out.mono ?_
  rintro e w1 ⟨v, rfl, ht, hb⟩
  obtain ⟨g, cp, rfl⟩ := ht.full (by simp [ts17])
  have hr : ∃ g', TSrc w1 (some ⟨g, 0, none⟩) g' 0 ts17 := by
    unfold OwnT at ht
    rw [rowT_V] at ht
    exact tsrc_of ht rfl
  obtain ⟨g', hr⟩ := hr
  have HS := hidD hr
  have HB1 := hidD hb
  have HC := hidD (flows17 (some ⟨g, 0, none⟩) g' 0 cp w1 hr)
  have e5 : ts17.length = 5 := rfl
  rw [e5]
  clear ht hb hr HP e5
  go_wp2_with fail
  refine HC.out.mono ?_
  rintro e w2 ⟨vf, rfl, hf, hb⟩
  have HB2 := hidD (HB1.out.trans (hb.mono HB1.out.size))
  have HF := hidD hf
  have HC2 := hidD (print17 (some ⟨g, 0, none⟩) g' 0 cp w2 (HS.out.below hb) (HA.out.below HB2.out))
  clear hb hf HC
  rw [t17e_is] at HC2
  go_wp2_with fail
  refine HC2.out.mono ?_
  rintro e w3 ⟨rfl, hb⟩
  have HB3 := hidD (HB2.out.trans (hb.mono HB2.out.size))
  have HF3 := hidD (orow_below HF.out hb)
  clear hb HC2 HF
  have HC3 := hidD (parseBz w3)
  go_wp2_with fail
  refine HC3.out.mono ?_
  rintro e w4 ⟨rfl, hb⟩
  have HB4 := hidD (HB3.out.trans (hb.mono HB3.out.size))
  obtain ⟨p5, c5, g5, rfl, _, _, hp5, _, _, hcl, _⟩ := orow_src (orow_below HF3.out hb)
  obtain rfl := hp5 (by decide)
  have c1 := hcl 1 (by decide)
  have c4 := hcl 4 (by decide)
  rw [show (rowF aF fC17)[1]? = some (.float .f64 4602678819172646912) from rfl] at c1
  rw [show (rowF aF fC17)[4]? = some (.float .f64 13832806255468478464) from rfl] at c4
  clear hb HC3 HF3 hp5 hcl
  go_wp2_with fail
  go_ret
  exact ⟨rfl, HB4.out⟩
end Go.Proofs.YtiiajhomdpfafaaGreatDoor
