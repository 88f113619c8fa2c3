/- Package deal: what the terms mean, in memory: the flows and where they begin. Package deal: the flows of a tree, term by term. Package deal: a term with one part is read, of any closed text, behind any terms. Package deal: a term with two parts is read, of any closed text, behind any terms. -/
import Derived.Test.YtiiajhomdpfafaaGreatDoorRwJ
import Derived.Test.YtiiajhomdpfafaaGreatDoorHax
import Derived.Test.YtiiajhomdpfafaaGreatDoorHau
import Derived.Test.YtiiajhomdpfafaaGreatDoorHbd
import Derived.Test.YtiiajhomdpfafaaGreatDoorHan
namespace Go.Proofs.YtiiajhomdpfafaaGreatDoor
open Go.RowKit

structure MnM (B b : Nat) (fv sv : Value) (fl : List Flw) (st : List Int) (w : World) : Prop where
  box : w.heap[b]? = some (.cells #[fv, sv] 73)
  flows : w.ownsRow B 45 3 fv fl.length (rowF aF fl)
  starts : w.ownsRow B 3 1 sv st.length (rowV inC st)
theorem MnM.below {B b : Nat} {fv sv : Value} {fl : List Flw} {st : List Int} {w w' : World} (h : MnM B b fv sv fl st w) (hb : Below w.heap.size w w') : MnM B b fv sv fl st w' :=
  ⟨(hb.block _ (lt_of_blk h.box)).trans h.box, orow_below h.flows hb, orow_below h.starts hb⟩
theorem MnM.cells {B b : Nat} {fv sv : Value} {fl : List Flw} {st : List Int} {w : World} (h : MnM B b fv sv fl st w) : w.cell? ⟨b, 0, none⟩ = some fv ∧ w.cell? ⟨b, 1, none⟩ = some sv ∧ ∀ i, w.frozen? ⟨b, i, none⟩ = false := by
  have h := h.box
  refine ⟨?_, ?_, fun i => by simp [World.frozen?, h]⟩ <;>
  · simp only [World.cell?, h, Option.isSome_none, Bool.false_eq_true, if_false]; rfl
theorem MnM.reflow {B b : Nat} {fv sv fv' : Value} {fl fl' : List Flw} {st : List Int} {w w5 : World} (h : MnM B b fv sv fl st w) (hb : B ≤ b) (hB : B ≤ w.heap.size) (hg : w.grownBy w5 fv.ownBlock) (ho : w5.ownsRow B 45 3 fv' fl'.length (rowF aF fl')) :
    w5.heap[b]? = some (.cells #[fv, sv] 73) ∧ MnM B b fv' sv fl' st (w5.setCell ⟨b, 0, none⟩ fv') ∧ Below B w (w5.setCell ⟨b, 0, none⟩ fv') := by
  have h5 : w5.heap[b]? = some (.cells #[fv, sv] 73) := (hg.block b (lt_of_blk h.box) (fun e => orow_box h.flows h.box (by decide) b e.symm rfl)).trans h.box
  refine ⟨h5, ⟨(heap_setCell_same w5 b 0 _ _ _ h5).trans rfl, orow_keep ho fun g hg => blkF_far _ _ _ _ (orow_box ho h5 (by decide) g hg), ?_⟩, (orow_grown h.flows hg hB).setCell (p := ⟨b, 0, none⟩) hb _⟩
  have hm := h.starts.kept hg (orow_apart h.starts h.flows (by decide))
  exact orow_keep hm fun g hg => blkF_far _ _ _ _ (orow_box hm h5 (by decide) g hg)
theorem MnM.restart {B b : Nat} {fv sv sv' : Value} {fl : List Flw} {st st' : List Int} {w w5 : World} (h : MnM B b fv sv fl st w) (hb : B ≤ b) (hB : B ≤ w.heap.size) (hg : w.grownBy w5 sv.ownBlock) (ho : w5.ownsRow B 3 1 sv' st'.length (rowV inC st')) :
    w5.heap[b]? = some (.cells #[fv, sv] 73) ∧ MnM B b fv sv' fl st' (w5.setCell ⟨b, 1, none⟩ sv') ∧ Below B w (w5.setCell ⟨b, 1, none⟩ sv') := by
  have h5 : w5.heap[b]? = some (.cells #[fv, sv] 73) := (hg.block b (lt_of_blk h.box) (fun e => orow_box h.starts h.box (by decide) b e.symm rfl)).trans h.box
  have hc := h.flows.kept hg (orow_apart h.flows h.starts (by decide))
  exact ⟨h5, ⟨(heap_setCell_same w5 b 1 _ _ _ h5).trans rfl, orow_keep hc fun g hg => blkF_far _ _ _ _ (orow_box hc h5 (by decide) g hg), orow_keep ho fun g hg => blkF_far _ _ _ _ (orow_box ho h5 (by decide) g hg)⟩, (orow_grown h.starts hg hB).setCell (p := ⟨b, 1, none⟩) hb _⟩
set_option maxRecDepth 20000 in
set_option maxHeartbeats 6400000 in
theorem mRoom_any (B b : Nat) (fv sv : Value) (fl : List Flw) (st : List Int) (w : World) (h : MnM B b fv sv fl st w) (hn : fl.length < 4096) :
    Calls Tryz.prog 124 #[.pointer (some ⟨b, 0, none⟩)] w fun e w' => e = .returned (.int .i64 0) ∧ w' = w := by
  obtain ⟨p, c, g, rfl, _⟩ := orow_src h.flows
  have c0 := h.cells.1
  have i1 : ¬ (4096 : Int) ≤ (fl.length : Int) := by omega
  clear h
  go_enter Tryz.func124, Tryz.ntmps124
  go_wp2
  go_ret
  exact ⟨rfl, rfl⟩
set_option maxRecDepth 20000 in
set_option maxHeartbeats 12800000 in
theorem mStart_any (B b : Nat) (fv sv : Value) (fl : List Flw) (st : List Int) (w : World) (h : MnM B b fv sv fl st w) (hb : B ≤ b) (hn : st.length ≤ 100000) :
    Calls Tryz.prog 84 #[.pointer (some ⟨b, 0, none⟩)] w fun e w' => e = .returned (.tuple #[]) ∧ (∃ v, MnM B b fv v fl (st ++ [(fl.length : Int)]) w') ∧ BelY b sv.ownBlock w w' := by
  have hbw := lt_of_blk h.box
  have HBw : Hid (B ≤ w.heap.size) := by show _ ≤ _; omega
  obtain ⟨pf, cf, gf, hfv, _⟩ := orow_src h.flows
  subst hfv
  have H := hidD h
  have HBb := hidD hb
  have HN := hidD hn
  obtain ⟨r0, r1, rf⟩ := h.cells
  have y1 := rf 1
  have hbn := Nat.ne_of_lt hbw
  have HWA := hidD (al_bel w.drew (.cells #[.int .i64 (fl.length : Int)] 3))
  have HA : Hid (MnM B b (.slice pf fl.length cf) sv fl st (w.drew.alloc (.cells #[.int .i64 (fl.length : Int)] 3))) := h.below ((Below.refl _ _).drew.alloc (Nat.le_refl _) _)
  have HBA : Hid (B ≤ (w.drew.alloc (.cells #[.int .i64 (fl.length : Int)] 3)).heap.size) := Nat.le_trans HBw.out (by simp)
  have HCA : Hid (∀ j u, (rowV inC [(fl.length : Int)])[j]? = some u → (w.drew.alloc (.cells #[.int .i64 (fl.length : Int)] 3)).cell? ⟨w.heap.size, j, none⟩ = some u) := fun j u hj => new_cells w.drew (inC (fl.length : Int)) 3 j u (by simpa [rowV] using hj)
  have HR : Hid (∀ w5 v5, w5.ownsRow B 3 1 v5 (st.length + 1) (rowV inC st ++ rowV inC [(fl.length : Int)]) → World.grownBy (w.drew.alloc (.cells #[.int .i64 (fl.length : Int)] 3)) w5 sv.ownBlock → w5.heap[b]? = some (.cells #[.slice pf fl.length cf, sv] 73) ∧ MnM B b (.slice pf fl.length cf) v5 fl (st ++ [(fl.length : Int)]) (w5.setCell ⟨b, 1, none⟩ v5) ∧ BelY b sv.ownBlock w (w5.setCell ⟨b, 1, none⟩ v5)) := fun w5 v5 h5 g5 => by
    have h6 := HA.out.restart HBb.out HBA.out g5 (st' := st ++ [(fl.length : Int)]) (by rw [List.length_append, List.length_singleton, rowV_append]; exact h5)
    exact ⟨h6.1, h6.2.1, ⟨h6.2.2.os, h6.2.2.tape, h6.2.2.output, Nat.le_trans (show w.heap.size ≤ (w.drew.alloc (.cells #[.int .i64 (fl.length : Int)] 3)).heap.size by simp) h6.2.2.size, fun k hk hn hq => (blkF_far _ _ _ _ (show k ≠ b from hn)).trans ((g5.block k (by simp; omega) (fun e => hq e.symm)).trans ((al_bel w.drew _).block k hk))⟩⟩
  clear h hb hn rf
  go_enter Tryz.func84, Tryz.ntmps84
  go_region_law (refine step_append_h Tryz.underlying54 info_int rfl (by decide) rfl (.tmp 6) (.tmp 12) rfl B sv st.length (rowV inC st) rfl HA.out.starts HBA.out w.heap.size 1 1 (rowV inC [(fl.length : Int)]) rfl rfl HCA.out (rowV_one inC_one _) (by have := HN.out; omega) (by have := HN.out; omega) ?_; intro v5 w5 ho5 hg5 hn5; have te := HR.out w5 v5 ho5 hg5; obtain ⟨p5, c5, g5, hv5, _, _, hp5, _⟩ := orow_src ho5; obtain rfl := hp5 (by omega); subst hv5; clear hp5; have HTE := hidD te; have q5 := (opx_cells te.1 1 rfl).1; have y5 := (opx_cells te.1 1 rfl).2; clear ho5 hg5 hn5 te)
  all_goals
    exact bodyPost_end (v := .tuple #[]) (by simp [results, Tryz.results84, go_sem]) rfl ⟨rfl, ⟨_, ⟨HTE.out.2.1.box, HTE.out.2.1.flows, HTE.out.2.1.starts⟩⟩, HTE.out.2.2⟩
end Go.Proofs.YtiiajhomdpfafaaGreatDoor
namespace Go.Proofs.YtiiajhomdpfafaaGreatDoor
open Go.RowKit

theorem mnm_new (w : World) : MnM w.heap.size w.heap.size (.slice none 0 0) (.slice none 0 0) [] [] (w.alloc (.cells #[.slice none 0 0, .slice none 0 0] 73)) :=
  ⟨heap_alloc_new _ _, orow_nil _ _ _ _, orow_nil _ _ _ _⟩
theorem cell5_at {w : World} {g : Nat} {a b c d e : Value} {T : TypeId} (h : w.heap[g]? = some (.cells #[a, b, c, d, e] T)) : w.cell? ⟨g, 4, none⟩ = some e := by
  simp only [World.cell?, h, Option.isSome_none, Bool.false_eq_true, if_false]; rfl
theorem orow_downA {B B' sz n : Nat} {T : TypeId} {v : Value} {xs : List Value} {w : World} (h : w.ownsRow B T sz v n xs) (hb : B' ≤ B) : w.ownsRow B' T sz v n xs := ⟨h.1, h.2.imp id (fun ⟨g, c, ys, e, hg, r⟩ => ⟨g, c, ys, e, Nat.le_trans hb hg, r⟩)⟩
theorem mean_en {x : Nat} (h : x < 8) : ∀ xs w, (callFunc (kdG x).mean xs).run Tryz.prog w = .ok (.enter (kdG x).mean xs) w := by
  rcases (show x = 0 ∨ x = 1 ∨ x = 2 ∨ x = 3 ∨ x = 4 ∨ x = 5 ∨ x = 6 ∨ x = 7 by omega) with rfl | rfl | rfl | rfl | rfl | rfl | rfl | rfl
  · exact fun xs w => enterD Tryz.func45 (by kernel_rfl) rfl xs w
  · exact fun xs w => enterD Tryz.func46 (by kernel_rfl) rfl xs w
  · exact fun xs w => enterD Tryz.func48 (by kernel_rfl) rfl xs w
  · exact fun xs w => enterD Tryz.func49 (by kernel_rfl) rfl xs w
  · exact fun xs w => enterD Tryz.func50 (by kernel_rfl) rfl xs w
  · exact fun xs w => enterD Tryz.func51 (by kernel_rfl) rfl xs w
  · exact fun xs w => enterD Tryz.func52 (by kernel_rfl) rfl xs w
  · exact fun xs w => enterD Tryz.func53 (by kernel_rfl) rfl xs w
def DfO (K n : Nat) (E : Int) (l : List Flw) (w : World) (e : Ending) (w' : World) : Prop := (K < n → e = .returned (.tuple #[.slice none 0 0, .int .i64 E])) ∧ (K = n → ∃ v, e = .returned (.tuple #[v, .int .i64 0]) ∧ w'.ownsRow w.heap.size 45 3 v l.length (rowF aF l)) ∧ Below w.heap.size w w'
set_option maxRecDepth 20000 in
set_option maxHeartbeats 25600000 in
theorem dFlows_go (ts : List Trm) (n : Nat) (p0 : Option Addr) (b off c : Nat) (D : Int) (F : Nat → List Flw) (S : Nat → List Int) (ix : Nat → Nat) (K : Nat) (E : Int) (w : World) (hs : TSrc w p0 b off ts) (hn : ts.length = n) (hu : ∀ i < n, TrU (ts.getD i trm0)) (hl : n ≤ 1024) (hm : MesR ts D 0 0) (hF0 : F 0 = []) (hS0 : S 0 = []) (hE : E ≠ 0) (hK : K ≤ n)
    (hix : ∀ k < n, ix k < 8 ∧ (ts.getD k trm0).kind = (ix k : Int) + 1)
    (hgo : ∀ k < K, ∀ B d fv sv wx, MnM B d fv sv (F k) (S k) wx → B ≤ d → Calls Tryz.prog (kdG (ix k)).mean #[.pointer (some ⟨d, 0, none⟩), .agg (trC (ts.getD k trm0))] wx fun e w' => e = .returned (.int .i64 0) ∧ (∃ v u, MnM B d v u (F (k + 1)) (S (k + 1)) w') ∧ Below B wx w')
    (hno : K < n → ∀ B d fv sv wx, MnM B d fv sv (F K) (S K) wx → B ≤ d → Calls Tryz.prog (kdG (ix K)).mean #[.pointer (some ⟨d, 0, none⟩), .agg (trC (ts.getD K trm0))] wx fun e w' => e = .returned (.int .i64 E) ∧ Below B wx w') :
    Calls Tryz.prog 12 #[.slice p0 n c] w fun e w' => DfO K n E (F n) w e w' := by
  have H := hidD (dCheck_is hm n p0 b off c w hs hn hu (by omega))
  have HS := hidD (And.intro hs (And.intro hn hix))
  have HG := hidD hgo
  have HX := hidD hno
  have HI := hidD (And.intro hF0 hS0)
  have h0 : (E == 0) = false := beq_eq_false_iff_ne.2 hE
  have hK' := hidD hK
  clear hm hs hn hu hE hix hgo hno hF0 hS0 hK
  have hst := store_fltD
  go_enter Tryz.func12, Tryz.ntmps12
  go_wp2_with fail
  refine H.out.mono ?_
  rintro e w1 ⟨rfl, hb1⟩
  have HB1 := hidD hb1
  clear hb1 H
  go_wp2_with fail
  refine (kinds_any _).mono ?_
  rintro e wk ⟨v, rfl, hv, hb⟩
  obtain ⟨h, u, rfl, ht⟩ := tab_open hv
  have HTk := hidD ht
  have HB := hidD (HB1.out.trans (hb.mono HB1.out.size))
  have HSk := hidD (HS.out.1.below HB.out)
  have HM0 := hidD (mnm_new wk)
  clear hv hb ht HB1
  go_wp2_with fail
  have HWa := hidD (al_bel wk (.cells #[.slice none 0 0, .slice none 0 0] 73))
  go_loopw [26] (fun i wr => ∃ k : Nat, k ≤ K ∧ i = .int .i64 k ∧ Hid (∃ fv sv, MnM wk.heap.size wk.heap.size fv sv (F k) (S k) wr) ∧ Hid (Below wk.heap.size wk wr)) (fun i _ => n - (intOf i).toNat)
  case atStart => exact ⟨0, Nat.zero_le _, rfl, (by show ∃ _ _, _; rw [HI.out.1, HI.out.2]; exact ⟨_, _, HM0.out⟩), HWa⟩
  case round =>
    clear HM0 HWa
    obtain ⟨k, hk, rfl, HMn, HW⟩ := hrel
    have HSr := hidD (HSk.out.below HW.out)
    by_cases hlt : k < n
    · have hlt' : k < ts.length := by rw [HS.out.2.1]; exact hlt
      obtain rfl := HSr.out.at_ (by omega)
      have c0 := HSr.out.c0 k hlt'
      have c1 := HSr.out.c1 k hlt'
      have c2 := HSr.out.c2 k hlt'
      have c3 := HSr.out.c3 k hlt'
      have c4 := HSr.out.c4 k hlt'
      have c5 := HSr.out.c5 k hlt'
      have c6 := HSr.out.c6 k hlt'
      have c7 := HSr.out.c7 k hlt'
      have c8 := HSr.out.c8 k hlt'
      have c9 := HSr.out.c9 k hlt'
      have c10 := HSr.out.c10 k hlt'
      have hbl : b < wr.heap.size := HSr.out.lt (by omega)
      have hbn := Nat.ne_of_lt hbl
      obtain ⟨h8, hkx⟩ := HS.out.2.2 k hlt
      have i1 : (k : Int) < (n : Int) := by omega
      have HGk : Hid (k < K → ∀ B d fv sv wx, MnM B d fv sv (F k) (S k) wx → B ≤ d → Calls Tryz.prog (kdG (ix k)).mean #[.pointer (some ⟨d, 0, none⟩), .agg (trC (ts.getD k trm0))] wx fun e w' => e = .returned (.int .i64 0) ∧ (∃ v u, MnM B d v u (F (k + 1)) (S (k + 1)) w') ∧ Below B wx w') := fun h => HG.out k h
      have HXk : Hid (k = K → ∀ B d fv sv wx, MnM B d fv sv (F k) (S k) wx → B ≤ d → Calls Tryz.prog (kdG (ix k)).mean #[.pointer (some ⟨d, 0, none⟩), .agg (trC (ts.getD k trm0))] wx fun e w' => e = .returned (.int .i64 E) ∧ Below B wx w') := fun h => by subst h; exact HX.out hlt
      obtain ⟨x, hx⟩ : ∃ x, ix k = x := ⟨_, rfl⟩
      rw [hx] at h8 hkx HGk HXk
      clear hx
      generalize ht : ts.getD k trm0 = t at *
      clear ht
      obtain ⟨p, q, hu, hq⟩ := (HTk.out.slc x h8).shape
      clear hq
      have hen := mean_en h8
      have HOf : Hid (∀ wx, TabC h u wx → Calls Tryz.prog 19 #[.slice (some ⟨h, 0, none⟩) 8 8, .int .i64 t.kind] wx fun e w' => e = .returned (.tuple #[.agg #[.int .i64 (kdG x).num, .string (kdG x).word, .slice p q q, .int .i64 (kdG x).parts, .func (.func (kdG x).mean) #[] #[]], .bool true]) ∧ Below wx.heap.size wx w') := fun wx ht => (ofNumber_any h u t.kind wx ht).mono fun e w' ⟨v, he, hv, hb⟩ => ⟨by
        rw [hkx] at hv
        have := fnd_num h8 hv
        rw [hu] at this
        rw [he, this]; rfl, hb⟩
      clear hu hkx h8
      obtain ⟨fm, hfm⟩ : ∃ fm, (kdG x).mean = fm := ⟨_, rfl⟩
      rw [hfm] at HOf HGk HXk
      rw [hfm] at hen
      clear hfm
      go_wp2_with fail
      have Ht1 : Hid (TrB (wr.alloc (.cells #[.int .i64 t.kind, .int .i64 t.a, .int .i64 t.b, .float .f64 t.x, .float .f64 t.y, .int .i64 t.day, .int .i64 t.to, .int .i64 t.cur, .int .i64 t.count, .int .i64 t.n, .int .i64 t.months] 47)) wr.heap.size t) := heap_alloc_new _ _
      refine (HOf.out _ ((HTk.out.below HW.out).below (al_bel _ _))).mono ?_
      rintro e w1 ⟨rfl, hb1⟩
      have HB1 := hidD ((al_bel wr _).trans (hb1.mono (by simp)))
      have Ht2 := hidD ((Ht1.out.below hb1).below (al_bel w1 (.cells #[.int .i64 (kdG x).num, .string (kdG x).word, .slice p q q, .int .i64 (kdG x).parts, .func (.func fm) #[] #[]] 65)))
      have Hk2 := hidD (heap_alloc_new w1 (.cells #[.int .i64 (kdG x).num, .string (kdG x).word, .slice p q q, .int .i64 (kdG x).parts, .func (.func fm) #[] #[]] 65))
      have HB2 := hidD (HB1.out.trans ((al_bel w1 (.cells #[.int .i64 (kdG x).num, .string (kdG x).word, .slice p q q, .int .i64 (kdG x).parts, .func (.func fm) #[] #[]] 65)).mono HB1.out.size))
      have HW2 := hidD (HW.out.trans (HB2.out.mono HW.out.size))
      obtain ⟨fv, sv, hM0⟩ := HMn.out
      have HM2 := hidD (hM0.below HB2.out)
      obtain ⟨d0, d1, d2, d3, d4, d5, d6, d7, d8, d9, d10⟩ := trm_cells Ht2.out
      have e4 := cell5_at Hk2.out
      clear hb1 c0 c1 c2 c3 c4 c5 c6 c7 c8 c9 c10 HOf Ht1 hM0 HMn HB1 HB2
      by_cases hkK : k < K
      · have HC := hidD (HGk.out hkK wk.heap.size wk.heap.size fv sv _ HM2.out (Nat.le_refl _))
        clear HGk HXk
        go_wp2_with fail
        refine HC.out.mono ?_
        rintro e w3 ⟨rfl, hM3, hb3⟩
        have HM3 := hidD hM3
        have HW3 := hidD (HW2.out.trans hb3)
        clear hM3 hb3 HC d0 d1 d2 d3 d4 d5 d6 d7 d8 d9 d10 e4 Ht2 Hk2 HM2 HW2
        go_wp2_with fail
        go_roundw
        case rel => exact ⟨k + 1, by omega, by simp, HM3, HW3⟩
        case measure => simp [intOf]; omega
      · have HC := hidD (HXk.out (by omega) wk.heap.size wk.heap.size fv sv _ HM2.out (Nat.le_refl _))
        have HKn : Hid (K < n) := by show _ < _; omega
        clear HGk HXk
        go_wp2_with fail
        refine HC.out.mono ?_
        rintro e w3 ⟨rfl, hb3⟩
        have HW3 := hidD (HB.out.trans ((HW2.out.trans hb3).mono HB.out.size))
        clear hb3 HC d0 d1 d2 d3 d4 d5 d6 d7 d8 d9 d10 e4 Ht2 Hk2 HM2 HW2
        go_wp2_with fail
        go_ret2
        exact ⟨fun _ => rfl, fun h => absurd HKn.out (by omega), HW3.out⟩
    · have hkn : k = n := by have := hK'.out; omega
      have hKn : Hid (¬ K < n) := by show ¬ _; omega
      have i1 : ¬ (k : Int) < (n : Int) := by omega
      obtain ⟨fv, sv, hM0⟩ := HMn.out
      have r0 := hM0.cells.1
      have HO := hidD (orow_downA hM0.flows HB.out.size)
      have HB2 := hidD (HB.out.trans (HW.out.mono HB.out.size))
      clear hM0 HMn HW
      go_wp2_with fail
      go_ret2
      exact ⟨fun h => absurd h hKn.out, fun _ => ⟨fv, rfl, by rw [← hkn]; exact HO.out⟩, HB2.out⟩
end Go.Proofs.YtiiajhomdpfafaaGreatDoor
namespace Go.Proofs.YtiiajhomdpfafaaGreatDoor
open Go.RowKit

def RdT (b : Nat) (s : ByteArray) (kv : Value) (B : Nat) (v0 : Value) (depth m1 a1 z1 g1 : Int) (ts1 : List Trm) (wx : World) : Prop :=
  Calls Tryz.prog 26 #[.pointer (some ⟨b, 0, none⟩), .int .i64 depth] wx fun e w' => e = .returned (.int .i64 m1) ∧ ∃ v, RdB w' b s kv a1 z1 g1 v ∧ OwnT B v ts1 w' ∧ (v.ownBlock = v0.ownBlock ∨ ∀ k, v.ownBlock = some k → wx.heap.size ≤ k) ∧ BelY b v0.ownBlock wx w'
structure TmY (w : World) (b K T : Nat) (q : Option Nat) (s : ByteArray) (kv : Value) (a n g : Int) (tv : Value) (kc : Array Value) (t : Trm) (wr : World) : Prop where
  rb : RdB wr b s kv a n g tv
  kb : wr.heap[K]? = some (.cells kc 65)
  tb : TrB wr T t
  bl : BelY b q w wr
  k0 : w.heap.size ≤ K
  t0 : w.heap.size ≤ T
  kt : K ≠ T
  b0 : b < w.heap.size
theorem TmY.of_s {w : World} {b K T : Nat} {q : Option Nat} {s : ByteArray} {kv : Value} {a n g : Int} {tv : Value} {kc : Array Value} {t : Trm} {wr : World} (h : TmS w b K T s kv a n g tv kc t wr) : TmY w b K T q s kv a n g tv kc t wr := ⟨h.rb, h.kb, h.tb, .of_x h.bl, h.k0, h.t0, h.kt, h.b0⟩
theorem TmY.over {w wr w' : World} {b K T : Nat} {q q1 : Option Nat} {s : ByteArray} {kv : Value} {a n g a' n' g' : Int} {tv tv' : Value} {kc : Array Value} {t : Trm} (h : TmY w b K T q s kv a n g tv kc t wr) (hr : RdB w' b s kv a' n' g' tv') (hy : BelY b q1 wr w') (hK : q1 ≠ some K) (hT : q1 ≠ some T) (hq : q1 = q ∨ ∀ j, q1 = some j → w.heap.size ≤ j) : TmY w b K T q s kv a' n' g' tv' kc t w' :=
  ⟨hr, (hy.block K (lt_of_blk h.kb) (by have := h.k0; have := h.b0; omega) hK).trans h.kb, (hy.block T (lt_of_blk h.tb) (by have := h.t0; have := h.b0; omega) hT).trans h.tb, h.bl.trans hy hq, h.k0, h.t0, h.kt, h.b0⟩
theorem TmY.put {w : World} {b K T : Nat} {q : Option Nat} {s : ByteArray} {kv : Value} {a n g : Int} {tv : Value} {kc : Array Value} {t t' : Trm} {wr : World} (h : TmY w b K T q s kv a n g tv kc t wr) (i : Nat) (v : Value) (ht : TrB (wr.setCell ⟨T, i, none⟩ v) T t') : TmY w b K T q s kv a n g tv kc t' (wr.setCell ⟨T, i, none⟩ v) := by
  have hb := h.b0
  have hT := h.t0
  refine ⟨(blkF_far _ _ _ _ (by show b ≠ T; omega)).trans h.rb, (blkF_far _ _ _ _ h.kt).trans h.kb, ht, ⟨h.bl.os, h.bl.tape, h.bl.output, by rw [World.size_setCell]; exact h.bl.size, fun k hk hn hq => ?_⟩, h.k0, hT, h.kt, hb⟩
  exact (blkF_far _ _ _ _ (by show k ≠ T; omega)).trans (h.bl.block k hk hn hq)
theorem term_end4 {w wn w5 : World} {b g5 c5 n5 B : Nat} {q : Option Nat} {s : ByteArray} {kv : Value} {a n g : Int} {v3 : Value} {ts1 ts : List Trm} (hr : RdB wn b s kv a n g v3) (hx : BelY b q w wn) (h3 : OwnT B v3 ts1 wn) (hv : v3.ownBlock = q ∨ ∀ j, v3.ownBlock = some j → w.heap.size ≤ j) (ho : OwnT B (.slice (some ⟨g5, 0, none⟩) n5 c5) ts w5) (hg : wn.grownBy w5 v3.ownBlock) (hn : (Value.slice (some ⟨g5, 0, none⟩) n5 c5).ownBlock = v3.ownBlock ∨ (Value.slice (some ⟨g5, 0, none⟩) n5 c5).ownBlock = some wn.heap.size) :
    RdB w5 b s kv a n g v3 ∧ RdB (w5.setCell ⟨b, 5, none⟩ (.slice (some ⟨g5, 0, none⟩) n5 c5)) b s kv a n g (.slice (some ⟨g5, 0, none⟩) n5 c5) ∧ OwnT B (.slice (some ⟨g5, 0, none⟩) n5 c5) ts (w5.setCell ⟨b, 5, none⟩ (.slice (some ⟨g5, 0, none⟩) n5 c5)) ∧ ((Value.slice (some ⟨g5, 0, none⟩) n5 c5).ownBlock = q ∨ ∀ k, (Value.slice (some ⟨g5, 0, none⟩) n5 c5).ownBlock = some k → w.heap.size ≤ k) ∧ BelY b q w (w5.setCell ⟨b, 5, none⟩ (.slice (some ⟨g5, 0, none⟩) n5 c5)) := by
  have hvb : v3.ownBlock ≠ some b := fun e => orow_box h3 hr (by decide) b e rfl
  have h5 : RdB w5 b s kv a n g v3 := (hg.block b (lt_of_blk hr) (fun e => hvb e.symm)).trans hr
  have s1 := hx.size
  have hgb : g5 ≠ b := fun e => by
    rcases hn with hn | hn
    · exact hvb (by rw [← hn, e]; rfl)
    · have h1 : g5 = wn.heap.size := by simpa [Value.ownBlock] using hn
      have := lt_of_blk hr
      omega
  refine ⟨h5, h5.terms _, ho.keep fun k hk => ?_, ?_, ?_⟩
  · have : g5 = k := by simpa [Value.ownBlock] using hk
    exact blkF_far _ _ _ _ (by show k ≠ b; omega)
  · rcases hn with hn | hn
    · rw [hn]; exact hv
    · refine .inr fun k hk => ?_
      rw [hn] at hk
      injection hk with hk
      omega
  · have o1 := OneB.one b w5 5 (.slice (some ⟨g5, 0, none⟩) n5 c5)
    refine ⟨(hg.os.trans hx.os), (hg.tape.trans hx.tape), (hg.output.trans hx.output), Nat.le_trans s1 (by rw [World.size_setCell]; exact hg.size), fun k hk hn hq => ?_⟩
    refine (o1.out k hn).trans ((hg.block k (by omega) (fun e => ?_)).trans (hx.block k hk hn hq))
    rcases hv with hv | hv
    · exact hq (by rw [← hv, e])
    · have := hv k e.symm
      omega
set_option maxRecDepth 20000 in
set_option maxHeartbeats 25600000 in
theorem termOne (P : RPlan) {s : ByteArray} {i : Nat} (b h : Nat) (u : Nat → Value) (g depth : Int) (w0 w : World) (a0 : Int) (v0 : Value) (ts0 : List Trm) (B : Nat) (hP : P.Ok s i w0) (hp0 : (kdG P.ix).parts = 1) (ht : TabC h u w0) (hb0 : Below w0.heap.size w0 w) (hlb : w0.heap.size ≤ b) (hR : RdB w b s (.slice (some ⟨h, 0, none⟩) 8 8) a0 i g v0) (ho : OwnT B v0 ts0 w) (hBw : B ≤ w.heap.size) (hl : ts0.length ≤ 1000) (hg0 : 0 ≤ g) (hg : g < 1024) (hd : depth ≤ 60) (hd0 : 0 ≤ depth) (m1 a1 z1 g1 : Int) (ts1 : List Trm) (hl1 : ts1.length ≤ 1000)
    (HI1 : ∀ wx, Below w0.heap.size w0 wx → RdB wx b s (.slice (some ⟨h, 0, none⟩) 8 8) (P.at_ (kdG P.ix).ds.length) (P.po (kdG P.ix).ds.length) (g + 1) v0 → OwnT B v0 ts0 wx → B ≤ wx.heap.size → RdT b s (.slice (some ⟨h, 0, none⟩) 8 8) B v0 (depth + 1) m1 a1 z1 g1 ts1 wx) :
    RdT b s (.slice (some ⟨h, 0, none⟩) 8 8) B v0 depth (ts1.length : Int) a1 z1 g1 (ts1 ++ [{ P.tm (kdG P.ix).ds.length with a := m1 }]) w := by
  unfold RdT
  have HK := hidD (rdKind_ok hP.kw b h u v0 a0 g depth P.ix hP.lt hP.kx hP.first w0 w ht hb0 hlb hR hP.sz (by omega) (by omega))
  obtain ⟨p, m, G, hu, hm, hG, hc⟩ := flds_cell (ht.slc P.ix hP.lt)
  have hfa : ∀ k (hk : k < (kdG P.ix).ds.length), k < m := fun k hk => by omega
  have HC := hidD hc
  have HT := hidD (And.intro ht (And.intro hb0 (And.intro hlb hG)))
  have HR := hidD hR
  have HP := hidD hP
  have HO := hidD (And.intro ho (And.intro hBw hl))
  rw [← hm] at HI1
  have HJ1 := hidD HI1
  have HRW : Hid (∃ cur T, w.heap[b]? = some (.cells cur T) ∧ T ≠ 47) := ⟨_, _, hR, by decide⟩
  have hbw : b < w.heap.size := lt_of_blk hR
  have i1 : g + 1 ≤ 1024 := by omega
  obtain ⟨num, hnum⟩ : ∃ x, (kdG P.ix).num = x := ⟨_, rfl⟩
  obtain ⟨word, hword⟩ : ∃ x, (kdG P.ix).word = x := ⟨_, rfl⟩
  obtain ⟨mf, hmn⟩ : ∃ x, (kdG P.ix).mean = x := ⟨_, rfl⟩
  have hm7 : m ≤ 7 := by rw [hm]; exact kd_few hP.lt
  have HM := hidD (And.intro hm hnum)
  rw [← hm]
  unfold kV at HK
  rw [hu, hnum, hword, hp0, hmn] at HK
  unfold fnB at HK
  clear HI1 ht hb0 hlb hR hG hc hg ho hBw hl hP hfa hu hm hnum hword hmn hp0
  have hst := store_fltD
  go_enter Tryz.func26, Tryz.ntmps26
  go_wp2_with fail
  refine HK.out.mono ?_
  rintro e w1 ⟨rfl, hr, hx⟩
  obtain ⟨_, q4, _, qf⟩ := rd_cells (hr.stay (al_bel w1 (.cells #[.int .i64 num, .string word, .slice p m m, .int .i64 1, .func (.func mf) #[] #[]] 65)))
  have y4 := qf 4
  have HR1 := hidD hr
  have HX1 := hidD hx
  clear hr hx qf HK
  go_wp2_with fail
  have HS := hidD (tmS_at #[.int .i64 num, .string word, .slice p m m, .int .i64 1, .func (.func mf) #[] #[]] { trm0 with kind := num } (g + 1) HR1.out HX1.out hbw)
  unfold trC trm0 at HS
  dsimp only at HS
  clear q4 y4 HR1 HX1
  generalize hw2 : World.alloc _ _ = w2 at HS ⊢
  clear hw2
  obtain ⟨K, hK⟩ : ∃ K, w1.heap.size = K := ⟨_, rfl⟩
  obtain ⟨T, hT⟩ : ∃ T, w1.heap.size + 1 = T := ⟨_, rfl⟩
  rw [hT, hK] at HS
  rw [hT, hK]
  clear hK hT
  have HS0 : Hid (TmS w b K T s (.slice (some ⟨h, 0, none⟩) 8 8) (P.at_ 0) (P.po 0) (g + 1) v0 #[.int .i64 num, .string word, .slice p m m, .int .i64 1, .func (.func mf) #[] #[]] (P.tm 0) w2) := by rw [HP.out.tm0, HM.out.2]; exact HS
  clear HS
  go_loopw [25] (fun i wr => ∃ k : Nat, k ≤ m ∧ i = .int .i64 k ∧ Hid (TmS w b K T s (.slice (some ⟨h, 0, none⟩) 8 8) (P.at_ k) (P.po k) (g + 1) v0 #[.int .i64 num, .string word, .slice p m m, .int .i64 1, .func (.func mf) #[] #[]] (P.tm k) wr)) (fun i _ => m - (intOf i).toNat)
  case atStart => exact ⟨0, Nat.zero_le _, rfl, HS0⟩
  case round =>
    clear HS0
    obtain ⟨k, hk, rfl, HI⟩ := hrel
    by_cases hlt : k < m
    · have hlt' : k < (kdG P.ix).ds.length := by rw [← HM.out.1]; exact hlt
      obtain rfl := (HT.out.2.2.2 (by omega)).1
      have hGl := (HT.out.2.2.2 (by omega)).2
      have HBw := hidD (HI.out.bl.below HT.out.2.1 HT.out.2.2.1 HT.out.2.1.size)
      obtain ⟨x0, x1, x2, x3, HF⟩ : ∃ c0 c1 c2 c3, FCell w0 G (k * 4) ((kdG P.ix).ds[k]'hlt') c0 c1 c2 c3 := HC.out k hlt'
      obtain ⟨F0, C0, rfl, en0, hR0⟩ := HP.out.read k hlt' _ _ _ _ HF.fd
      obtain ⟨F1, C1, rfl, en1, hF1⟩ := fd_fit HF.fd (HP.out.fdi k hlt') (P.tm (k + 1)) (HP.out.tru _)
      rw [HP.out.fit k hlt'] at hF1
      obtain ⟨F3, C3, rfl, _, _⟩ := fd_clear HF.fd (HP.out.fdi k hlt')
      obtain ⟨_, _, F2, C2, _, rfl⟩ := fd_shape HF.fd
      obtain ⟨c0, c1, c2, c3, _⟩ := HF.below hGl HBw.out
      have HWd := hidD (fun wx a (hr : RdB wx b s (.slice (some ⟨h, 0, none⟩) 8 8) a (P.po k) (g + 1) v0) => word_at (HP.out.wr k hlt') b (.slice (some ⟨h, 0, none⟩) 8 8) v0 a (g + 1) (P.wd k) (HP.out.ex k hlt') wx hr HP.out.sz)
      have HRd := hidD hR0
      have HFt := hidD hF1
      have i2 : (k : Int) < (m : Int) := by omega
      have i3 : (0 : Int) ≤ (k : Int) := by omega
      have i4 : ¬ (m : Int) ≤ (k : Int) := by omega
      clear hR0 hF1 HF hGl
      go_wp2_with fail
      have HIf := hidD (HI.out.step (al_bel wr (.cells #[.func (.func F0) #[] C0, .func (.func F1) #[] C1, .func (.func F2) #[] C2, .func (.func F3) #[] C3] 98)))
      have hfb := heap_alloc_new wr (.cells #[.func (.func F0) #[] C0, .func (.func F1) #[] C1, .func (.func F2) #[] C2, .func (.func F3) #[] C3] 98)
      have hFBb : wr.heap.size ≠ b := Nat.ne_of_gt (lt_of_blk HI.out.rb)
      have hFBT : wr.heap.size ≠ T := Nat.ne_of_gt (lt_of_blk HI.out.tb)
      obtain ⟨wf, hwf⟩ : ∃ wf, wr.alloc (.cells #[.func (.func F0) #[] C0, .func (.func F1) #[] C1, .func (.func F2) #[] C2, .func (.func F3) #[] C3] 98) = wf := ⟨_, rfl⟩
      rw [hwf] at HIf hfb ⊢
      obtain ⟨FB, hFB⟩ : ∃ FB, wr.heap.size = FB := ⟨_, rfl⟩
      rw [hFB] at hfb hFBb hFBT ⊢
      have HFB := hidD hfb
      obtain ⟨f0, f1, _, _⟩ := cellF_of hfb
      clear hwf hFB hfb c0 c1 c2 c3 HBw HI
      have HWa := hidD ((HWd.out (wf.drewN 1) _ HIf.out.rb).mono fun e w' hh => (⟨hh.1, HIf.out.one ⟨hh.2.2.os, hh.2.2.tape, hh.2.2.output, hh.2.2.size, hh.2.2.out⟩ hh.2.1, (hh.2.2.out FB hFBb).trans HFB.out⟩ : e = .returned (.string (P.wd k)) ∧ TmS w b K T s (.slice (some ⟨h, 0, none⟩) 8 8) (P.at_ (k + 1)) (P.po (k + 1)) (g + 1) v0 #[.int .i64 num, .string word, .slice (some ⟨G, 0, none⟩) m m, .int .i64 1, .func (.func mf) #[] #[]] (P.tm k) w' ∧ w'.heap[FB]? = some (.cells #[.func (.func F0) #[] C0, .func (.func F1) #[] C1, .func (.func F2) #[] C2, .func (.func F3) #[] C3] 98)))
      go_region_with (first
        | (go_at_call 27; refine HWa.out.mono ?_; rintro e w2 ⟨rfl, hi2, hb2⟩; have HI2 := hidD hi2; have HF2 := hidD hb2; have HK2 := hidD (And.intro (cellF_of hb2).1 (cellF_of hb2).2.1); have k20 := (cellF_of hb2).1; have k21 := (cellF_of hb2).2.1; clear hi2 hb2)
        | (refine (HRd.out _ _ (HI2.out.bl.below HT.out.2.1 HT.out.2.2.1 HT.out.2.1.size) HI2.out.tb).mono ?_; rintro e w3 ⟨rfl, wm, hbm, hw3⟩; have HI3 : Hid (TmS w b K T s (.slice (some ⟨h, 0, none⟩) 8 8) (P.at_ (k + 1)) (P.po (k + 1)) (g + 1) v0 #[.int .i64 num, .string word, .slice (some ⟨G, 0, none⟩) m m, .int .i64 1, .func (.func mf) #[] #[]] (P.tm (k + 1)) w3) := tmG_put (HP.out.put k hlt') HI2.out hbm hw3; have HF3 := hidD (fb_put HF2.out hbm hw3 hFBT); have HK3 := hidD (And.intro (cellF_of HF3.out).1 (cellF_of HF3.out).2.1); have k30 := (cellF_of HF3.out).1; have k31 := (cellF_of HF3.out).2.1; obtain ⟨d0, d1, d2, d3, d4, d5, d6, d7, d8, d9, d10⟩ := trm_cells HI3.out.tb; clear hbm hw3)
        | (refine (HFt.out _ (HI3.out.bl.below HT.out.2.1 HT.out.2.2.1 HT.out.2.1.size)).mono ?_; rintro e w4 ⟨rfl, hb4⟩; have HI4 := hidD (HI3.out.step hb4); have HK4 := hidD (And.intro ((hb4.cell (cell_ltD HK3.out.1)).trans HK3.out.1) ((hb4.cell (cell_ltD HK3.out.2)).trans HK3.out.2)); clear hb4))
      all_goals
        clear HWa HWd HRd HFt HI2 HI3 HF2 HF3 d0 d1 d2 d3 d4 d5 d6 d7 d8 d9 d10 k20 k21 k30 k31 f0 f1 HFB HIf HK2 HK3 HK4
        simp only [Act.put, List.setIfInBounds_toArray]
        go_wp2_with fail
        go_roundw
        case rel => exact ⟨k + 1, by omega, by go_num, HI4⟩
        case measure => simp [intOf]; omega
    · obtain rfl : k = m := by omega
      have i2 : ¬ (k : Int) < (k : Int) := by omega
      obtain ⟨_, _, _, q3, _⟩ := cellK_of HI.out.kb
      have HOw : Hid (OwnT B v0 ts0 wr) := HO.out.1.keep fun q hq => HI.out.bl.block q (HO.out.1.lt q hq).2 (fun e => by
        obtain ⟨cur, T', hc, hT'⟩ := HRW.out
        exact orow_box HO.out.1 hc (Ne.symm hT') q hq e)
      have HQ0 : Hid (∀ j, v0.ownBlock = some j → j < w.heap.size) := fun j hj => (HO.out.1.lt j hj).2
      go_wp2_with fail
      refine (HJ1.out _ (HI.out.bl.below HT.out.2.1 HT.out.2.2.1 HT.out.2.1.size) HI.out.rb HOw.out (Nat.le_trans HO.out.2.1 HI.out.bl.size)).mono ?_
      rintro e w3 ⟨rfl, v3, hr3, ho3, hn3, hy3⟩
      have hTw := lt_of_blk HI.out.tb
      have hKw := lt_of_blk HI.out.kb
      have HY3 : Hid (TmY w b K T v0.ownBlock s (.slice (some ⟨h, 0, none⟩) 8 8) a1 z1 g1 v3 #[.int .i64 num, .string word, .slice p k k, .int .i64 1, .func (.func mf) #[] #[]] (P.tm k) w3) := (TmY.of_s HI.out).over hr3 hy3 (fun e => by have := HQ0.out _ e; have := HI.out.k0; omega) (fun e => by have := HQ0.out _ e; have := HI.out.t0; omega) (.inl rfl)
      have HV3 : Hid (v3.ownBlock = v0.ownBlock ∨ ∀ j, v3.ownBlock = some j → w.heap.size ≤ j) := hn3.imp id (fun hh j hj => Nat.le_trans HI.out.bl.size (hh j hj))
      have HNT : Hid (v3.ownBlock ≠ some T ∧ v3.ownBlock ≠ some K) := by
        refine ⟨fun e => ?_, fun e => ?_⟩
        · rcases hn3 with hn | hn
          · have := HQ0.out T (by rw [← hn]; exact e); have := HI.out.t0; omega
          · have := hn T e; omega
        · rcases hn3 with hn | hn
          · have := HQ0.out K (by rw [← hn]; exact e); have := HI.out.k0; omega
          · have := hn K e; omega
      have HO3 := hidD ho3
      have HZ3 : Hid (wr.heap.size ≤ w3.heap.size) := hy3.size
      have HIw : Hid (w.heap.size ≤ wr.heap.size ∧ T < wr.heap.size ∧ K < wr.heap.size) := ⟨HI.out.bl.size, hTw, hKw⟩
      clear hr3 ho3 hn3 hy3 q3 hTw hKw HJ1
      have dA := (trm_cells HY3.out.tb).2.1
      have fA := HY3.out.tb.frozen 1
      obtain ⟨w4, hw4⟩ : ∃ w4, w3.setCell ⟨T, 1, none⟩ (.int .i64 m1) = w4 := ⟨_, rfl⟩
      have HY4 : Hid (TmY w b K T v0.ownBlock s (.slice (some ⟨h, 0, none⟩) 8 8) a1 z1 g1 v3 #[.int .i64 num, .string word, .slice p k k, .int .i64 1, .func (.func mf) #[] #[]] { P.tm k with a := m1 } w4) := by
        have t := HY3.out.put 1 (.int .i64 m1) ((heap_setCell_same _ _ 1 _ _ _ HY3.out.tb).trans rfl : TrB _ T { P.tm k with a := m1 })
        rw [hw4] at t; exact t
      have HO4 : Hid (OwnT B v3 ts1 w4) := by
        show OwnT _ _ _ _
        rw [← hw4]
        exact HO3.out.keep fun q hq => blkF_far _ _ _ _ (fun e => HNT.out.1 (by have e1 : q = T := e; rw [← e1]; exact hq))
      have HZ4 : Hid (w3.heap.size = w4.heap.size) := by show _ = _; rw [← hw4, World.size_setCell]
      obtain ⟨_, _, _, q3, _⟩ := cellK_of HY4.out.kb
      obtain ⟨_, _, r5, rf⟩ := rd_cells HY4.out.rb
      obtain ⟨d0, d1, d2, d3, d4, d5, d6, d7, d8, d9, d10⟩ := trm_cells HY4.out.tb
      dsimp only at d0 d1 d2 d3 d4 d5 d6 d7 d8 d9 d10
      have hbl := lt_of_blk HY4.out.rb
      have hbn := Nat.ne_of_lt hbl
      have hTl := lt_of_blk HY4.out.tb
      have hTn := Nat.ne_of_lt hTl
      have HRA := hidD (HY4.out.rb.stay (al_bel w4 (.cells #[.int .i64 (P.tm k).kind, .int .i64 m1, .int .i64 (P.tm k).b, .float .f64 (P.tm k).x, .float .f64 (P.tm k).y, .int .i64 (P.tm k).day, .int .i64 (P.tm k).to, .int .i64 (P.tm k).cur, .int .i64 (P.tm k).count, .int .i64 (P.tm k).n, .int .i64 (P.tm k).months] 47)))
      have HXA : Hid (BelY b v0.ownBlock w (w4.alloc (.cells #[.int .i64 (P.tm k).kind, .int .i64 m1, .int .i64 (P.tm k).b, .float .f64 (P.tm k).x, .float .f64 (P.tm k).y, .int .i64 (P.tm k).day, .int .i64 (P.tm k).to, .int .i64 (P.tm k).cur, .int .i64 (P.tm k).count, .int .i64 (P.tm k).n, .int .i64 (P.tm k).months] 47))) := HY4.out.bl.trans (q1 := none) (.of_x (.of_below (al_bel w4 _))) (.inr fun j hj => by cases hj)
      have HOA : Hid (OwnT B v3 ts1 (w4.alloc (.cells #[.int .i64 (P.tm k).kind, .int .i64 m1, .int .i64 (P.tm k).b, .float .f64 (P.tm k).x, .float .f64 (P.tm k).y, .int .i64 (P.tm k).day, .int .i64 (P.tm k).to, .int .i64 (P.tm k).cur, .int .i64 (P.tm k).count, .int .i64 (P.tm k).n, .int .i64 (P.tm k).months] 47))) := HO4.out.below (al_bel w4 _)
      have HSA : Hid (B ≤ (w4.alloc (.cells #[.int .i64 (P.tm k).kind, .int .i64 m1, .int .i64 (P.tm k).b, .float .f64 (P.tm k).x, .float .f64 (P.tm k).y, .int .i64 (P.tm k).day, .int .i64 (P.tm k).to, .int .i64 (P.tm k).cur, .int .i64 (P.tm k).count, .int .i64 (P.tm k).n, .int .i64 (P.tm k).months] 47)).heap.size ∧ ts1.length ≤ 100000) := ⟨Nat.le_trans HO.out.2.1 HXA.out.size, by omega⟩
      clear rf
      go_wp2_with fail
      go_region_law (refine step_append_th rfl (.tmp 65) (.tmp 67) rfl B v3 ts1 rfl HOA.out HSA.out.1 w4.heap.size ({ P.tm k with a := m1 }) rfl (heap_alloc_new _ _) HSA.out.2 ?_; intro v5 w5 ho5 hg5 hn5; obtain ⟨g5, c5, rfl⟩ := ho5.full (by simp); have te := term_end4 HRA.out HXA.out HOA.out HV3.out ho5 ⟨hg5.os, hg5.tape, hg5.output, hg5.size, hg5.block⟩ hn5; have HTE := hidD te; have q5 := (rd_cells te.1).2.2.1; have y5 := (rd_cells te.1).2.2.2 5; have q6 := (rd_cells te.2.1).2.2.1; clear ho5 hg5 hn5 te)
      all_goals
        simp only [List.length_append, List.length_cons, List.length_nil] at HTE q6
        have e9 : (((ts1.length + 1 : Nat) : Int) - 1) = (ts1.length : Int) := by omega
        go_wp2_with fail
        go_ret
        exact ⟨by go_num, _, HTE.out.2.1, HTE.out.2.2.1, HTE.out.2.2.2.1, HTE.out.2.2.2.2⟩
end Go.Proofs.YtiiajhomdpfafaaGreatDoor
namespace Go.Proofs.YtiiajhomdpfafaaGreatDoor
open Go.RowKit

set_option maxRecDepth 20000 in
set_option maxHeartbeats 25600000 in
theorem termTwo (P : RPlan) {s : ByteArray} {i : Nat} (b h : Nat) (u : Nat → Value) (g depth : Int) (w0 w : World) (a0 : Int) (v0 : Value) (ts0 : List Trm) (B : Nat) (hP : P.Ok s i w0) (hp0 : (kdG P.ix).parts = 2) (ht : TabC h u w0) (hb0 : Below w0.heap.size w0 w) (hlb : w0.heap.size ≤ b) (hR : RdB w b s (.slice (some ⟨h, 0, none⟩) 8 8) a0 i g v0) (ho : OwnT B v0 ts0 w) (hBw : B ≤ w.heap.size) (hBq : ∀ j, v0.ownBlock = some j → w0.heap.size ≤ j) (hl : ts0.length ≤ 1000) (hg0 : 0 ≤ g) (hg : g < 1024) (hd : depth ≤ 60) (hd0 : 0 ≤ depth) (m1 a1 z1 g1 : Int) (ts1 : List Trm)
    (HI1 : ∀ wx, Below w0.heap.size w0 wx → RdB wx b s (.slice (some ⟨h, 0, none⟩) 8 8) (P.at_ (kdG P.ix).ds.length) (P.po (kdG P.ix).ds.length) (g + 1) v0 → OwnT B v0 ts0 wx → B ≤ wx.heap.size → RdT b s (.slice (some ⟨h, 0, none⟩) 8 8) B v0 (depth + 1) m1 a1 z1 g1 ts1 wx) (m2 a2 z2 g2 : Int) (ts2 : List Trm) (hl2 : ts2.length ≤ 1000)
    (HI2 : ∀ v1 wx, Below w0.heap.size w0 wx → RdB wx b s (.slice (some ⟨h, 0, none⟩) 8 8) a1 z1 g1 v1 → OwnT B v1 ts1 wx → B ≤ wx.heap.size → RdT b s (.slice (some ⟨h, 0, none⟩) 8 8) B v1 (depth + 1) m2 a2 z2 g2 ts2 wx) :
    RdT b s (.slice (some ⟨h, 0, none⟩) 8 8) B v0 depth (ts2.length : Int) a2 z2 g2 (ts2 ++ [{ P.tm (kdG P.ix).ds.length with a := m1, b := m2 }]) w := by
  unfold RdT
  have HK := hidD (rdKind_ok hP.kw b h u v0 a0 g depth P.ix hP.lt hP.kx hP.first w0 w ht hb0 hlb hR hP.sz (by omega) (by omega))
  obtain ⟨p, m, G, hu, hm, hG, hc⟩ := flds_cell (ht.slc P.ix hP.lt)
  have hfa : ∀ k (hk : k < (kdG P.ix).ds.length), k < m := fun k hk => by omega
  have HC := hidD hc
  have HT := hidD (And.intro ht (And.intro hb0 (And.intro hlb hG)))
  have HR := hidD hR
  have HP := hidD hP
  have HBq := hidD hBq
  have HO := hidD (And.intro ho (And.intro hBw hl))
  rw [← hm] at HI1
  have HJ1 := hidD HI1
  have HJ2 := hidD HI2
  have HRW : Hid (∃ cur T, w.heap[b]? = some (.cells cur T) ∧ T ≠ 47) := ⟨_, _, hR, by decide⟩
  have hbw : b < w.heap.size := lt_of_blk hR
  have i1 : g + 1 ≤ 1024 := by omega
  obtain ⟨num, hnum⟩ : ∃ x, (kdG P.ix).num = x := ⟨_, rfl⟩
  obtain ⟨word, hword⟩ : ∃ x, (kdG P.ix).word = x := ⟨_, rfl⟩
  obtain ⟨mf, hmn⟩ : ∃ x, (kdG P.ix).mean = x := ⟨_, rfl⟩
  have hm7 : m ≤ 7 := by rw [hm]; exact kd_few hP.lt
  have HM := hidD (And.intro hm hnum)
  rw [← hm]
  unfold kV at HK
  rw [hu, hnum, hword, hp0, hmn] at HK
  unfold fnB at HK
  clear HI1 HI2 ht hb0 hlb hR hG hc hg ho hBw hl hP hfa hu hm hnum hword hmn hp0
  have hst := store_fltD
  go_enter Tryz.func26, Tryz.ntmps26
  go_wp2_with fail
  refine HK.out.mono ?_
  rintro e w1 ⟨rfl, hr, hx⟩
  obtain ⟨_, q4, _, qf⟩ := rd_cells (hr.stay (al_bel w1 (.cells #[.int .i64 num, .string word, .slice p m m, .int .i64 2, .func (.func mf) #[] #[]] 65)))
  have y4 := qf 4
  have HR1 := hidD hr
  have HX1 := hidD hx
  clear hr hx qf HK
  go_wp2_with fail
  have HS := hidD (tmS_at #[.int .i64 num, .string word, .slice p m m, .int .i64 2, .func (.func mf) #[] #[]] { trm0 with kind := num } (g + 1) HR1.out HX1.out hbw)
  unfold trC trm0 at HS
  dsimp only at HS
  clear q4 y4 HR1 HX1
  generalize hw2 : World.alloc _ _ = w2 at HS ⊢
  clear hw2
  obtain ⟨K, hK⟩ : ∃ K, w1.heap.size = K := ⟨_, rfl⟩
  obtain ⟨T, hT⟩ : ∃ T, w1.heap.size + 1 = T := ⟨_, rfl⟩
  rw [hT, hK] at HS
  rw [hT, hK]
  clear hK hT
  have HS0 : Hid (TmS w b K T s (.slice (some ⟨h, 0, none⟩) 8 8) (P.at_ 0) (P.po 0) (g + 1) v0 #[.int .i64 num, .string word, .slice p m m, .int .i64 2, .func (.func mf) #[] #[]] (P.tm 0) w2) := by rw [HP.out.tm0, HM.out.2]; exact HS
  clear HS
  go_loopw [25] (fun i wr => ∃ k : Nat, k ≤ m ∧ i = .int .i64 k ∧ Hid (TmS w b K T s (.slice (some ⟨h, 0, none⟩) 8 8) (P.at_ k) (P.po k) (g + 1) v0 #[.int .i64 num, .string word, .slice p m m, .int .i64 2, .func (.func mf) #[] #[]] (P.tm k) wr)) (fun i _ => m - (intOf i).toNat)
  case atStart => exact ⟨0, Nat.zero_le _, rfl, HS0⟩
  case round =>
    clear HS0
    obtain ⟨k, hk, rfl, HI⟩ := hrel
    by_cases hlt : k < m
    · have hlt' : k < (kdG P.ix).ds.length := by rw [← HM.out.1]; exact hlt
      obtain rfl := (HT.out.2.2.2 (by omega)).1
      have hGl := (HT.out.2.2.2 (by omega)).2
      have HBw := hidD (HI.out.bl.below HT.out.2.1 HT.out.2.2.1 HT.out.2.1.size)
      obtain ⟨x0, x1, x2, x3, HF⟩ : ∃ c0 c1 c2 c3, FCell w0 G (k * 4) ((kdG P.ix).ds[k]'hlt') c0 c1 c2 c3 := HC.out k hlt'
      obtain ⟨F0, C0, rfl, en0, hR0⟩ := HP.out.read k hlt' _ _ _ _ HF.fd
      obtain ⟨F1, C1, rfl, en1, hF1⟩ := fd_fit HF.fd (HP.out.fdi k hlt') (P.tm (k + 1)) (HP.out.tru _)
      rw [HP.out.fit k hlt'] at hF1
      obtain ⟨F3, C3, rfl, _, _⟩ := fd_clear HF.fd (HP.out.fdi k hlt')
      obtain ⟨_, _, F2, C2, _, rfl⟩ := fd_shape HF.fd
      obtain ⟨c0, c1, c2, c3, _⟩ := HF.below hGl HBw.out
      have HWd := hidD (fun wx a (hr : RdB wx b s (.slice (some ⟨h, 0, none⟩) 8 8) a (P.po k) (g + 1) v0) => word_at (HP.out.wr k hlt') b (.slice (some ⟨h, 0, none⟩) 8 8) v0 a (g + 1) (P.wd k) (HP.out.ex k hlt') wx hr HP.out.sz)
      have HRd := hidD hR0
      have HFt := hidD hF1
      have i2 : (k : Int) < (m : Int) := by omega
      have i3 : (0 : Int) ≤ (k : Int) := by omega
      have i4 : ¬ (m : Int) ≤ (k : Int) := by omega
      clear hR0 hF1 HF hGl
      go_wp2_with fail
      have HIf := hidD (HI.out.step (al_bel wr (.cells #[.func (.func F0) #[] C0, .func (.func F1) #[] C1, .func (.func F2) #[] C2, .func (.func F3) #[] C3] 98)))
      have hfb := heap_alloc_new wr (.cells #[.func (.func F0) #[] C0, .func (.func F1) #[] C1, .func (.func F2) #[] C2, .func (.func F3) #[] C3] 98)
      have hFBb : wr.heap.size ≠ b := Nat.ne_of_gt (lt_of_blk HI.out.rb)
      have hFBT : wr.heap.size ≠ T := Nat.ne_of_gt (lt_of_blk HI.out.tb)
      obtain ⟨wf, hwf⟩ : ∃ wf, wr.alloc (.cells #[.func (.func F0) #[] C0, .func (.func F1) #[] C1, .func (.func F2) #[] C2, .func (.func F3) #[] C3] 98) = wf := ⟨_, rfl⟩
      rw [hwf] at HIf hfb ⊢
      obtain ⟨FB, hFB⟩ : ∃ FB, wr.heap.size = FB := ⟨_, rfl⟩
      rw [hFB] at hfb hFBb hFBT ⊢
      have HFB := hidD hfb
      obtain ⟨f0, f1, _, _⟩ := cellF_of hfb
      clear hwf hFB hfb c0 c1 c2 c3 HBw HI
      have HWa := hidD ((HWd.out (wf.drewN 1) _ HIf.out.rb).mono fun e w' hh => (⟨hh.1, HIf.out.one ⟨hh.2.2.os, hh.2.2.tape, hh.2.2.output, hh.2.2.size, hh.2.2.out⟩ hh.2.1, (hh.2.2.out FB hFBb).trans HFB.out⟩ : e = .returned (.string (P.wd k)) ∧ TmS w b K T s (.slice (some ⟨h, 0, none⟩) 8 8) (P.at_ (k + 1)) (P.po (k + 1)) (g + 1) v0 #[.int .i64 num, .string word, .slice (some ⟨G, 0, none⟩) m m, .int .i64 2, .func (.func mf) #[] #[]] (P.tm k) w' ∧ w'.heap[FB]? = some (.cells #[.func (.func F0) #[] C0, .func (.func F1) #[] C1, .func (.func F2) #[] C2, .func (.func F3) #[] C3] 98)))
      go_region_with (first
        | (go_at_call 27; refine HWa.out.mono ?_; rintro e w2 ⟨rfl, hi2, hb2⟩; have HI2 := hidD hi2; have HF2 := hidD hb2; have HK2 := hidD (And.intro (cellF_of hb2).1 (cellF_of hb2).2.1); have k20 := (cellF_of hb2).1; have k21 := (cellF_of hb2).2.1; clear hi2 hb2)
        | (refine (HRd.out _ _ (HI2.out.bl.below HT.out.2.1 HT.out.2.2.1 HT.out.2.1.size) HI2.out.tb).mono ?_; rintro e w3 ⟨rfl, wm, hbm, hw3⟩; have HI3 : Hid (TmS w b K T s (.slice (some ⟨h, 0, none⟩) 8 8) (P.at_ (k + 1)) (P.po (k + 1)) (g + 1) v0 #[.int .i64 num, .string word, .slice (some ⟨G, 0, none⟩) m m, .int .i64 2, .func (.func mf) #[] #[]] (P.tm (k + 1)) w3) := tmG_put (HP.out.put k hlt') HI2.out hbm hw3; have HF3 := hidD (fb_put HF2.out hbm hw3 hFBT); have HK3 := hidD (And.intro (cellF_of HF3.out).1 (cellF_of HF3.out).2.1); have k30 := (cellF_of HF3.out).1; have k31 := (cellF_of HF3.out).2.1; obtain ⟨d0, d1, d2, d3, d4, d5, d6, d7, d8, d9, d10⟩ := trm_cells HI3.out.tb; clear hbm hw3)
        | (refine (HFt.out _ (HI3.out.bl.below HT.out.2.1 HT.out.2.2.1 HT.out.2.1.size)).mono ?_; rintro e w4 ⟨rfl, hb4⟩; have HI4 := hidD (HI3.out.step hb4); have HK4 := hidD (And.intro ((hb4.cell (cell_ltD HK3.out.1)).trans HK3.out.1) ((hb4.cell (cell_ltD HK3.out.2)).trans HK3.out.2)); clear hb4))
      all_goals
        clear HWa HWd HRd HFt HI2 HI3 HF2 HF3 d0 d1 d2 d3 d4 d5 d6 d7 d8 d9 d10 k20 k21 k30 k31 f0 f1 HFB HIf HK2 HK3 HK4
        simp only [Act.put, List.setIfInBounds_toArray]
        go_wp2_with fail
        go_roundw
        case rel => exact ⟨k + 1, by omega, by go_num, HI4⟩
        case measure => simp [intOf]; omega
    · obtain rfl : k = m := by omega
      have i2 : ¬ (k : Int) < (k : Int) := by omega
      obtain ⟨_, _, _, q3, _⟩ := cellK_of HI.out.kb
      have HOw : Hid (OwnT B v0 ts0 wr) := HO.out.1.keep fun q hq => HI.out.bl.block q (HO.out.1.lt q hq).2 (fun e => by
        obtain ⟨cur, T', hc, hT'⟩ := HRW.out
        exact orow_box HO.out.1 hc (Ne.symm hT') q hq e)
      have HQ0 : Hid (∀ j, v0.ownBlock = some j → j < w.heap.size) := fun j hj => (HO.out.1.lt j hj).2
      go_wp2_with fail
      refine (HJ1.out _ (HI.out.bl.below HT.out.2.1 HT.out.2.2.1 HT.out.2.1.size) HI.out.rb HOw.out (Nat.le_trans HO.out.2.1 HI.out.bl.size)).mono ?_
      rintro e w3 ⟨rfl, v3, hr3, ho3, hn3, hy3⟩
      have hTw := lt_of_blk HI.out.tb
      have hKw := lt_of_blk HI.out.kb
      have HY3 : Hid (TmY w b K T v0.ownBlock s (.slice (some ⟨h, 0, none⟩) 8 8) a1 z1 g1 v3 #[.int .i64 num, .string word, .slice p k k, .int .i64 2, .func (.func mf) #[] #[]] (P.tm k) w3) := (TmY.of_s HI.out).over hr3 hy3 (fun e => by have := HQ0.out _ e; have := HI.out.k0; omega) (fun e => by have := HQ0.out _ e; have := HI.out.t0; omega) (.inl rfl)
      have HV3 : Hid (v3.ownBlock = v0.ownBlock ∨ ∀ j, v3.ownBlock = some j → w.heap.size ≤ j) := hn3.imp id (fun hh j hj => Nat.le_trans HI.out.bl.size (hh j hj))
      have HNT : Hid (v3.ownBlock ≠ some T ∧ v3.ownBlock ≠ some K) := by
        refine ⟨fun e => ?_, fun e => ?_⟩
        · rcases hn3 with hn | hn
          · have := HQ0.out T (by rw [← hn]; exact e); have := HI.out.t0; omega
          · have := hn T e; omega
        · rcases hn3 with hn | hn
          · have := HQ0.out K (by rw [← hn]; exact e); have := HI.out.k0; omega
          · have := hn K e; omega
      have HO3 := hidD ho3
      have HZ3 : Hid (wr.heap.size ≤ w3.heap.size) := hy3.size
      have HIw : Hid (w.heap.size ≤ wr.heap.size ∧ T < wr.heap.size ∧ K < wr.heap.size) := ⟨HI.out.bl.size, hTw, hKw⟩
      clear hr3 ho3 hn3 hy3 q3 hTw hKw HJ1
      have dA := (trm_cells HY3.out.tb).2.1
      have fA := HY3.out.tb.frozen 1
      obtain ⟨w4, hw4⟩ : ∃ w4, w3.setCell ⟨T, 1, none⟩ (.int .i64 m1) = w4 := ⟨_, rfl⟩
      have HY4 : Hid (TmY w b K T v0.ownBlock s (.slice (some ⟨h, 0, none⟩) 8 8) a1 z1 g1 v3 #[.int .i64 num, .string word, .slice p k k, .int .i64 2, .func (.func mf) #[] #[]] { P.tm k with a := m1 } w4) := by
        have t := HY3.out.put 1 (.int .i64 m1) ((heap_setCell_same _ _ 1 _ _ _ HY3.out.tb).trans rfl : TrB _ T { P.tm k with a := m1 })
        rw [hw4] at t; exact t
      have HO4 : Hid (OwnT B v3 ts1 w4) := by
        show OwnT _ _ _ _
        rw [← hw4]
        exact HO3.out.keep fun q hq => blkF_far _ _ _ _ (fun e => HNT.out.1 (by have e1 : q = T := e; rw [← e1]; exact hq))
      have HZ4 : Hid (w3.heap.size = w4.heap.size) := by show _ = _; rw [← hw4, World.size_setCell]
      obtain ⟨_, _, _, q3, _⟩ := cellK_of HY4.out.kb
      have HB4 : Hid (Below w0.heap.size w0 w4) := HY4.out.bl.below HT.out.2.1 HT.out.2.2.1 (fun j hj => HBq.out j hj) HT.out.2.1.size
      go_wp2_with fail
      refine (HJ2.out v3 _ HB4.out HY4.out.rb HO4.out (Nat.le_trans HO.out.2.1 HY4.out.bl.size)).mono ?_
      rintro e w6 ⟨rfl, v6, hr6, ho6, hn6, hy6⟩
      have HY6 : Hid (TmY w b K T v0.ownBlock s (.slice (some ⟨h, 0, none⟩) 8 8) a2 z2 g2 v6 #[.int .i64 num, .string word, .slice p k k, .int .i64 2, .func (.func mf) #[] #[]] { P.tm k with a := m1 } w6) := HY4.out.over hr6 hy6 HNT.out.2 HNT.out.1 HV3.out
      have HV6 : Hid (v6.ownBlock = v0.ownBlock ∨ ∀ j, v6.ownBlock = some j → w.heap.size ≤ j) := by
        rcases hn6 with hn | hn
        · show _ ∨ _; rw [hn]; exact HV3.out
        · exact .inr fun j hj => Nat.le_trans HY4.out.bl.size (hn j hj)
      have HNT6 : Hid (v6.ownBlock ≠ some T) := fun e => by
        rcases hn6 with hn | hn
        · exact HNT.out.1 (by rw [← hn]; exact e)
        · have := hn T e; have := HIw.out; have := HZ3.out; have := HZ4.out; omega
      have HO6 := hidD ho6
      clear hr6 ho6 hn6 hy6 q3 HJ2
      have dB := (trm_cells HY6.out.tb).2.2.1
      have fB := HY6.out.tb.frozen 2
      obtain ⟨w7, hw7⟩ : ∃ w7, w6.setCell ⟨T, 2, none⟩ (.int .i64 m2) = w7 := ⟨_, rfl⟩
      have HY7 : Hid (TmY w b K T v0.ownBlock s (.slice (some ⟨h, 0, none⟩) 8 8) a2 z2 g2 v6 #[.int .i64 num, .string word, .slice p k k, .int .i64 2, .func (.func mf) #[] #[]] { P.tm k with a := m1, b := m2 } w7) := by
        have t := HY6.out.put 2 (.int .i64 m2) ((heap_setCell_same _ _ 2 _ _ _ HY6.out.tb).trans rfl : TrB _ T { P.tm k with a := m1, b := m2 })
        rw [hw7] at t; exact t
      have HO7 : Hid (OwnT B v6 ts2 w7) := by
        show OwnT _ _ _ _
        rw [← hw7]
        exact HO6.out.keep fun q hq => blkF_far _ _ _ _ (fun e => HNT6.out (by have e1 : q = T := e; rw [← e1]; exact hq))
      obtain ⟨_, _, r5, rf⟩ := rd_cells HY7.out.rb
      obtain ⟨d0, d1, d2, d3, d4, d5, d6, d7, d8, d9, d10⟩ := trm_cells HY7.out.tb
      dsimp only at d0 d1 d2 d3 d4 d5 d6 d7 d8 d9 d10
      have hbl := lt_of_blk HY7.out.rb
      have hbn := Nat.ne_of_lt hbl
      have hTl := lt_of_blk HY7.out.tb
      have hTn := Nat.ne_of_lt hTl
      have HRA := hidD (HY7.out.rb.stay (al_bel w7 (.cells #[.int .i64 (P.tm k).kind, .int .i64 m1, .int .i64 m2, .float .f64 (P.tm k).x, .float .f64 (P.tm k).y, .int .i64 (P.tm k).day, .int .i64 (P.tm k).to, .int .i64 (P.tm k).cur, .int .i64 (P.tm k).count, .int .i64 (P.tm k).n, .int .i64 (P.tm k).months] 47)))
      have HXA : Hid (BelY b v0.ownBlock w (w7.alloc (.cells #[.int .i64 (P.tm k).kind, .int .i64 m1, .int .i64 m2, .float .f64 (P.tm k).x, .float .f64 (P.tm k).y, .int .i64 (P.tm k).day, .int .i64 (P.tm k).to, .int .i64 (P.tm k).cur, .int .i64 (P.tm k).count, .int .i64 (P.tm k).n, .int .i64 (P.tm k).months] 47))) := HY7.out.bl.trans (q1 := none) (.of_x (.of_below (al_bel w7 _))) (.inr fun j hj => by cases hj)
      have HOA : Hid (OwnT B v6 ts2 (w7.alloc (.cells #[.int .i64 (P.tm k).kind, .int .i64 m1, .int .i64 m2, .float .f64 (P.tm k).x, .float .f64 (P.tm k).y, .int .i64 (P.tm k).day, .int .i64 (P.tm k).to, .int .i64 (P.tm k).cur, .int .i64 (P.tm k).count, .int .i64 (P.tm k).n, .int .i64 (P.tm k).months] 47))) := HO7.out.below (al_bel w7 _)
      have HSA : Hid (B ≤ (w7.alloc (.cells #[.int .i64 (P.tm k).kind, .int .i64 m1, .int .i64 m2, .float .f64 (P.tm k).x, .float .f64 (P.tm k).y, .int .i64 (P.tm k).day, .int .i64 (P.tm k).to, .int .i64 (P.tm k).cur, .int .i64 (P.tm k).count, .int .i64 (P.tm k).n, .int .i64 (P.tm k).months] 47)).heap.size ∧ ts2.length ≤ 100000) := ⟨Nat.le_trans HO.out.2.1 HXA.out.size, by omega⟩
      clear rf
      go_wp2_with fail
      go_region_law (refine step_append_th rfl (.tmp 65) (.tmp 67) rfl B v6 ts2 rfl HOA.out HSA.out.1 w7.heap.size ({ P.tm k with a := m1, b := m2 }) rfl (heap_alloc_new _ _) HSA.out.2 ?_; intro v5 w5 ho5 hg5 hn5; obtain ⟨g5, c5, rfl⟩ := ho5.full (by simp); have te := term_end4 HRA.out HXA.out HOA.out HV6.out ho5 ⟨hg5.os, hg5.tape, hg5.output, hg5.size, hg5.block⟩ hn5; have HTE := hidD te; have q5 := (rd_cells te.1).2.2.1; have y5 := (rd_cells te.1).2.2.2 5; have q6 := (rd_cells te.2.1).2.2.1; clear ho5 hg5 hn5 te)
      all_goals
        simp only [List.length_append, List.length_cons, List.length_nil] at HTE q6
        have e9 : (((ts2.length + 1 : Nat) : Int) - 1) = (ts2.length : Int) := by omega
        go_wp2_with fail
        go_ret
        exact ⟨by go_num, _, HTE.out.2.1, HTE.out.2.2.1, HTE.out.2.2.2.1, HTE.out.2.2.2.2⟩
end Go.Proofs.YtiiajhomdpfafaaGreatDoor
