/- Package deal: a term with two parts is read, of any closed text, behind any terms. Package deal: what is read of awake17's first text, word by word. Package deal: the first text of awake17 is read. Package deal: the deal of awake18 is read. Package deal: Parse of the deal of awake18. Package deal: Parse of the first text of awake17. Package deal: where the last term's flows begin; one flow more; pay. Package deal: pay and both. Package deal: flows are put in the stead of the last term's. -/
import Derived.Test.YtiiajhomdpfafaaGreatDoorHbk
import Derived.Test.YtiiajhomdpfafaaGreatDoorHbe
import Derived.Test.YtiiajhomdpfafaaGreatDoorHbi
import Derived.Recover
import Derived.Tactics
import Derived.Tactics2
import Derived.Defers
import Derived.Laws.Pointers
import Derived.Test.YtiiajhomdpfafaaGreatDoorRwJ
import Derived.Test.YtiiajhomdpfafaaGreatDoorHbb
namespace Go.Proofs.YtiiajhomdpfafaaGreatDoor
open Go.RowKit

set_option maxRecDepth 20000 in
set_option maxHeartbeats 25600000 in
theorem termTwo (P : RPlan) {s : ByteArray} {i : Nat} (b h : Nat) (u : Nat → Value) (g depth : Int) (w0 w : World) (a0 : Int) (v0 : Value) (ts0 : List Trm) (B : Nat) (hP : P.Ok s i w0) (hp0 : (kdG P.ix).parts = 2) (ht : TabC h u w0) (hb0 : Below w0.heap.size w0 w) (hlb : w0.heap.size ≤ b) (hR : RdB w b s (.slice (some ⟨h, 0, none⟩) 8 8) a0 i g v0) (ho : OwnT B v0 ts0 w) (hBw : B ≤ w.heap.size) (hBq : ∀ j, v0.ownBlock = some j → w0.heap.size ≤ j) (hl : ts0.length ≤ 1000) (hg0 : 0 ≤ g) (hg : g < 1024) (hd : depth ≤ 60) (hd0 : 0 ≤ depth) (m1 a1 z1 g1 : Int) (ts1 : List Trm)
    (HI1 : ∀ wx, Below w0.heap.size w0 wx → RdB wx b s (.slice (some ⟨h, 0, none⟩) 8 8) (P.at_ (kdG P.ix).ds.length) (P.po (kdG P.ix).ds.length) (g + 1) v0 → OwnT B v0 ts0 wx → B ≤ wx.heap.size → RdT b s (.slice (some ⟨h, 0, none⟩) 8 8) B v0 (depth + 1) m1 a1 z1 g1 ts1 wx) (m2 a2 z2 g2 : Int) (ts2 : List Trm) (hl2 : ts2.length ≤ 1000)
    (HI2 : ∀ v1 wx, Below w0.heap.size w0 wx → RdB wx b s (.slice (some ⟨h, 0, none⟩) 8 8) a1 z1 g1 v1 → OwnT B v1 ts1 wx → B ≤ wx.heap.size → RdT b s (.slice (some ⟨h, 0, none⟩) 8 8) B v1 (depth + 1) m2 a2 z2 g2 ts2 wx) :
    RdT b s (.slice (some ⟨h, 0, none⟩) 8 8) B v0 depth (ts2.length : Int) a2 z2 g2 (ts2 ++ [{ P.tm (kdG P.ix).ds.length with a := m1, b := m2 }]) w := by
  unfold RdT
  have HK := hidD (rdKind_ok hP.kw b h u v0 a0 g depth P.ix hP.lt hP.kx hP.first w0 w ht hb0 hlb hR hP.sz (by omega) (by omega))
  obtain ⟨p, m, G, hu, hm, hG, hc⟩ := flds_cell (ht.slc P.ix hP.lt)
  have hfa : ∀ k (hk : k < (kdG P.ix).ds.length), k < m := fun k hk => by omega
  have HC := hidD hc
  have HT := hidD (And.intro ht (And.intro hb0 (And.intro hlb hG)))
  have HR := hidD hR
  have HP := hidD hP
  have HBq := hidD hBq
  have HO := hidD (And.intro ho (And.intro hBw hl))
  rw [← hm] at HI1
  have HJ1 := hidD HI1
  have HJ2 := hidD HI2
  have HRW : Hid (∃ cur T, w.heap[b]? = some (.cells cur T) ∧ T ≠ 47) := ⟨_, _, hR, by decide⟩
  have hbw : b < w.heap.size := lt_of_blk hR
  have i1 : g + 1 ≤ 1024 := by omega
  obtain ⟨num, hnum⟩ : ∃ x, (kdG P.ix).num = x := ⟨_, rfl⟩
  obtain ⟨word, hword⟩ : ∃ x, (kdG P.ix).word = x := ⟨_, rfl⟩
  obtain ⟨mf, hmn⟩ : ∃ x, (kdG P.ix).mean = x := ⟨_, rfl⟩
  have hm7 : m ≤ 7 := by rw [hm]; exact kd_few hP.lt
  have HM := hidD (And.intro hm hnum)
  rw [← hm]
  unfold kV at HK
  rw [hu, hnum, hword, hp0, hmn] at HK
  unfold fnB at HK
  clear HI1 HI2 ht hb0 hlb hR hG hc hg ho hBw hl hP hfa hu hm hnum hword hmn hp0
  have hst := store_fltD
  go_enter Tryz.func26, Tryz.ntmps26
  go_wp2_with fail
  refine HK.out.mono ?_
  rintro e w1 ⟨rfl, hr, hx⟩
  obtain ⟨_, q4, _, qf⟩ := rd_cells (hr.stay (al_bel w1 (.cells #[.int .i64 num, .string word, .slice p m m, .int .i64 2, .func (.func mf) #[] #[]] 65)))
  have y4 := qf 4
  have HR1 := hidD hr
  have HX1 := hidD hx
  clear hr hx qf HK
  go_wp2_with fail
  have HS := hidD (tmS_at #[.int .i64 num, .string word, .slice p m m, .int .i64 2, .func (.func mf) #[] #[]] { trm0 with kind := num } (g + 1) HR1.out HX1.out hbw)
  unfold trC trm0 at HS
  dsimp only at HS
  clear q4 y4 HR1 HX1
  generalize hw2 : World.alloc _ _ = w2 at HS ⊢
  clear hw2
  obtain ⟨K, hK⟩ : ∃ K, w1.heap.size = K := ⟨_, rfl⟩
  obtain ⟨T, hT⟩ : ∃ T, w1.heap.size + 1 = T := ⟨_, rfl⟩
  rw [hT, hK] at HS
  rw [hT, hK]
  clear hK hT
  have HS0 : Hid (TmS w b K T s (.slice (some ⟨h, 0, none⟩) 8 8) (P.at_ 0) (P.po 0) (g + 1) v0 #[.int .i64 num, .string word, .slice p m m, .int .i64 2, .func (.func mf) #[] #[]] (P.tm 0) w2) := by rw [HP.out.tm0, HM.out.2]; exact HS
  clear HS
  go_loopw [25] (fun i wr => ∃ k : Nat, k ≤ m ∧ i = .int .i64 k ∧ Hid (TmS w b K T s (.slice (some ⟨h, 0, none⟩) 8 8) (P.at_ k) (P.po k) (g + 1) v0 #[.int .i64 num, .string word, .slice p m m, .int .i64 2, .func (.func mf) #[] #[]] (P.tm k) wr)) (fun i _ => m - (intOf i).toNat)
  case atStart => exact ⟨0, Nat.zero_le _, rfl, HS0⟩
  case round =>
    clear HS0
    obtain ⟨k, hk, rfl, HI⟩ := hrel
    by_cases hlt : k < m
    · have hlt' : k < (kdG P.ix).ds.length := by rw [← HM.out.1]; exact hlt
      obtain rfl := (HT.out.2.2.2 (by omega)).1
      have hGl := (HT.out.2.2.2 (by omega)).2
      have HBw := hidD (HI.out.bl.below HT.out.2.1 HT.out.2.2.1 HT.out.2.1.size)
      obtain ⟨x0, x1, x2, x3, HF⟩ : ∃ c0 c1 c2 c3, FCell w0 G (k * 4) ((kdG P.ix).ds[k]'hlt') c0 c1 c2 c3 := HC.out k hlt'
      obtain ⟨F0, C0, rfl, en0, hR0⟩ := HP.out.read k hlt' _ _ _ _ HF.fd
      obtain ⟨F1, C1, rfl, en1, hF1⟩ := fd_fit HF.fd (HP.out.fdi k hlt') (P.tm (k + 1)) (HP.out.tru _)
      rw [HP.out.fit k hlt'] at hF1
      obtain ⟨F3, C3, rfl, _, _⟩ := fd_clear HF.fd (HP.out.fdi k hlt')
      obtain ⟨_, _, F2, C2, _, rfl⟩ := fd_shape HF.fd
      obtain ⟨c0, c1, c2, c3, _⟩ := HF.below hGl HBw.out
      have HWd := hidD (fun wx a (hr : RdB wx b s (.slice (some ⟨h, 0, none⟩) 8 8) a (P.po k) (g + 1) v0) => word_at (HP.out.wr k hlt') b (.slice (some ⟨h, 0, none⟩) 8 8) v0 a (g + 1) (P.wd k) (HP.out.ex k hlt') wx hr HP.out.sz)
      have HRd := hidD hR0
      have HFt := hidD hF1
      have i2 : (k : Int) < (m : Int) := by omega
      have i3 : (0 : Int) ≤ (k : Int) := by omega
      have i4 : ¬ (m : Int) ≤ (k : Int) := by omega
      clear hR0 hF1 HF hGl
      go_wp2_with fail
      have HIf := hidD (HI.out.step (al_bel wr (.cells #[.func (.func F0) #[] C0, .func (.func F1) #[] C1, .func (.func F2) #[] C2, .func (.func F3) #[] C3] 98)))
      have hfb := heap_alloc_new wr (.cells #[.func (.func F0) #[] C0, .func (.func F1) #[] C1, .func (.func F2) #[] C2, .func (.func F3) #[] C3] 98)
      have hFBb : wr.heap.size ≠ b := Nat.ne_of_gt (lt_of_blk HI.out.rb)
      have hFBT : wr.heap.size ≠ T := Nat.ne_of_gt (lt_of_blk HI.out.tb)
      obtain ⟨wf, hwf⟩ : ∃ wf, wr.alloc (.cells #[.func (.func F0) #[] C0, .func (.func F1) #[] C1, .func (.func F2) #[] C2, .func (.func F3) #[] C3] 98) = wf := ⟨_, rfl⟩
      rw [hwf] at HIf hfb ⊢
      obtain ⟨FB, hFB⟩ : ∃ FB, wr.heap.size = FB := ⟨_, rfl⟩
      rw [hFB] at hfb hFBb hFBT ⊢
      have HFB := hidD hfb
      obtain ⟨f0, f1, _, _⟩ := cellF_of hfb
      clear hwf hFB hfb c0 c1 c2 c3 HBw HI
      have HWa := hidD ((HWd.out (wf.drewN 1) _ HIf.out.rb).mono fun e w' hh => (⟨hh.1, HIf.out.one ⟨hh.2.2.os, hh.2.2.tape, hh.2.2.output, hh.2.2.size, hh.2.2.out⟩ hh.2.1, (hh.2.2.out FB hFBb).trans HFB.out⟩ : e = .returned (.string (P.wd k)) ∧ TmS w b K T s (.slice (some ⟨h, 0, none⟩) 8 8) (P.at_ (k + 1)) (P.po (k + 1)) (g + 1) v0 #[.int .i64 num, .string word, .slice (some ⟨G, 0, none⟩) m m, .int .i64 2, .func (.func mf) #[] #[]] (P.tm k) w' ∧ w'.heap[FB]? = some (.cells #[.func (.func F0) #[] C0, .func (.func F1) #[] C1, .func (.func F2) #[] C2, .func (.func F3) #[] C3] 98)))
      go_region_with (first
        | (go_at_call 27; refine HWa.out.mono ?_; rintro e w2 ⟨rfl, hi2, hb2⟩; have HI2 := hidD hi2; have HF2 := hidD hb2; have HK2 := hidD (And.intro (cellF_of hb2).1 (cellF_of hb2).2.1); have k20 := (cellF_of hb2).1; have k21 := (cellF_of hb2).2.1; clear hi2 hb2)
        | (refine (HRd.out _ _ (HI2.out.bl.below HT.out.2.1 HT.out.2.2.1 HT.out.2.1.size) HI2.out.tb).mono ?_; rintro e w3 ⟨rfl, wm, hbm, hw3⟩; have HI3 : Hid (TmS w b K T s (.slice (some ⟨h, 0, none⟩) 8 8) (P.at_ (k + 1)) (P.po (k + 1)) (g + 1) v0 #[.int .i64 num, .string word, .slice (some ⟨G, 0, none⟩) m m, .int .i64 2, .func (.func mf) #[] #[]] (P.tm (k + 1)) w3) := tmG_put (HP.out.put k hlt') HI2.out hbm hw3; have HF3 := hidD (fb_put HF2.out hbm hw3 hFBT); have HK3 := hidD (And.intro (cellF_of HF3.out).1 (cellF_of HF3.out).2.1); have k30 := (cellF_of HF3.out).1; have k31 := (cellF_of HF3.out).2.1; obtain ⟨d0, d1, d2, d3, d4, d5, d6, d7, d8, d9, d10⟩ := trm_cells HI3.out.tb; clear hbm hw3)
        | (refine (HFt.out _ (HI3.out.bl.below HT.out.2.1 HT.out.2.2.1 HT.out.2.1.size)).mono ?_; rintro e w4 ⟨rfl, hb4⟩; have HI4 := hidD (HI3.out.step hb4); have HK4 := hidD (And.intro ((hb4.cell (cell_ltD HK3.out.1)).trans HK3.out.1) ((hb4.cell (cell_ltD HK3.out.2)).trans HK3.out.2)); clear hb4))
      all_goals
        clear HWa HWd HRd HFt HI2 HI3 HF2 HF3 d0 d1 d2 d3 d4 d5 d6 d7 d8 d9 d10 k20 k21 k30 k31 f0 f1 HFB HIf HK2 HK3 HK4
        simp only [Act.put, List.setIfInBounds_toArray]
        go_wp2_with fail
        go_roundw
        case rel => exact ⟨k + 1, by omega, by go_num, HI4⟩
        case measure => simp [intOf]; omega
    · obtain rfl : k = m := by omega
      have i2 : ¬ (k : Int) < (k : Int) := by omega
      obtain ⟨_, _, _, q3, _⟩ := cellK_of HI.out.kb
      have HOw : Hid (OwnT B v0 ts0 wr) := HO.out.1.keep fun q hq => HI.out.bl.block q (HO.out.1.lt q hq).2 (fun e => by
        obtain ⟨cur, T', hc, hT'⟩ := HRW.out
        exact orow_box HO.out.1 hc (Ne.symm hT') q hq e)
      have HQ0 : Hid (∀ j, v0.ownBlock = some j → j < w.heap.size) := fun j hj => (HO.out.1.lt j hj).2
      go_wp2_with fail
      refine (HJ1.out _ (HI.out.bl.below HT.out.2.1 HT.out.2.2.1 HT.out.2.1.size) HI.out.rb HOw.out (Nat.le_trans HO.out.2.1 HI.out.bl.size)).mono ?_
      rintro e w3 ⟨rfl, v3, hr3, ho3, hn3, hy3⟩
      have hTw := lt_of_blk HI.out.tb
      have hKw := lt_of_blk HI.out.kb
      have HY3 : Hid (TmY w b K T v0.ownBlock s (.slice (some ⟨h, 0, none⟩) 8 8) a1 z1 g1 v3 #[.int .i64 num, .string word, .slice p k k, .int .i64 2, .func (.func mf) #[] #[]] (P.tm k) w3) := (TmY.of_s HI.out).over hr3 hy3 (fun e => by have := HQ0.out _ e; have := HI.out.k0; omega) (fun e => by have := HQ0.out _ e; have := HI.out.t0; omega) (.inl rfl)
      have HV3 : Hid (v3.ownBlock = v0.ownBlock ∨ ∀ j, v3.ownBlock = some j → w.heap.size ≤ j) := hn3.imp id (fun hh j hj => Nat.le_trans HI.out.bl.size (hh j hj))
      have HNT : Hid (v3.ownBlock ≠ some T ∧ v3.ownBlock ≠ some K) := by
        refine ⟨fun e => ?_, fun e => ?_⟩
        · rcases hn3 with hn | hn
          · have := HQ0.out T (by rw [← hn]; exact e); have := HI.out.t0; omega
          · have := hn T e; omega
        · rcases hn3 with hn | hn
          · have := HQ0.out K (by rw [← hn]; exact e); have := HI.out.k0; omega
          · have := hn K e; omega
      have HO3 := hidD ho3
      have HZ3 : Hid (wr.heap.size ≤ w3.heap.size) := hy3.size
      have HIw : Hid (w.heap.size ≤ wr.heap.size ∧ T < wr.heap.size ∧ K < wr.heap.size) := ⟨HI.out.bl.size, hTw, hKw⟩
      clear hr3 ho3 hn3 hy3 q3 hTw hKw HJ1
      have dA := (trm_cells HY3.out.tb).2.1
      have fA := HY3.out.tb.frozen 1
      obtain ⟨w4, hw4⟩ : ∃ w4, w3.setCell ⟨T, 1, none⟩ (.int .i64 m1) = w4 := ⟨_, rfl⟩
      have HY4 : Hid (TmY w b K T v0.ownBlock s (.slice (some ⟨h, 0, none⟩) 8 8) a1 z1 g1 v3 #[.int .i64 num, .string word, .slice p k k, .int .i64 2, .func (.func mf) #[] #[]] { P.tm k with a := m1 } w4) := by
        have t := HY3.out.put 1 (.int .i64 m1) ((heap_setCell_same _ _ 1 _ _ _ HY3.out.tb).trans rfl : TrB _ T { P.tm k with a := m1 })
        rw [hw4] at t; exact t
      have HO4 : Hid (OwnT B v3 ts1 w4) := by
        show OwnT _ _ _ _
        rw [← hw4]
        exact HO3.out.keep fun q hq => blkF_far _ _ _ _ (fun e => HNT.out.1 (by have e1 : q = T := e; rw [← e1]; exact hq))
      have HZ4 : Hid (w3.heap.size = w4.heap.size) := by show _ = _; rw [← hw4, World.size_setCell]
      obtain ⟨_, _, _, q3, _⟩ := cellK_of HY4.out.kb
      have HB4 : Hid (Below w0.heap.size w0 w4) := HY4.out.bl.below HT.out.2.1 HT.out.2.2.1 (fun j hj => HBq.out j hj) HT.out.2.1.size
      go_wp2_with fail
      refine (HJ2.out v3 _ HB4.out HY4.out.rb HO4.out (Nat.le_trans HO.out.2.1 HY4.out.bl.size)).mono ?_
      rintro e w6 ⟨rfl, v6, hr6, ho6, hn6, hy6⟩
      have HY6 : Hid (TmY w b K T v0.ownBlock s (.slice (some ⟨h, 0, none⟩) 8 8) a2 z2 g2 v6 #[.int .i64 num, .string word, .slice p k k, .int .i64 2, .func (.func mf) #[] #[]] { P.tm k with a := m1 } w6) := HY4.out.over hr6 hy6 HNT.out.2 HNT.out.1 HV3.out
      have HV6 : Hid (v6.ownBlock = v0.ownBlock ∨ ∀ j, v6.ownBlock = some j → w.heap.size ≤ j) := by
        rcases hn6 with hn | hn
        · show _ ∨ _; rw [hn]; exact HV3.out
        · exact .inr fun j hj => Nat.le_trans HY4.out.bl.size (hn j hj)
      have HNT6 : Hid (v6.ownBlock ≠ some T) := fun e => by
        rcases hn6 with hn | hn
        · exact HNT.out.1 (by rw [← hn]; exact e)
        · have := hn T e; have := HIw.out; have := HZ3.out; have := HZ4.out; omega
      have HO6 := hidD ho6
      clear hr6 ho6 hn6 hy6 q3 HJ2
      have dB := (trm_cells HY6.out.tb).2.2.1
      have fB := HY6.out.tb.frozen 2
      obtain ⟨w7, hw7⟩ : ∃ w7, w6.setCell ⟨T, 2, none⟩ (.int .i64 m2) = w7 := ⟨_, rfl⟩
      have HY7 : Hid (TmY w b K T v0.ownBlock s (.slice (some ⟨h, 0, none⟩) 8 8) a2 z2 g2 v6 #[.int .i64 num, .string word, .slice p k k, .int .i64 2, .func (.func mf) #[] #[]] { P.tm k with a := m1, b := m2 } w7) := by
        have t := HY6.out.put 2 (.int .i64 m2) ((heap_setCell_same _ _ 2 _ _ _ HY6.out.tb).trans rfl : TrB _ T { P.tm k with a := m1, b := m2 })
        rw [hw7] at t; exact t
      have HO7 : Hid (OwnT B v6 ts2 w7) := by
        show OwnT _ _ _ _
        rw [← hw7]
        exact HO6.out.keep fun q hq => blkF_far _ _ _ _ (fun e => HNT6.out (by have e1 : q = T := e; rw [← e1]; exact hq))
      obtain ⟨_, _, r5, rf⟩ := rd_cells HY7.out.rb
      obtain ⟨d0, d1, d2, d3, d4, d5, d6, d7, d8, d9, d10⟩ := trm_cells HY7.out.tb
      dsimp only at d0 d1 d2 d3 d4 d5 d6 d7 d8 d9 d10
      have hbl := lt_of_blk HY7.out.rb
      have hbn := Nat.ne_of_lt hbl
      have hTl := lt_of_blk HY7.out.tb
      have hTn := Nat.ne_of_lt hTl
      have HRA := hidD (HY7.out.rb.stay (al_bel w7 (.cells #[.int .i64 (P.tm k).kind, .int .i64 m1, .int .i64 m2, .float .f64 (P.tm k).x, .float .f64 (P.tm k).y, .int .i64 (P.tm k).day, .int .i64 (P.tm k).to, .int .i64 (P.tm k).cur, .int .i64 (P.tm k).count, .int .i64 (P.tm k).n, .int .i64 (P.tm k).months] 47)))
      have HXA : Hid (BelY b v0.ownBlock w (w7.alloc (.cells #[.int .i64 (P.tm k).kind, .int .i64 m1, .int .i64 m2, .float .f64 (P.tm k).x, .float .f64 (P.tm k).y, .int .i64 (P.tm k).day, .int .i64 (P.tm k).to, .int .i64 (P.tm k).cur, .int .i64 (P.tm k).count, .int .i64 (P.tm k).n, .int .i64 (P.tm k).months] 47))) := HY7.out.bl.trans (q1 := none) (.of_x (.of_below (al_bel w7 _))) (.inr fun j hj => by cases hj)
      have HOA : Hid (OwnT B v6 ts2 (w7.alloc (.cells #[.int .i64 (P.tm k).kind, .int .i64 m1, .int .i64 m2, .float .f64 (P.tm k).x, .float .f64 (P.tm k).y, .int .i64 (P.tm k).day, .int .i64 (P.tm k).to, .int .i64 (P.tm k).cur, .int .i64 (P.tm k).count, .int .i64 (P.tm k).n, .int .i64 (P.tm k).months] 47))) := HO7.out.below (al_bel w7 _)
      have HSA : Hid (B ≤ (w7.alloc (.cells #[.int .i64 (P.tm k).kind, .int .i64 m1, .int .i64 m2, .float .f64 (P.tm k).x, .float .f64 (P.tm k).y, .int .i64 (P.tm k).day, .int .i64 (P.tm k).to, .int .i64 (P.tm k).cur, .int .i64 (P.tm k).count, .int .i64 (P.tm k).n, .int .i64 (P.tm k).months] 47)).heap.size ∧ ts2.length ≤ 100000) := ⟨Nat.le_trans HO.out.2.1 HXA.out.size, by omega⟩
      clear rf
      go_wp2_with fail
      go_region_law (refine step_append_th rfl (.tmp 65) (.tmp 67) rfl B v6 ts2 rfl HOA.out HSA.out.1 w7.heap.size ({ P.tm k with a := m1, b := m2 }) rfl (heap_alloc_new _ _) HSA.out.2 ?_; intro v5 w5 ho5 hg5 hn5; obtain ⟨g5, c5, rfl⟩ := ho5.full (by simp); have te := term_end4 HRA.out HXA.out HOA.out HV6.out ho5 ⟨hg5.os, hg5.tape, hg5.output, hg5.size, hg5.block⟩ hn5; have HTE := hidD te; have q5 := (rd_cells te.1).2.2.1; have y5 := (rd_cells te.1).2.2.2 5; have q6 := (rd_cells te.2.1).2.2.1; clear ho5 hg5 hn5 te)
      all_goals
        simp only [List.length_append, List.length_cons, List.length_nil] at HTE q6
        have e9 : (((ts2.length + 1 : Nat) : Int) - 1) = (ts2.length : Int) := by omega
        go_wp2_with fail
        go_ret
        exact ⟨by go_num, _, HTE.out.2.1, HTE.out.2.2.1, HTE.out.2.2.2.1, HTE.out.2.2.2.2⟩
end Go.Proofs.YtiiajhomdpfafaaGreatDoor
namespace Go.Proofs.YtiiajhomdpfafaaGreatDoor
open Go.RowKit

def txt17 : ByteArray := ⟨#[115, 99, 97, 108, 101, 32, 48, 46, 53, 32, 98, 111, 116, 104, 32, 112, 97, 121, 32, 49, 32, 49, 32, 50, 48, 51, 48, 45, 48, 49, 45, 48, 49, 32, 103, 105, 118, 101, 32, 112, 97, 121, 32, 51, 32, 50, 32, 50, 48, 51, 49, 45, 48, 49, 45, 48, 49]⟩
theorem wr17_0 : WordR txt17 0 0 5 := ⟨by decide, by decide, by decide, by decide, by decide, by decide, by decide⟩
theorem wr17_1 : WordR txt17 5 6 9 := ⟨by decide, by decide, by decide, by decide, by decide, by decide, by decide⟩
theorem wr17_2 : WordR txt17 9 10 14 := ⟨by decide, by decide, by decide, by decide, by decide, by decide, by decide⟩
theorem wr17_3 : WordR txt17 14 15 18 := ⟨by decide, by decide, by decide, by decide, by decide, by decide, by decide⟩
theorem wr17_4 : WordR txt17 18 19 20 := ⟨by decide, by decide, by decide, by decide, by decide, by decide, by decide⟩
theorem wr17_5 : WordR txt17 20 21 22 := ⟨by decide, by decide, by decide, by decide, by decide, by decide, by decide⟩
theorem wr17_6 : WordR txt17 22 23 33 := ⟨by decide, by decide, by decide, by decide, by decide, by decide, by decide⟩
theorem wr17_7 : WordR txt17 33 34 38 := ⟨by decide, by decide, by decide, by decide, by decide, by decide, by decide⟩
theorem wr17_8 : WordR txt17 38 39 42 := ⟨by decide, by decide, by decide, by decide, by decide, by decide, by decide⟩
theorem wr17_9 : WordR txt17 42 43 44 := ⟨by decide, by decide, by decide, by decide, by decide, by decide, by decide⟩
theorem wr17_10 : WordR txt17 44 45 46 := ⟨by decide, by decide, by decide, by decide, by decide, by decide, by decide⟩
theorem wr17_11 : WordR txt17 46 47 57 := ⟨by decide, by decide, by decide, by decide, by decide, by decide, by decide⟩
def atP1 (k : Nat) : Nat := if k = 0 then 15 else if k = 1 then 19 else if k = 2 then 21 else 23
def poP1 (k : Nat) : Nat := if k = 0 then 18 else if k = 1 then 20 else if k = 2 then 22 else 33
def wdP1 (k : Nat) : ByteArray := if k = 0 then ⟨#[49]⟩ else if k = 1 then ⟨#[49]⟩ else day20
def vlP1 (k : Nat) : Value := if k = 0 then .float .f64 4607182418800017408 else if k = 1 then .int .i64 1 else .int .i64 47482
def tmP1 (k : Nat) : Trm := if k = 0 then ⟨2, 0, 0, 0, 0, 0, 0, 0, 0, 0, 0⟩ else if k = 1 then ⟨2, 0, 0, 4607182418800017408, 0, 0, 0, 0, 0, 0, 0⟩ else if k = 2 then ⟨2, 0, 0, 4607182418800017408, 0, 0, 0, 1, 0, 0, 0⟩ else ⟨2, 0, 0, 4607182418800017408, 0, 47482, 0, 1, 0, 0, 0⟩
def plP1 : RPlan := ⟨1, atP1, poP1, wdP1, ixP, vlP1, tmP1⟩
theorem okP1 (w0 : World) {bp op cp : Nat} (hp : PfT 7 6 10 bp op cp w0) : plP1.Ok txt17 14 w0 where
  lt := by decide
  first := by decide +kernel
  kw := wr17_3
  kx := by decide
  wr := fun k hk => by
    rcases (show k = 0 ∨ k = 1 ∨ k = 2 by have : k < 3 := hk; omega) with rfl | rfl | rfl
    · exact wr17_4
    · exact wr17_5
    · exact wr17_6
  ex := fun k hk => by
    rcases (show k = 0 ∨ k = 1 ∨ k = 2 by have : k < 3 := hk; omega) with rfl | rfl | rfl <;> decide
  tm0 := rfl
  put := fun k hk w g h => by
    rcases (show k = 0 ∨ k = 1 ∨ k = 2 by have : k < 3 := hk; omega) with rfl | rfl | rfl
    · exact h.setX 4607182418800017408
    · exact h.setI (i := 7) (by omega) (by omega) 1
    · exact h.setI (i := 5) (by omega) (by omega) 47482
  tru := fun k => by
    show TrU (tmP1 k)
    unfold tmP1
    split
    · exact ⟨by constructor <;> decide, by constructor <;> decide⟩
    split
    · exact ⟨by constructor <;> decide, by constructor <;> decide⟩
    split <;> exact ⟨by constructor <;> decide, by constructor <;> decide⟩
  fdi := fun k hk => by
    rcases (show k = 0 ∨ k = 1 ∨ k = 2 by have : k < 3 := hk; omega) with rfl | rfl | rfl
    · exact fdI_X
    · exact fdI_Cur
    · exact fdI_From
  fit := fun k hk => by
    rcases (show k = 0 ∨ k = 1 ∨ k = 2 by have : k < 3 := hk; omega) with rfl | rfl | rfl
    · exact (by decide : fdFit fdX 3 (tmP1 1) = true)
    · exact (by decide : fdFit fdCur 7 (tmP1 2) = true)
    · exact (by decide : fdFit fdFrom 5 (tmP1 3) = true)
  read := fun k hk x0 x1 x2 x3 h => by
    rcases (show k = 0 ∨ k = 1 ∨ k = 2 by have : k < 3 := hk; omega) with rfl | rfl | rfl
    · obtain ⟨b, e, hb⟩ : FdAt fdX _ _ := h
      injection e with e
      obtain ⟨rfl, _, _, _⟩ : x0 = _ ∧ x1 = _ ∧ x2 = _ ∧ x3 = _ := by simpa [numV] using e
      refine ⟨_, _, rfl, fun xs w => enterD Tryz.func69 (by kernel_rfl) rfl xs w, fun g wx hx ht => ?_⟩
      exact (readX_1 _ b g bp op cp acF2 _ wx ((hx.block _ (lt_of_blk hb)).trans hb) ht (hp.below hx)).mono fun e w' hh => ⟨hh.1, wx, Below.refl _ _, hh.2⟩
    · obtain ⟨b, e, hb⟩ : FdAt fdCur _ _ := h
      injection e with e
      obtain ⟨rfl, _, _, _⟩ : x0 = _ ∧ x1 = _ ∧ x2 = _ ∧ x3 = _ := by simpa [whoV] using e
      refine ⟨_, _, rfl, fun xs w => enterD Tryz.func113 (by kernel_rfl) rfl xs w, fun g wx hx ht => ?_⟩
      exact readWho _ b 7 _ _ g 1 8 1 true ⟨#[49]⟩ acF7 _ wx (hb.below hx) ht (by omega) (by omega) (fun xs w => enterD Tryz.func82 (by kernel_rfl) rfl xs w) (fun wy _ => int_1 wy)
    · obtain ⟨b, e, hb⟩ : FdAt fdFrom _ _ := h
      injection e with e
      obtain ⟨rfl, _, _, _⟩ : x0 = _ ∧ x1 = _ ∧ x2 = _ ∧ x3 = _ := by simpa [whoV] using e
      refine ⟨_, _, rfl, fun xs w => enterD Tryz.func113 (by kernel_rfl) rfl xs w, fun g wx hx ht => ?_⟩
      exact readWho _ b 5 _ _ g 0 109572 47482 true day20 acF5 _ wx (hb.below hx) ht (by omega) (by omega) (fun xs w => enterD Tryz.func80 (by kernel_rfl) rfl xs w) (fun wy _ => readDay_20 wy)
  sz := by decide
def atP2 (k : Nat) : Nat := if k = 0 then 39 else if k = 1 then 43 else if k = 2 then 45 else 47
def poP2 (k : Nat) : Nat := if k = 0 then 42 else if k = 1 then 44 else if k = 2 then 46 else 57
def wdP2 (k : Nat) : ByteArray := if k = 0 then ⟨#[51]⟩ else if k = 1 then ⟨#[50]⟩ else day31
def vlP2 (k : Nat) : Value := if k = 0 then .float .f64 4613937818241073152 else if k = 1 then .int .i64 2 else .int .i64 47847
def tmP2 (k : Nat) : Trm := if k = 0 then ⟨2, 0, 0, 0, 0, 0, 0, 0, 0, 0, 0⟩ else if k = 1 then ⟨2, 0, 0, 4613937818241073152, 0, 0, 0, 0, 0, 0, 0⟩ else if k = 2 then ⟨2, 0, 0, 4613937818241073152, 0, 0, 0, 2, 0, 0, 0⟩ else ⟨2, 0, 0, 4613937818241073152, 0, 47847, 0, 2, 0, 0, 0⟩
def plP2 : RPlan := ⟨1, atP2, poP2, wdP2, ixP, vlP2, tmP2⟩
theorem okP2 (w0 : World) {bp op cp : Nat} (hp : PfT 7 6 10 bp op cp w0) : plP2.Ok txt17 38 w0 where
  lt := by decide
  first := by decide +kernel
  kw := wr17_8
  kx := by decide
  wr := fun k hk => by
    rcases (show k = 0 ∨ k = 1 ∨ k = 2 by have : k < 3 := hk; omega) with rfl | rfl | rfl
    · exact wr17_9
    · exact wr17_10
    · exact wr17_11
  ex := fun k hk => by
    rcases (show k = 0 ∨ k = 1 ∨ k = 2 by have : k < 3 := hk; omega) with rfl | rfl | rfl <;> decide
  tm0 := rfl
  put := fun k hk w g h => by
    rcases (show k = 0 ∨ k = 1 ∨ k = 2 by have : k < 3 := hk; omega) with rfl | rfl | rfl
    · exact h.setX 4613937818241073152
    · exact h.setI (i := 7) (by omega) (by omega) 2
    · exact h.setI (i := 5) (by omega) (by omega) 47847
  tru := fun k => by
    show TrU (tmP2 k)
    unfold tmP2
    split
    · exact ⟨by constructor <;> decide, by constructor <;> decide⟩
    split
    · exact ⟨by constructor <;> decide, by constructor <;> decide⟩
    split <;> exact ⟨by constructor <;> decide, by constructor <;> decide⟩
  fdi := fun k hk => by
    rcases (show k = 0 ∨ k = 1 ∨ k = 2 by have : k < 3 := hk; omega) with rfl | rfl | rfl
    · exact fdI_X
    · exact fdI_Cur
    · exact fdI_From
  fit := fun k hk => by
    rcases (show k = 0 ∨ k = 1 ∨ k = 2 by have : k < 3 := hk; omega) with rfl | rfl | rfl
    · exact (by decide : fdFit fdX 3 (tmP2 1) = true)
    · exact (by decide : fdFit fdCur 7 (tmP2 2) = true)
    · exact (by decide : fdFit fdFrom 5 (tmP2 3) = true)
  read := fun k hk x0 x1 x2 x3 h => by
    rcases (show k = 0 ∨ k = 1 ∨ k = 2 by have : k < 3 := hk; omega) with rfl | rfl | rfl
    · obtain ⟨b, e, hb⟩ : FdAt fdX _ _ := h
      injection e with e
      obtain ⟨rfl, _, _, _⟩ : x0 = _ ∧ x1 = _ ∧ x2 = _ ∧ x3 = _ := by simpa [numV] using e
      refine ⟨_, _, rfl, fun xs w => enterD Tryz.func69 (by kernel_rfl) rfl xs w, fun g wx hx ht => ?_⟩
      exact (readX_3 _ b g bp op cp acF2 _ wx ((hx.block _ (lt_of_blk hb)).trans hb) ht (hp.below hx)).mono fun e w' hh => ⟨hh.1, wx, Below.refl _ _, hh.2⟩
    · obtain ⟨b, e, hb⟩ : FdAt fdCur _ _ := h
      injection e with e
      obtain ⟨rfl, _, _, _⟩ : x0 = _ ∧ x1 = _ ∧ x2 = _ ∧ x3 = _ := by simpa [whoV] using e
      refine ⟨_, _, rfl, fun xs w => enterD Tryz.func113 (by kernel_rfl) rfl xs w, fun g wx hx ht => ?_⟩
      exact readWho _ b 7 _ _ g 1 8 2 true ⟨#[50]⟩ acF7 _ wx (hb.below hx) ht (by omega) (by omega) (fun xs w => enterD Tryz.func82 (by kernel_rfl) rfl xs w) (fun wy _ => int_2 wy)
    · obtain ⟨b, e, hb⟩ : FdAt fdFrom _ _ := h
      injection e with e
      obtain ⟨rfl, _, _, _⟩ : x0 = _ ∧ x1 = _ ∧ x2 = _ ∧ x3 = _ := by simpa [whoV] using e
      refine ⟨_, _, rfl, fun xs w => enterD Tryz.func113 (by kernel_rfl) rfl xs w, fun g wx hx ht => ?_⟩
      exact readWho _ b 5 _ _ g 0 109572 47847 true day31 acF5 _ wx (hb.below hx) ht (by omega) (by omega) (fun xs w => enterD Tryz.func80 (by kernel_rfl) rfl xs w) (fun wy _ => readDay_31 wy)
  sz := by decide
def plB17 : RPlan := ⟨4, fun _ => 10, fun _ => 14, fun _ => ⟨#[]⟩, fun _ => 0, fun _ => .nilFunc, fun _ => ⟨5, 0, 0, 0, 0, 0, 0, 0, 0, 0, 0⟩⟩
theorem okB17 (w0 : World) : plB17.Ok txt17 9 w0 where
  lt := by decide
  first := by decide +kernel
  kw := wr17_2
  kx := by decide
  wr := fun k hk => absurd hk (Nat.not_lt_zero k)
  ex := fun k hk => absurd hk (Nat.not_lt_zero k)
  tm0 := rfl
  put := fun k hk => absurd hk (Nat.not_lt_zero k)
  tru := fun _ => by
    show TrU ⟨5, 0, 0, 0, 0, 0, 0, 0, 0, 0, 0⟩
    exact ⟨by constructor <;> decide, by constructor <;> decide⟩
  fdi := fun k hk => absurd hk (Nat.not_lt_zero k)
  fit := fun k hk => absurd hk (Nat.not_lt_zero k)
  read := fun k hk => absurd hk (Nat.not_lt_zero k)
  sz := by decide
def plG17 : RPlan := ⟨3, fun _ => 34, fun _ => 38, fun _ => ⟨#[]⟩, fun _ => 0, fun _ => .nilFunc, fun _ => ⟨4, 0, 0, 0, 0, 0, 0, 0, 0, 0, 0⟩⟩
theorem okG17 (w0 : World) : plG17.Ok txt17 33 w0 where
  lt := by decide
  first := by decide +kernel
  kw := wr17_7
  kx := by decide
  wr := fun k hk => absurd hk (Nat.not_lt_zero k)
  ex := fun k hk => absurd hk (Nat.not_lt_zero k)
  tm0 := rfl
  put := fun k hk => absurd hk (Nat.not_lt_zero k)
  tru := fun _ => by
    show TrU ⟨4, 0, 0, 0, 0, 0, 0, 0, 0, 0, 0⟩
    exact ⟨by constructor <;> decide, by constructor <;> decide⟩
  fdi := fun k hk => absurd hk (Nat.not_lt_zero k)
  fit := fun k hk => absurd hk (Nat.not_lt_zero k)
  read := fun k hk => absurd hk (Nat.not_lt_zero k)
  sz := by decide
def plS17 : RPlan := ⟨5, fun k => if k = 0 then 0 else 6, fun k => if k = 0 then 5 else 9, fun _ => ⟨#[48, 46, 53]⟩, fun _ => 3, fun _ => .float .f64 4602678819172646912, fun k => if k = 0 then ⟨6, 0, 0, 0, 0, 0, 0, 0, 0, 0, 0⟩ else ⟨6, 0, 0, 4602678819172646912, 0, 0, 0, 0, 0, 0, 0⟩⟩
theorem okS17 (w0 : World) {bp op cp : Nat} (hp : PfT 7 6 10 bp op cp w0) : plS17.Ok txt17 0 w0 where
  lt := by decide
  first := by decide +kernel
  kw := wr17_0
  kx := by decide
  wr := fun k hk => by
    obtain rfl : k = 0 := by have : k < 1 := hk; omega
    exact wr17_1
  ex := fun k hk => by
    obtain rfl : k = 0 := by have : k < 1 := hk; omega
    decide
  tm0 := rfl
  put := fun k hk w g h => by
    obtain rfl : k = 0 := by have : k < 1 := hk; omega
    exact h.setX 4602678819172646912
  tru := fun k => by
    show TrU (if k = 0 then _ else _)
    split <;> exact ⟨by constructor <;> decide, by constructor <;> decide⟩
  fdi := fun k hk => by
    obtain rfl : k = 0 := by have : k < 1 := hk; omega
    exact fdI_X
  fit := fun k hk => by
    obtain rfl : k = 0 := by have : k < 1 := hk; omega
    exact (by decide : fdFit fdX 3 (plS17.tm 1) = true)
  read := fun k hk x0 x1 x2 x3 h => by
    obtain rfl : k = 0 := by have : k < 1 := hk; omega
    obtain ⟨b, e, hb⟩ : FdAt fdX _ _ := h
    injection e with e
    obtain ⟨rfl, _, _, _⟩ : x0 = _ ∧ x1 = _ ∧ x2 = _ ∧ x3 = _ := by simpa [numV] using e
    refine ⟨_, _, rfl, fun xs w => enterD Tryz.func69 (by kernel_rfl) rfl xs w, fun g wx hx ht => ?_⟩
    exact (readX_05 _ b g bp op cp acF2 _ wx ((hx.block _ (lt_of_blk hb)).trans hb) ht (hp.below hx)).mono fun e w' hh => ⟨hh.1, wx, Below.refl _ _, hh.2⟩
  sz := by decide
end Go.Proofs.YtiiajhomdpfafaaGreatDoor
namespace Go.Proofs.YtiiajhomdpfafaaGreatDoor
open Go.RowKit

def ts17 : List Trm := [tmP1 3, tmP2 3, ⟨4, 1, 0, 0, 0, 0, 0, 0, 0, 0, 0⟩, ⟨5, 0, 2, 0, 0, 0, 0, 0, 0, 0, 0⟩, ⟨6, 3, 0, 4602678819172646912, 0, 0, 0, 0, 0, 0, 0⟩]
theorem term17 (b h : Nat) (u : Nat → Value) (w0 w : World) (ht : TabC h u w0) (hb0 : Below w0.heap.size w0 w) (hlb : w0.heap.size ≤ b) (hR : RdB w b txt17 (.slice (some ⟨h, 0, none⟩) 8 8) 0 0 0 (.slice none 0 0)) {bp op cp : Nat} (hp : PfT 7 6 10 bp op cp w0) :
    RdT b txt17 (.slice (some ⟨h, 0, none⟩) 8 8) w.heap.size (.slice none 0 0) 1 4 47 57 5 ts17 w :=
  termOne plS17 (i := 0) b h u 0 1 w0 w 0 (.slice none 0 0) [] w.heap.size (okS17 w0 hp) rfl ht hb0 hlb hR (ownT_nil _ _) (Nat.le_refl _) (by decide) (by decide) (by decide) (by decide) (by decide) 3 47 57 5 [tmP1 3, tmP2 3, ⟨4, 1, 0, 0, 0, 0, 0, 0, 0, 0, 0⟩, ⟨5, 0, 2, 0, 0, 0, 0, 0, 0, 0, 0⟩] (by decide) fun wx hx hr ho hB =>
    termTwo plB17 (i := 9) b h u 1 2 w0 wx 6 (.slice none 0 0) [] w.heap.size (okB17 w0) rfl ht hx hlb hr ho hB (fun j hj => by cases hj) (by decide) (by decide) (by decide) (by decide) (by decide) 0 23 33 3 [tmP1 3] (fun wy hy hr1 ho1 hB1 =>
      termLeaf plP1 (i := 14) b h u 2 3 w0 wy 10 (.slice none 0 0) [] w.heap.size (okP1 w0 hp) rfl ht hy hlb hr1 ho1 hB1 (by decide) (by decide) (by decide) (by decide)) 2 47 57 5 [tmP1 3, tmP2 3, ⟨4, 1, 0, 0, 0, 0, 0, 0, 0, 0, 0⟩] (by decide) fun v1 wy hy hr1 ho1 hB1 =>
      termOne plG17 (i := 33) b h u 3 3 w0 wy 23 v1 [tmP1 3] w.heap.size (okG17 w0) rfl ht hy hlb hr1 ho1 hB1 (by decide) (by decide) (by decide) (by decide) (by decide) 1 47 57 5 [tmP1 3, tmP2 3] (by decide) fun wz hz hr2 ho2 hB2 =>
        termLeaf plP2 (i := 38) b h u 4 4 w0 wz 34 v1 [tmP1 3] w.heap.size (okP2 w0 hp) rfl ht hz hlb hr2 ho2 hB2 (by decide) (by decide) (by decide) (by decide)
end Go.Proofs.YtiiajhomdpfafaaGreatDoor
namespace Go.Proofs.YtiiajhomdpfafaaGreatDoor
open Go.RowKit

end Go.Proofs.YtiiajhomdpfafaaGreatDoor
namespace Go.Proofs.YtiiajhomdpfafaaGreatDoor
open Go.RowKit

set_option maxRecDepth 20000 in
theorem idle18 (p1 p2 p3 : Value) (w : World) :
    CallsD Tryz.prog 24 #[p1, p2, p3] .returning w fun e u' w' => e = .returned (.tuple #[]) ∧ u' = .returning ∧ w' = w := by
  refine callsD_of_wpS Tryz.func24 rfl fun c₀ cs hu => ?_
  apply wpS_seq
  apply wpS_region
  simp [wpOpsS, go_sem, recoverD, hu, Tryz.ntmps24, Exit.thenS]
  apply wpS_seq
  apply wpS_region
  simp [wpOpsS, go_sem, recoverD, hu, Exit.thenS]
  refine wpS_cond (t := false) (by simp [Act.eval, Array.replicate]) ?_
  simp only [Bool.false_eq_true, if_false]
  refine wpS_of_wp (wp_skip ?_)
  cases c₀
  simp_all [bodyPostS, results, Tryz.results24]
structure PrB (w wr : World) : Prop where
  r0 : wr.heap[w.heap.size]? = some (.cells #[.slice none 0 0] 22)
  r1 : wr.heap[w.heap.size + 1]? = some (.cells #[.int .i64 0] 26)
  r2 : wr.heap[w.heap.size + 1 + 1]? = some (.cells #[.int .i64 0] 3)
  bl : Below w.heap.size w wr
theorem prB_at (w : World) : PrB w (((w.alloc (.cells #[.slice none 0 0] 22)).alloc (.cells #[.int .i64 0] 26)).alloc (.cells #[.int .i64 0] 3)) := by
  refine ⟨?_, ?_, ?_, (((Below.refl _ _).alloc (Nat.le_refl _) _).alloc (by simp) _).alloc (by simp; omega) _⟩
  · simp only [al_at, sz_al]; repeat rw [if_neg (by omega)]
    exact if_pos trivial
  · simp only [al_at, sz_al]; repeat rw [if_neg (by omega)]
    exact if_pos trivial
  · simp only [al_at, sz_al]; exact if_pos trivial
theorem PrB.step {w wr w' : World} (h : PrB w wr) (hb : Below wr.heap.size wr w') : PrB w w' := ⟨(hb.block _ (lt_of_blk h.r0)).trans h.r0, (hb.block _ (lt_of_blk h.r1)).trans h.r1, (hb.block _ (lt_of_blk h.r2)).trans h.r2, h.bl.trans (hb.mono h.bl.size)⟩
theorem PrB.over {w wr w' : World} {b : Nat} (h : PrB w wr) (hx : BelX b wr w') (hb : w.heap.size + 1 + 1 < b) : PrB w w' := ⟨(hx.block _ (lt_of_blk h.r0) (by omega)).trans h.r0, (hx.block _ (lt_of_blk h.r1) (by omega)).trans h.r1, (hx.block _ (lt_of_blk h.r2) (by omega)).trans h.r2, hx.below h.bl (by omega) h.bl.size⟩
theorem rdB_at (w : World) (s : ByteArray) (kv : Value) : RdB (w.alloc (.cells #[.string s, kv, .int .i64 0, .int .i64 0, .int .i64 0, .slice none 0 0] 80)) w.heap.size s kv 0 0 0 (.slice none 0 0) := heap_alloc_new _ _
end Go.Proofs.YtiiajhomdpfafaaGreatDoor
namespace Go.Proofs.YtiiajhomdpfafaaGreatDoor
open Go.RowKit

theorem belX_of_y {b : Nat} {w w' : World} (h : BelY b none w w') : BelX b w w' := ⟨h.os, h.tape, h.output, h.size, fun k hk hn => h.block k hk hn (by simp)⟩
theorem wr17_end : WordR txt17 57 57 57 := ⟨by decide, by decide, by decide, by decide, by decide, by decide, by decide⟩
set_option maxRecDepth 20000 in
set_option maxHeartbeats 6400000 in
theorem parse17 (w : World) {bp op cp : Nat} (hp : PfT 7 6 10 bp op cp w) :
    Calls Tryz.prog 14 #[.string txt17] w fun e w' => ∃ v, e = .returned (.tuple #[v, .int .i64 0, .int .i64 0]) ∧ OwnT w.heap.size v ts17 w' ∧ Below w.heap.size w w' := by
  have hmf := make_fnD
  have HP := hidD hp
  have hsz : txt17.size = 57 := rfl
  clear hp
  go_enter_defers Tryz.func14, Tryz.ntmps14
  go_wp2_with fail
  have H0 := hidD (prB_at w)
  refine (kinds_any _).mono ?_
  rintro e wk ⟨v, rfl, hv, hb⟩
  obtain ⟨h, u, rfl, ht⟩ := tab_open hv
  have H1 := hidD (H0.out.step hb)
  have HTb := hidD ht
  have hwk : w.heap.size + 1 + 1 < wk.heap.size := lt_of_blk H1.out.r2
  have HWk := hidD (show w.heap.size ≤ wk.heap.size + 1 by omega)
  clear hv hb ht H0
  have hb1 := al_bel wk (.cells #[.string txt17, .slice (some ⟨h, 0, none⟩) 8 8, .int .i64 0, .int .i64 0, .int .i64 0, .slice none 0 0] 80)
  have H2 := hidD (H1.out.step hb1)
  have ht17 := (term17 wk.heap.size h u wk _ HTb.out hb1 (Nat.le_refl _) (rdB_at wk txt17 (.slice (some ⟨h, 0, none⟩) 8 8)) (HP.out.below H1.out.bl))
  unfold RdT at ht17
  have HTm := hidD ht17
  clear ht17
  have hs2 : (wk.alloc (.cells #[.string txt17, .slice (some ⟨h, 0, none⟩) 8 8, .int .i64 0, .int .i64 0, .int .i64 0, .slice none 0 0] 80)).heap.size = wk.heap.size + 1 := by simp
  clear hb1 hsz
  go_wp2_with fail
  refine HTm.out.mono ?_
  rintro e w3 ⟨rfl, v3, hr3, ho3, _, hy3⟩
  have hx3 := belX_of_y hy3
  rw [hs2] at ho3
  have H3 := hidD (H2.out.over hx3 hwk)
  have HO3 := hidD (ho3.lower (show w.heap.size ≤ wk.heap.size + 1 by omega))
  have HWd := hidD (word_at wr17_end wk.heap.size (.slice (some ⟨h, 0, none⟩) 8 8) v3 47 5 ⟨#[]⟩ (by decide) w3 hr3 (by decide))
  obtain ⟨g3, c3, rfl⟩ := ho3.full (by decide)
  have HG3 := hidD (And.intro ho3 hr3)
  clear hr3 ho3 hx3 hy3 HTm H2 hs2
  go_wp2_with fail
  refine HWd.out.mono ?_
  rintro e w4 ⟨rfl, hr4, ho4⟩
  have H4 := hidD (H3.out.over (.of_one ho4) hwk)
  obtain ⟨_, _, q5, _⟩ := rd_cells hr4
  have hg3 : wk.heap.size + 1 ≤ g3 := HG3.out.1.base
  have HO4 := hidD (HG3.out.1.keep (w' := w4) fun k hk => by
    have : g3 = k := by simpa [Value.ownBlock] using hk
    exact ho4.out k (by omega))
  clear hr4 ho4 HWd
  have c0 := cell1_of H4.out.r0
  have c1 := cell1_of H4.out.r1
  have c2 := cell1_of H4.out.r2
  have y0 : w4.frozen? ⟨w.heap.size, 0, none⟩ = false := by simp [World.frozen?, H4.out.r0]
  have y1 : w4.frozen? ⟨w.heap.size + 1, 0, none⟩ = false := by simp [World.frozen?, H4.out.r1]
  have y2 : w4.frozen? ⟨w.heap.size + 1 + 1, 0, none⟩ = false := by simp [World.frozen?, H4.out.r2]
  obtain ⟨w5, hw5⟩ : ∃ w5, ((w4.setCell ⟨w.heap.size, 0, none⟩ (.slice (some ⟨g3, 0, none⟩) ts17.length c3)).setCell ⟨w.heap.size + 1, 0, none⟩ (.int .i64 0)).setCell ⟨w.heap.size + 1 + 1, 0, none⟩ (.int .i64 0) = w5 := ⟨_, rfl⟩
  have HE : Hid ((w5.cell? ⟨w.heap.size, 0, none⟩ = some (.slice (some ⟨g3, 0, none⟩) ts17.length c3) ∧ w5.cell? ⟨w.heap.size + 1, 0, none⟩ = some (.int .i64 0) ∧ w5.cell? ⟨w.heap.size + 1 + 1, 0, none⟩ = some (.int .i64 0)) ∧ OwnT (wk.heap.size + 1) (.slice (some ⟨g3, 0, none⟩) ts17.length c3) ts17 w5 ∧ Below w.heap.size w w5) := by
    refine ⟨⟨?_, ?_, ?_⟩, ?_, ?_⟩
    · rw [← hw5]; simp [go_sem, c0]
    · rw [← hw5]; simp [go_sem, c1]
    · rw [← hw5]; simp [go_sem, c2]
    · rw [← hw5]
      exact HO4.out.keep fun k hk => by
        have : g3 = k := by simpa [Value.ownBlock] using hk
        rw [blkF_far _ _ _ _ (by show k ≠ w.heap.size + 1 + 1; omega), blkF_far _ _ _ _ (by show k ≠ w.heap.size + 1; omega), blkF_far _ _ _ _ (by show k ≠ w.heap.size; omega)]
    · rw [← hw5]
      exact ((H4.out.bl.setCell (p := ⟨w.heap.size, 0, none⟩) (Nat.le_refl _) _).setCell (p := ⟨w.heap.size + 1, 0, none⟩) (by show w.heap.size ≤ w.heap.size + 1; omega) _).setCell (p := ⟨w.heap.size + 1 + 1, 0, none⟩) (by show w.heap.size ≤ w.heap.size + 1 + 1; omega) _
  have e3 : ts17.length = 5 := rfl
  rw [e3] at hw5 q5
  clear e3 hg3 hwk
  go_wp2_with fail
  refine leaves_cons (f := 24) (args := #[.pointer (some ⟨w.heap.size, 0, none⟩), .pointer (some ⟨w.heap.size + 1, 0, none⟩), .pointer (some ⟨w.heap.size + 1 + 1, 0, none⟩)]) (by simp) (by simp [go_sem]) ?_
  refine (idle18 _ _ _ _).mono ?_
  rintro e u' w'' ⟨rfl, rfl, rfl⟩
  obtain ⟨⟨k0, k1, k2⟩, ho, hb⟩ := HE.out
  simp [Leaves, Go.settle, results, Tryz.results14, go_sem, k0, k1, k2]
  exact ⟨ho.lower HWk.out, hb⟩
end Go.Proofs.YtiiajhomdpfafaaGreatDoor
namespace Go.Proofs.YtiiajhomdpfafaaGreatDoor
open Go.RowKit

set_option maxRecDepth 20000 in
set_option maxHeartbeats 6400000 in
theorem mLast_any (B b : Nat) (fv sv : Value) (fl : List Flw) (st : List Int) (k : Int) (w : World) (h : MnM B b fv sv fl (st ++ [k]) w) (hn : st.length ≤ 100000) :
    Calls Tryz.prog 91 #[.pointer (some ⟨b, 0, none⟩)] w fun e w' => e = .returned (.int .i64 k) ∧ ∃ q, w' = w.drewN q := by
  obtain ⟨g, c, rfl, hc, hg, c0, f0, _, _⟩ := int_last h.starts
  have r1 := h.cells.2.1
  obtain ⟨n, hL⟩ : ∃ n, st.length = n := ⟨_, rfl⟩
  rw [hL] at c0 r1 hn
  have i0 : (((n + 1 : Nat) : Int) - 1) = (n : Int) := by omega
  have i1 : (0 : Int) ≤ (n : Int) := by omega
  have i2 : (n : Int) < ((n + 1 : Nat) : Int) := by omega
  have i3 : ¬ (n : Int) + 1 ≤ (n : Int) := by omega
  clear h hc hg f0 hL
  go_enter Tryz.func91, Tryz.ntmps91
  go_wp2_with fail
  go_quiet (fail)
  go_wp2_with fail
  go_ret
  exact ⟨rfl, _, rfl⟩
def fcC (f : Flw) : Array Value := #[.int .i64 f.day, .float .f64 f.am, .int .i64 f.cur]
theorem rowF1 (f : Flw) : rowF aF [f] = (fcC f).toList := by simp [rowF, flC, fcC, aF]
theorem row_more_f {w : World} {B : Nat} {v : Value} {fl : List Flw} {f : Flw} (h : w.ownsRow B 45 3 v (fl.length + 1) (rowF aF fl ++ rowF aF [f])) : w.ownsRow B 45 3 v (fl ++ [f]).length (rowF aF (fl ++ [f])) := by
  rw [List.length_append, List.length_singleton, rowF_append]; exact h
set_option maxRecDepth 20000 in
set_option maxHeartbeats 25600000 in
theorem mAdd1_any (B b k : Nat) (fv sv : Value) (fl : List Flw) (st : List Int) (f : Flw) (w : World) (h : MnM B b fv sv fl st w) (hb : B ≤ b) (hn : fl.length < 4096) (hk : w.heap[k]? = some (.cells (fcC f) 45)) :
    Calls Tryz.prog 85 #[.pointer (some ⟨b, 0, none⟩), .slice (some ⟨k, 0, none⟩) 1 1] w fun e w' => e = .returned (.int .i64 0) ∧ (∃ v, MnM B b v sv (fl ++ [f]) st w') ∧ BelY b fv.ownBlock w w' := by
  have hbw := lt_of_blk h.box
  have HBw : Hid (B ≤ w.heap.size) := by show _ ≤ _; omega
  obtain ⟨pf, cf, gf, hfv, _⟩ := orow_src h.flows
  subst hfv
  have HBb := hidD hb
  have HN := hidD hn
  have HW1 := hidD (al_bel w (.cells (fcC f) 45))
  have H1 := hidD (h.below HW1.out)
  have HRm := hidD (mRoom_any B b _ sv fl st _ H1.out hn)
  have HX1 : Hid ((w.alloc (.cells (fcC f) 45)).heap[w.heap.size]? = some (.cells (fcC f) 45)) := heap_alloc_new _ _
  obtain ⟨f0, f1, f2⟩ : w.cell? ⟨k, 0, none⟩ = some (.int .i64 f.day) ∧ w.cell? ⟨k, 1, none⟩ = some (.float .f64 f.am) ∧ w.cell? ⟨k, 2, none⟩ = some (.int .i64 f.cur) := by
    unfold fcC at hk
    refine ⟨?_, ?_, ?_⟩ <;>
    · simp only [World.cell?, hk, Option.isSome_none, Bool.false_eq_true, if_false]; rfl
  obtain ⟨w1, hw1⟩ : ∃ w1, w.alloc (.cells (fcC f) 45) = w1 := ⟨_, rfl⟩
  obtain ⟨K, hK⟩ : ∃ K, w.heap.size = K := ⟨_, rfl⟩
  rw [hw1] at HW1 H1 HRm HX1
  rw [hK] at HX1
  unfold fcC at hw1
  have hst := store_fltD
  clear h hb hn hk hbw
  go_enter Tryz.func85, Tryz.ntmps85
  go_wp2_with fail
  refine wp_loop_rounds 2 ?_
  rw [rounds_succ]
  go_wp2_with fail
  refine HRm.out.mono ?_
  rintro e w2 ⟨rfl, hw2⟩
  obtain rfl := hw2
  obtain ⟨r0, _, rf⟩ := H1.out.cells
  have y0 := rf 0
  obtain ⟨x0, x1, x2⟩ : w2.cell? ⟨K, 0, none⟩ = some (.int .i64 f.day) ∧ w2.cell? ⟨K, 1, none⟩ = some (.float .f64 f.am) ∧ w2.cell? ⟨K, 2, none⟩ = some (.int .i64 f.cur) := by
    have hx := HX1.out
    unfold fcC at hx
    refine ⟨?_, ?_, ?_⟩ <;>
    · simp only [World.cell?, hx, Option.isSome_none, Bool.false_eq_true, if_false]; rfl
  have hb1 := lt_of_blk H1.out.box
  have hb2 : b ≠ w2.heap.size := Nat.ne_of_lt hb1
  have hK1 : K < w2.heap.size := lt_of_blk HX1.out
  have hK2 : K ≠ w2.heap.size := Nat.ne_of_lt hK1
  have HB1 : Hid (B ≤ w2.heap.size) := Nat.le_trans HBw.out (by rw [hK]; exact Nat.le_of_lt hK1)
  have HA : Hid (MnM B b (.slice pf fl.length cf) sv fl st (w2.drew.alloc (.cells (fcC f) 45))) := H1.out.below ((Below.refl _ _).drew.alloc (Nat.le_refl _) _)
  have HBA : Hid (B ≤ (w2.drew.alloc (.cells (fcC f) 45)).heap.size) := Nat.le_trans HB1.out (by simp)
  have HCA : Hid (∀ j u, (rowF aF [f])[j]? = some u → (w2.drew.alloc (.cells (fcC f) 45)).cell? ⟨w2.heap.size, j, none⟩ = some u) := fun j u hj => new_cells w2.drew (fcC f) 45 j u (by rw [← rowF1]; exact hj)
  have HR : Hid (∀ w5 v5, w5.ownsRow B 45 3 v5 (fl.length + 1) (rowF aF fl ++ rowF aF [f]) → World.grownBy (w2.drew.alloc (.cells (fcC f) 45)) w5 (Value.slice pf fl.length cf).ownBlock → w5.heap[b]? = some (.cells #[.slice pf fl.length cf, sv] 73) ∧ MnM B b v5 sv (fl ++ [f]) st (w5.setCell ⟨b, 0, none⟩ v5) ∧ BelY b (Value.slice pf fl.length cf).ownBlock w (w5.setCell ⟨b, 0, none⟩ v5)) := fun w5 v5 h5 g5 => by
    have h6 := HA.out.reflow HBb.out HBA.out g5 (fl' := fl ++ [f]) (row_more_f h5)
    have hsz : w.heap.size ≤ w2.heap.size := HW1.out.size
    exact ⟨h6.1, h6.2.1, ⟨h6.2.2.os.trans HW1.out.os, h6.2.2.tape.trans HW1.out.tape, h6.2.2.output.trans HW1.out.output, Nat.le_trans hsz (Nat.le_trans (show w2.heap.size ≤ (w2.drew.alloc (.cells (fcC f) 45)).heap.size by simp) h6.2.2.size), fun k hk hn hq => (blkF_far _ _ _ _ (show k ≠ b from hn)).trans ((g5.block k (by simp; omega) (fun e => hq e.symm)).trans (((al_bel w2.drew _).block k (Nat.lt_of_lt_of_le hk hsz)).trans (HW1.out.block k hk)))⟩⟩
  unfold fcC at HA HCA HBA HR
  clear rf f0 f1 f2 hw1 hK
  go_wp2_with fail
  go_region_law (refine step_append_h Tryz.underlying35 info_fl rfl (by decide) rfl (.tmp 23) (.tmp 25) rfl B (.slice pf fl.length cf) fl.length (rowF aF fl) rfl HA.out.flows HBA.out w2.heap.size 1 1 (rowF aF [f]) rfl rfl HCA.out (rowF_one (fun _ => rfl) _) (by have := HN.out; omega) (by have := HN.out; omega) ?_; intro v5 w5 ho5 hg5 hn5; have te := HR.out w5 v5 ho5 hg5; obtain ⟨p5, c5, g5, hv5, _, _, hp5, _⟩ := orow_src ho5; obtain rfl := hp5 (by omega); subst hv5; clear hp5; have HTE := hidD te; have q5 := (opx_cells te.1 0 rfl).1; have y5 := (opx_cells te.1 0 rfl).2; clear ho5 hg5 hn5 te)
  all_goals
    clear q5 y5
    go_wp2_with fail
    rw [rounds_succ]
    go_wp2_with fail
    go_ret
    exact ⟨rfl, ⟨_, ⟨HTE.out.2.1.box, HTE.out.2.1.flows, HTE.out.2.1.starts⟩⟩, HTE.out.2.2⟩
end Go.Proofs.YtiiajhomdpfafaaGreatDoor
namespace Go.Proofs.YtiiajhomdpfafaaGreatDoor
open Go.RowKit

set_option maxRecDepth 20000 in
set_option maxHeartbeats 12800000 in
theorem mPay_any (B b : Nat) (fv sv : Value) (fl : List Flw) (st : List Int) (t : Trm) (w : World) (h : MnM B b fv sv fl st w) (hb : B ≤ b) (hn : fl.length < 4096) (hn2 : st.length ≤ 100000) :
    Calls Tryz.prog 46 #[.pointer (some ⟨b, 0, none⟩), .agg (trC t)] w fun e w' => e = .returned (.int .i64 0) ∧ (∃ v u, MnM B b v u (fl ++ [⟨t.day, t.x, t.cur⟩]) (st ++ [(fl.length : Int)]) w') ∧ Below B w w' := by
  have hbw := lt_of_blk h.box
  have HBw : Hid (B ≤ w.heap.size) := by show _ ≤ _; omega
  have HW1 := hidD (al_bel w (.cells (trC t) 47))
  have H1 := hidD (h.below HW1.out)
  have HT1 : Hid ((w.alloc (.cells (trC t) 47)).heap[w.heap.size]? = some (.cells (trC t) 47)) := heap_alloc_new _ _
  have HBb := hidD hb
  have HN := hidD hn
  have HSt := hidD (mStart_any B b fv sv fl st _ H1.out hb hn2)
  have HBw2 := hidD hbw
  have HQs : Hid (∀ j, sv.ownBlock = some j → j < w.heap.size) := fun j hj => (h.starts.lt j hj).2
  have HQs2 : Hid (∀ j, sv.ownBlock = some j → B ≤ j ∧ j < w.heap.size) := fun j hj => h.starts.lt j hj
  have HQf2 : Hid (∀ j, fv.ownBlock = some j → B ≤ j ∧ j < w.heap.size) := fun j hj => h.flows.lt j hj
  clear h hb hn hn2 hbw
  unfold trC at H1 HT1 HW1 HSt ⊢
  go_enter Tryz.func46, Tryz.ntmps46
  go_wp2_with fail
  refine HSt.out.mono ?_
  rintro e w2 ⟨rfl, ⟨u, h2⟩, hy2⟩
  have H2 := hidD h2
  have HY2 := hidD hy2
  have hT : w.heap.size < w2.heap.size := Nat.lt_of_lt_of_le (lt_of_blk HT1.out) hy2.size
  have HT2 : Hid (w2.heap[w.heap.size]? = some (.cells (trC t) 47)) := (hy2.block _ (lt_of_blk HT1.out) (fun e => by have := HBw2.out; omega) (fun e => by have := HQs.out _ e; omega)).trans HT1.out
  obtain ⟨d0, d1, d2, d3, d4, d5, d6, d7, d8, d9, d10⟩ := trm_cells HT2.out
  have HW3 := hidD (al_bel w2 (.cells (fcC ⟨t.day, t.x, t.cur⟩) 45))
  have HAd := hidD (mAdd1_any B b w2.heap.size fv u fl (st ++ [(fl.length : Int)]) ⟨t.day, t.x, t.cur⟩ _ (h2.below HW3.out) HBb.out HN.out (heap_alloc_new _ _))
  unfold fcC at HAd HW3
  dsimp only at HAd HW3
  clear h2 hy2
  go_wp2_with fail
  refine HAd.out.mono ?_
  rintro e w4 ⟨rfl, ⟨v, h4⟩, hy4⟩
  have H4 := hidD h4
  have HB2 : Hid (Below B w w2) := HY2.out.below (HW1.out.mono HBw.out) HBb.out (fun j hj => (HQs2.out j hj).1) (Nat.le_trans HBw.out HW1.out.size)
  have HB3 : Hid (Below B w (w2.alloc (.cells #[.int .i64 t.day, .float .f64 t.x, .int .i64 t.cur] 45))) := HB2.out.trans (HW3.out.mono (Nat.le_trans HBw.out HB2.out.size))
  have HB4 : Hid (Below B w w4) := hy4.below HB3.out HBb.out (fun j hj => (HQf2.out j hj).1) (Nat.le_trans HBw.out HB3.out.size)
  clear h4 hy4
  go_wp2_with fail
  go_ret
  exact ⟨rfl, ⟨_, _, H4.out⟩, HB4.out⟩
set_option maxRecDepth 20000 in
set_option maxHeartbeats 12800000 in
theorem mBoth_any (B b : Nat) (fv sv : Value) (fl : List Flw) (st : List Int) (k : Int) (t : Trm) (w : World) (h : MnM B b fv sv fl (st ++ [k]) w) (hb : B ≤ b) (hn : st.length ≤ 100000) :
    Calls Tryz.prog 50 #[.pointer (some ⟨b, 0, none⟩), .agg (trC t)] w fun e w' => e = .returned (.int .i64 0) ∧ (∃ u, MnM B b fv u fl st w') ∧ Below B w w' := by
  have hbw := lt_of_blk h.box
  have HBw : Hid (B ≤ w.heap.size) := by show _ ≤ _; omega
  have HW1 := hidD (al_bel w (.cells (trC t) 47))
  have h1 := h.below HW1.out
  obtain ⟨g, c, rfl, hc, hg, c0, f0, hrow, _⟩ := int_last h1.starts
  have H1 := hidD h1
  have HRow := hidD hrow
  have HBb := hidD hb
  obtain ⟨_, r1, rf⟩ := h1.cells
  have y1 := rf 1
  obtain ⟨n, hL⟩ : ∃ n, st.length = n := ⟨_, rfl⟩
  have HL := hidD hL
  rw [hL] at r1 hn HRow hc
  have i0 : (((n + 1 : Nat) : Int) - 1) = (n : Int) := by omega
  have i1 : (0 : Int) ≤ (n : Int) := by omega
  have i2 : (n : Int) ≤ (c : Int) := by omega
  have i3 : ¬ (c : Int) < (n : Int) := by omega
  have i4 : n ≤ c := by omega
  have i5 : n ≤ n + 1 := by omega
  have iw : IntKind.i64.wrap (n : Int) = (n : Int) := by rw [IntKind.wrap_i64]; omega
  have HF : Hid (∀ w5, (w.alloc (.cells (trC t) 47)).setCell ⟨b, 1, none⟩ (.slice (some ⟨g, 0, none⟩) n c) = w5 → MnM B b fv (.slice (some ⟨g, 0, none⟩) n c) fl st w5 ∧ Below B w w5) := fun w5 e => by
    subst e
    have hB1 : B ≤ (w.alloc (.cells (trC t) 47)).heap.size := Nat.le_trans HBw.out HW1.out.size
    have h6 := H1.out.restart HBb.out hB1 (World.grownBy.refl _ _) (sv' := .slice (some ⟨g, 0, none⟩) n c) (st' := st) (by rw [HL.out]; exact HRow.out)
    exact ⟨h6.2.1, (HW1.out.mono HBw.out).trans h6.2.2⟩
  obtain ⟨w1, hw1⟩ : ∃ w1, w.alloc (.cells (trC t) 47) = w1 := ⟨_, rfl⟩
  rw [hw1] at HF r1 y1
  unfold trC at hw1 ⊢
  clear h h1 hb hc hg c0 f0 hrow rf hL hbw H1 HRow HW1
  go_enter Tryz.func50, Tryz.ntmps50
  go_wp2_with fail
  go_region_with (fail)
  all_goals
    obtain ⟨w5, hw5⟩ : ∃ w5, w1.setCell ⟨b, 1, none⟩ (.slice (some ⟨g, 0, none⟩) n c) = w5 := ⟨_, rfl⟩
    have HG := hidD (HF.out w5 hw5)
    rw [hw5]
    go_wp2_with fail
    go_ret
    exact ⟨rfl, ⟨_, ⟨HG.out.1.box, HG.out.1.flows, HG.out.1.starts⟩⟩, HG.out.2.drew⟩
end Go.Proofs.YtiiajhomdpfafaaGreatDoor
namespace Go.Proofs.YtiiajhomdpfafaaGreatDoor
open Go.RowKit

theorem MnM.drewN {B b : Nat} {fv sv : Value} {fl : List Flw} {st : List Int} {w : World} (h : MnM B b fv sv fl st w) (q : Nat) : MnM B b fv sv fl st (w.drewN q) := ⟨h.box, h.flows, h.starts⟩
theorem rowF_take (mk : Nat → Value) : ∀ (l : List Flw) (k : Nat), rowF mk (l.take k) = (rowF mk l).take (k * 3)
  | [], k => by simp [rowF]
  | x :: l, 0 => by simp [rowF]
  | x :: l, k + 1 => by
    have e1 : (flC mk x).length = 3 := rfl
    have e2 : (flC mk x).take ((k + 1) * 3) = flC mk x := List.take_of_length_le (by rw [e1, Nat.add_mul]; omega)
    rw [List.take_succ_cons, rowF, rowF, rowF_take mk l k, List.take_append, e1, e2, show (k + 1) * 3 - 3 = k * 3 by omega]
set_option maxRecDepth 20000 in
set_option maxHeartbeats 25600000 in
theorem mPut_any (B b k g2 c2 B2 : Nat) (fv sv : Value) (fl l : List Flw) (st : List Int) (w : World) (h : MnM B b fv sv fl (st ++ [(k : Int)]) w) (hb : B ≤ b) (hk : k ≤ fl.length) (hfl : fl.length ≤ 100000) (hll : l.length ≤ 100000) (hn : st.length ≤ 100000) (hr : w.ownsRow B2 45 3 (.slice (some ⟨g2, 0, none⟩) l.length c2) l.length (rowF aF l)) :
    Calls Tryz.prog 89 #[.pointer (some ⟨b, 0, none⟩), .slice (some ⟨g2, 0, none⟩) l.length c2] w fun e w' => e = .returned (.tuple #[]) ∧ (∃ v, MnM B b v sv (fl.take k ++ l) (st ++ [(k : Int)]) w') ∧ Below B w w' := by
  have hbw := lt_of_blk h.box
  have HBw : Hid (B ≤ w.heap.size) := by show _ ≤ _; omega
  obtain ⟨pf, cf, gf, hfv, hcf, hcm, _, hpn, _, _, htk⟩ := orow_src h.flows
  subst hfv
  have hrow := htk k hk
  rw [← rowF_take] at hrow
  have HRow : Hid (w.ownsRow B 45 3 (.slice pf k cf) k (rowF aF (fl.take k))) := hrow
  have H := hidD h
  have HBb := hidD hb
  have HL2 := hidD hr
  have HLa : Hid (Calls Tryz.prog 91 #[.pointer (some ⟨b, 0, none⟩)] w.drew fun e w' => e = .returned (.int .i64 (k : Int)) ∧ ∃ q, w' = w.drew.drewN q) := mLast_any B b _ sv fl st k w.drew ⟨h.box, h.flows, h.starts⟩ hn
  have HK : Hid (∀ q, (w.drew.drewN q).ownsRow B 45 3 (.slice pf k cf) k (rowF aF (fl.take k)) ∧ B ≤ (w.drew.drewN q).heap.size ∧ (∀ j u, (rowF aF l)[j]? = some u → (w.drew.drewN q).cell? ⟨g2, j, none⟩ = some u) ∧ ∀ w5 v5, w5.ownsRow B 45 3 v5 (k + l.length) (rowF aF (fl.take k) ++ rowF aF l) → World.grownBy (w.drew.drewN q) w5 (Value.slice pf k cf).ownBlock → w5.heap[b]? = some (.cells #[.slice pf fl.length cf, sv] 73) ∧ MnM B b v5 sv (fl.take k ++ l) (st ++ [(k : Int)]) (w5.setCell ⟨b, 0, none⟩ v5) ∧ Below B w (w5.setCell ⟨b, 0, none⟩ v5)) := fun q => by
    have HX : MnM B b (.slice pf fl.length cf) sv fl (st ++ [(k : Int)]) (w.drew.drewN q) := ⟨H.out.box, H.out.flows, H.out.starts⟩
    refine ⟨HRow.out, HBw.out, fun j u hj => ?_, fun w5 v5 h5 g5 => ?_⟩
    · have hlt := (List.getElem?_eq_some_iff.1 hj).1
      rw [HL2.out.1] at hlt
      show w.cell? ⟨g2, j, none⟩ = some u
      rw [HL2.out.cellAt j hlt]; exact hj
    · have g6 : World.grownBy (w.drew.drewN q) w5 (Value.slice pf fl.length cf).ownBlock := by cases pf <;> exact g5
      have h6 := HX.reflow HBb.out HBw.out g6 (fl' := fl.take k ++ l) (by rw [List.length_append, List.length_take, Nat.min_eq_left hk, rowF_append]; exact h5)
      exact ⟨h6.1, h6.2.1, ⟨h6.2.2.os, h6.2.2.tape, h6.2.2.output, h6.2.2.size, h6.2.2.block⟩⟩
  obtain ⟨r0, _, rf⟩ := h.cells
  have y0 := rf 0
  have i1 : (0 : Int) ≤ (k : Int) := by omega
  have i2 : (k : Int) ≤ (cf : Int) := by omega
  have i3 : ¬ (cf : Int) < (k : Int) := by omega
  have i4 : k ≤ cf := by omega
  have iw : IntKind.i64.wrap (k : Int) = (k : Int) := by rw [IntKind.wrap_i64]; omega
  have HS : Hid (k + l.length ≤ 1000000) := by show _ ≤ _; omega
  obtain ⟨n, hnL⟩ : ∃ n, fl.length = n := ⟨_, rfl⟩
  obtain ⟨m, hmL⟩ : ∃ m, l.length = m := ⟨_, rfl⟩
  have HmL := hidD hmL
  rw [hnL] at r0 HK
  rw [hmL] at HK HS ⊢
  clear h hb hk hfl hll hn hr hrow htk hcf hcm hpn hnL hmL hbw rf
  go_enter Tryz.func89, Tryz.ntmps89
  refine wp_region_late (fun xw => xw.cell? ⟨b, 0, none⟩ = some (.slice pf n cf)) (fun i => i == 12) (by kernel_rfl) ?_
  have hS0 : w.drew.cell? ⟨b, 0, none⟩ = some (.slice pf n cf) := r0
  refine anyL_take 0 (.pointer (some ⟨b, 0, none⟩)) rfl (by kernel_rfl) (by kernel_rfl) (by kernel_rfl) (by kernel_rfl) (by kernel_rfl) (fun _ _ _ h => h) (by rfl) hS0 (fun wx hS => by go_simp) ?_
  simp only [Act.put, List.setIfInBounds_toArray]
  refine anyL_take 1 (.pointer (some ⟨b, 0, none⟩)) rfl (by kernel_rfl) (by kernel_rfl) (by kernel_rfl) (by kernel_rfl) (by kernel_rfl) (fun _ _ _ h => h) (by rfl) hS0 (fun wx hS => by go_simp) ?_
  simp only [Act.put]
  refine anyL_take 2 (.pointer (some ⟨b, 0, none⟩)) rfl (by kernel_rfl) (by kernel_rfl) (by kernel_rfl) (by kernel_rfl) (by kernel_rfl) (fun _ _ _ h => h) (by rfl) hS0 (fun wx hS => by go_simp) ?_
  simp only [Act.put]
  refine anyL_take 3 (.pointer (some ⟨b, 0, none⟩)) rfl (by kernel_rfl) (by kernel_rfl) (by kernel_rfl) (by kernel_rfl) (by kernel_rfl) (fun _ _ _ h => h) (by rfl) hS0 (fun wx hS => by go_simp) ?_
  simp only [Act.put]
  refine anyL_take 4 (.slice pf n cf) rfl (by kernel_rfl) (by kernel_rfl) (by kernel_rfl) (by kernel_rfl) (by kernel_rfl) (fun _ _ _ h => h) (by rfl) hS0 (fun wx hS => by go_simp) ?_
  simp only [Act.put]
  refine anyL_take 5 (.pointer (some ⟨b, 0, none⟩)) rfl (by kernel_rfl) (by kernel_rfl) (by kernel_rfl) (by kernel_rfl) (by kernel_rfl) (fun _ _ _ h => h) (by rfl) hS0 (fun wx hS => by go_simp) ?_
  simp only [Act.put]
  refine anyL_take 8 (.slice (some ⟨g2, 0, none⟩) m c2) rfl (by kernel_rfl) (by kernel_rfl) (by kernel_rfl) (by kernel_rfl) (by kernel_rfl) (fun _ _ _ h => h) (by rfl) hS0 (fun wx hS => by go_simp) ?_
  simp only [Act.put]
  refine anyL_one (i := 6) (by kernel_rfl) ?_
  refine wpOp_step rfl (fun K1 hK1 => ?_)
  go_simp
  refine HLa.out.mono ?_
  rintro e w2 ⟨rfl, q, hq⟩
  obtain ⟨k1, k2, k3, k4⟩ := HK.out q
  rw [← hq] at k1 k2 k3 k4
  have HK1 := hidD (And.intro k1 (And.intro k2 (And.intro k3 k4)))
  have hS2 : w2.cell? ⟨b, 0, none⟩ = some (.slice pf n cf) := by rw [hq]; exact r0
  clear k1 k2 k3 k4 hq
  refine hK1 _ _ ⟨fun _ => hS2, ?_⟩
  refine anyL_one (i := 7) (by kernel_rfl) ?_
  refine wpOp_step rfl (fun K2 hK2 => ?_)
  go_simp
  refine hK2 _ _ ⟨fun _ => hS2, ?_⟩
  refine anyL_one (i := 9) (by kernel_rfl) ?_
  refine wpOp_step rfl (fun K3 hK3 => ?_)
  refine step_append_h Tryz.underlying35 info_fl rfl (by decide) rfl (.tmp 11) (.tmp 12) rfl B (.slice pf k cf) k (rowF aF (fl.take k)) rfl HK1.out.1 HK1.out.2.1 g2 m c2 (rowF aF l) rfl (by rw [rowF_len, HmL.out]) HK1.out.2.2.1 (rowF_one (fun _ => rfl) _) (by have := HS.out; omega) (by have := HS.out; omega) ?_
  intro v5 w5 ho5 hg5 hn5
  have te := HK1.out.2.2.2 w5 v5 ho5 hg5
  obtain ⟨p5, c5, g5, hv5, _⟩ := orow_src ho5
  subst hv5
  have HTE := hidD te
  have q5 := (opx_cells te.1 0 rfl).1
  have y5 := (opx_cells te.1 0 rfl).2
  clear ho5 hg5 hn5 te
  refine hK3 _ _ ⟨fun _ => q5, ?_⟩
  simp only [Act.put]
  refine anyL_one (i := 10) (by kernel_rfl) ?_
  refine wpOp_step rfl (fun K4 hK4 => ?_)
  go_simp
  refine hK4 _ _ ⟨fun _ => q5, ?_⟩
  refine anyL_one (i := 11) (by kernel_rfl) ?_
  refine wpOp_step rfl (fun K5 hK5 => ?_)
  go_simp
  refine hK5 _ _ ⟨fun _ => q5, ?_⟩
  refine anyL_one (i := 12) (by kernel_rfl) ?_
  refine wpOp_step rfl (fun K6 hK6 => ?_)
  go_simp
  refine hK6 _ _ ⟨fun h => absurd h (by decide), ?_⟩
  refine anyL_done (by kernel_rfl) ?_
  exact bodyPost_end (v := .tuple #[]) (by simp [results, Tryz.results89, go_sem]) rfl ⟨rfl, ⟨_, ⟨HTE.out.2.1.box, HTE.out.2.1.flows, HTE.out.2.1.starts⟩⟩, HTE.out.2.2⟩
end Go.Proofs.YtiiajhomdpfafaaGreatDoor
