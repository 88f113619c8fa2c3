/- Package deal: a term whose word is refused, and a term above it. Package deal: Parse's deferred function catches a refused word. Package deal: Parse of the second text of awake17: a word is missing. Package deal: Print of a tree that may not be. The document's Of and Same of terms. -/
import Derived.Test.YtiiajhomdpfafaaGreatDoorHbf
import Derived.Test.YtiiajhomdpfafaaGreatDoorHbd
import Derived.Test.YtiiajhomdpfafaaGreatDoorRwJ
import Derived.Test.YtiiajhomdpfafaaGreatDoorHbc
import Derived.Test.YtiiajhomdpfafaaGreatDoorHax
import Derived.Test.YtiiajhomdpfafaaGreatDoorHau
import Derived.Deep.QuietTactic
import Derived.BigQuiet
import Derived.RegionTactic
import Derived.Deep.RegionHeld3
import Derived.Deep.RegionLaw
namespace Go.Proofs.YtiiajhomdpfafaaGreatDoor
open Go.RowKit

set_option maxRecDepth 20000 in
set_option maxHeartbeats 6400000 in
theorem termBad {s : ByteArray} {i a z : Nat} (hw : WordR s i a z) (b h : Nat) (u : Nat → Value) (tv : Value) (a0 g depth : Int) (x : ByteArray) (hx : s.extract a z = x) (hf : ∀ j < 8, ((kdG j).word.toList == x.toList) = false) (w0 w : World) (ht : TabC h u w0) (hb0 : Below w0.heap.size w0 w) (hlb : w0.heap.size ≤ b) (hR : RdB w b s (.slice (some ⟨h, 0, none⟩) 8 8) a0 i g tv) (hs : s.size ≤ 9223372036854775806) (q : Option Nat) :
    Calls Tryz.prog 26 #[.pointer (some ⟨b, 0, none⟩), .int .i64 depth] w fun e w' => e = .panicked [{ v := .iface 76 (.agg #[.int .i64 170, .int .i64 a]), recovered := false }] ∧ BelY b q w w' := by
  have HK := hidD (rdKind_bad hw b h u tv a0 g depth x hx hf w0 w ht hb0 hlb hR hs)
  clear hw hx hf ht hb0 hlb hR hs
  go_enter Tryz.func26, Tryz.ntmps26
  go_wp2_with fail
  refine HK.out.mono ?_
  rintro e w1 ⟨rfl, _, hx⟩
  go_wp2_with fail
  exact ⟨rfl, rfl, .of_x hx⟩
set_option maxRecDepth 20000 in
set_option maxHeartbeats 25600000 in
theorem termTwoP (P : RPlan) {s : ByteArray} {i : Nat} (b h : Nat) (u : Nat → Value) (g depth : Int) (w0 w : World) (a0 : Int) (v0 : Value) (ts0 : List Trm) (B : Nat) (hP : P.Ok s i w0) (hp0 : (kdG P.ix).parts = 2) (ht : TabC h u w0) (hb0 : Below w0.heap.size w0 w) (hlb : w0.heap.size ≤ b) (hR : RdB w b s (.slice (some ⟨h, 0, none⟩) 8 8) a0 i g v0) (ho : OwnT B v0 ts0 w) (hBw : B ≤ w.heap.size) (hBq : ∀ j, v0.ownBlock = some j → w0.heap.size ≤ j) (hl : ts0.length ≤ 1000) (hg0 : 0 ≤ g) (hg : g < 1024) (hd : depth ≤ 60) (hd0 : 0 ≤ depth) (m1 a1 z1 g1 : Int) (ts1 : List Trm)
    (HI1 : ∀ wx, Below w0.heap.size w0 wx → RdB wx b s (.slice (some ⟨h, 0, none⟩) 8 8) (P.at_ (kdG P.ix).ds.length) (P.po (kdG P.ix).ds.length) (g + 1) v0 → OwnT B v0 ts0 wx → B ≤ wx.heap.size → RdT b s (.slice (some ⟨h, 0, none⟩) 8 8) B v0 (depth + 1) m1 a1 z1 g1 ts1 wx) (C : List PanicEntry)
    (HI2 : ∀ v1 wx, Below w0.heap.size w0 wx → RdB wx b s (.slice (some ⟨h, 0, none⟩) 8 8) a1 z1 g1 v1 → OwnT B v1 ts1 wx → B ≤ wx.heap.size → Calls Tryz.prog 26 #[.pointer (some ⟨b, 0, none⟩), .int .i64 (depth + 1)] wx fun e w' => e = .panicked C ∧ BelY b v1.ownBlock wx w') :
    Calls Tryz.prog 26 #[.pointer (some ⟨b, 0, none⟩), .int .i64 depth] w fun e w' => e = .panicked C ∧ BelY b v0.ownBlock w w' := by
  have HK := hidD (rdKind_ok hP.kw b h u v0 a0 g depth P.ix hP.lt hP.kx hP.first w0 w ht hb0 hlb hR hP.sz (by omega) (by omega))
  obtain ⟨p, m, G, hu, hm, hG, hc⟩ := flds_cell (ht.slc P.ix hP.lt)
  have hfa : ∀ k (hk : k < (kdG P.ix).ds.length), k < m := fun k hk => by omega
  have HC := hidD hc
  have HT := hidD (And.intro ht (And.intro hb0 (And.intro hlb hG)))
  have HR := hidD hR
  have HP := hidD hP
  have HBq := hidD hBq
  have HO := hidD (And.intro ho (And.intro hBw hl))
  rw [← hm] at HI1
  have HJ1 := hidD HI1
  have HJ2 := hidD HI2
  have HRW : Hid (∃ cur T, w.heap[b]? = some (.cells cur T) ∧ T ≠ 47) := ⟨_, _, hR, by decide⟩
  have hbw : b < w.heap.size := lt_of_blk hR
  have i1 : g + 1 ≤ 1024 := by omega
  obtain ⟨num, hnum⟩ : ∃ x, (kdG P.ix).num = x := ⟨_, rfl⟩
  obtain ⟨word, hword⟩ : ∃ x, (kdG P.ix).word = x := ⟨_, rfl⟩
  obtain ⟨mf, hmn⟩ : ∃ x, (kdG P.ix).mean = x := ⟨_, rfl⟩
  have hm7 : m ≤ 7 := by rw [hm]; exact kd_few hP.lt
  have HM := hidD (And.intro hm hnum)
  unfold kV at HK
  rw [hu, hnum, hword, hp0, hmn] at HK
  unfold fnB at HK
  clear HI1 HI2 ht hb0 hlb hR hG hc hg ho hBw hl hP hfa hu hm hnum hword hmn hp0
  have hst := store_fltD
  go_enter Tryz.func26, Tryz.ntmps26
  go_wp2_with fail
  refine HK.out.mono ?_
  rintro e w1 ⟨rfl, hr, hx⟩
  obtain ⟨_, q4, _, qf⟩ := rd_cells (hr.stay (al_bel w1 (.cells #[.int .i64 num, .string word, .slice p m m, .int .i64 2, .func (.func mf) #[] #[]] 65)))
  have y4 := qf 4
  have HR1 := hidD hr
  have HX1 := hidD hx
  clear hr hx qf HK
  go_wp2_with fail
  have HS := hidD (tmS_at #[.int .i64 num, .string word, .slice p m m, .int .i64 2, .func (.func mf) #[] #[]] { trm0 with kind := num } (g + 1) HR1.out HX1.out hbw)
  unfold trC trm0 at HS
  dsimp only at HS
  clear q4 y4 HR1 HX1
  generalize hw2 : World.alloc _ _ = w2 at HS ⊢
  clear hw2
  obtain ⟨K, hK⟩ : ∃ K, w1.heap.size = K := ⟨_, rfl⟩
  obtain ⟨T, hT⟩ : ∃ T, w1.heap.size + 1 = T := ⟨_, rfl⟩
  rw [hT, hK] at HS
  rw [hT, hK]
  clear hK hT
  have HS0 : Hid (TmS w b K T s (.slice (some ⟨h, 0, none⟩) 8 8) (P.at_ 0) (P.po 0) (g + 1) v0 #[.int .i64 num, .string word, .slice p m m, .int .i64 2, .func (.func mf) #[] #[]] (P.tm 0) w2) := by rw [HP.out.tm0, HM.out.2]; exact HS
  clear HS
  go_loopw [25] (fun i wr => ∃ k : Nat, k ≤ m ∧ i = .int .i64 k ∧ Hid (TmS w b K T s (.slice (some ⟨h, 0, none⟩) 8 8) (P.at_ k) (P.po k) (g + 1) v0 #[.int .i64 num, .string word, .slice p m m, .int .i64 2, .func (.func mf) #[] #[]] (P.tm k) wr)) (fun i _ => m - (intOf i).toNat)
  case atStart => exact ⟨0, Nat.zero_le _, rfl, HS0⟩
  case round =>
    clear HS0
    obtain ⟨k, hk, rfl, HI⟩ := hrel
    by_cases hlt : k < m
    · have hlt' : k < (kdG P.ix).ds.length := by rw [← HM.out.1]; exact hlt
      obtain rfl := (HT.out.2.2.2 (by omega)).1
      have hGl := (HT.out.2.2.2 (by omega)).2
      have HBw := hidD (HI.out.bl.below HT.out.2.1 HT.out.2.2.1 HT.out.2.1.size)
      obtain ⟨x0, x1, x2, x3, HF⟩ : ∃ c0 c1 c2 c3, FCell w0 G (k * 4) ((kdG P.ix).ds[k]'hlt') c0 c1 c2 c3 := HC.out k hlt'
      obtain ⟨F0, C0, rfl, en0, hR0⟩ := HP.out.read k hlt' _ _ _ _ HF.fd
      obtain ⟨F1, C1, rfl, en1, hF1⟩ := fd_fit HF.fd (HP.out.fdi k hlt') (P.tm (k + 1)) (HP.out.tru _)
      rw [HP.out.fit k hlt'] at hF1
      obtain ⟨F3, C3, rfl, _, _⟩ := fd_clear HF.fd (HP.out.fdi k hlt')
      obtain ⟨_, _, F2, C2, _, rfl⟩ := fd_shape HF.fd
      obtain ⟨c0, c1, c2, c3, _⟩ := HF.below hGl HBw.out
      have HWd := hidD (fun wx a (hr : RdB wx b s (.slice (some ⟨h, 0, none⟩) 8 8) a (P.po k) (g + 1) v0) => word_at (HP.out.wr k hlt') b (.slice (some ⟨h, 0, none⟩) 8 8) v0 a (g + 1) (P.wd k) (HP.out.ex k hlt') wx hr HP.out.sz)
      have HRd := hidD hR0
      have HFt := hidD hF1
      have i2 : (k : Int) < (m : Int) := by omega
      have i3 : (0 : Int) ≤ (k : Int) := by omega
      have i4 : ¬ (m : Int) ≤ (k : Int) := by omega
      clear hR0 hF1 HF hGl
      go_wp2_with fail
      have HIf := hidD (HI.out.step (al_bel wr (.cells #[.func (.func F0) #[] C0, .func (.func F1) #[] C1, .func (.func F2) #[] C2, .func (.func F3) #[] C3] 98)))
      have hfb := heap_alloc_new wr (.cells #[.func (.func F0) #[] C0, .func (.func F1) #[] C1, .func (.func F2) #[] C2, .func (.func F3) #[] C3] 98)
      have hFBb : wr.heap.size ≠ b := Nat.ne_of_gt (lt_of_blk HI.out.rb)
      have hFBT : wr.heap.size ≠ T := Nat.ne_of_gt (lt_of_blk HI.out.tb)
      obtain ⟨wf, hwf⟩ : ∃ wf, wr.alloc (.cells #[.func (.func F0) #[] C0, .func (.func F1) #[] C1, .func (.func F2) #[] C2, .func (.func F3) #[] C3] 98) = wf := ⟨_, rfl⟩
      rw [hwf] at HIf hfb ⊢
      obtain ⟨FB, hFB⟩ : ∃ FB, wr.heap.size = FB := ⟨_, rfl⟩
      rw [hFB] at hfb hFBb hFBT ⊢
      have HFB := hidD hfb
      obtain ⟨f0, f1, _, _⟩ := cellF_of hfb
      clear hwf hFB hfb c0 c1 c2 c3 HBw HI
      have HWa := hidD ((HWd.out (wf.drewN 1) _ HIf.out.rb).mono fun e w' hh => (⟨hh.1, HIf.out.one ⟨hh.2.2.os, hh.2.2.tape, hh.2.2.output, hh.2.2.size, hh.2.2.out⟩ hh.2.1, (hh.2.2.out FB hFBb).trans HFB.out⟩ : e = .returned (.string (P.wd k)) ∧ TmS w b K T s (.slice (some ⟨h, 0, none⟩) 8 8) (P.at_ (k + 1)) (P.po (k + 1)) (g + 1) v0 #[.int .i64 num, .string word, .slice (some ⟨G, 0, none⟩) m m, .int .i64 2, .func (.func mf) #[] #[]] (P.tm k) w' ∧ w'.heap[FB]? = some (.cells #[.func (.func F0) #[] C0, .func (.func F1) #[] C1, .func (.func F2) #[] C2, .func (.func F3) #[] C3] 98)))
      go_region_with (first
        | (go_at_call 27; refine HWa.out.mono ?_; rintro e w2 ⟨rfl, hi2, hb2⟩; have HI2 := hidD hi2; have HF2 := hidD hb2; have HK2 := hidD (And.intro (cellF_of hb2).1 (cellF_of hb2).2.1); have k20 := (cellF_of hb2).1; have k21 := (cellF_of hb2).2.1; clear hi2 hb2)
        | (refine (HRd.out _ _ (HI2.out.bl.below HT.out.2.1 HT.out.2.2.1 HT.out.2.1.size) HI2.out.tb).mono ?_; rintro e w3 ⟨rfl, wm, hbm, hw3⟩; have HI3 : Hid (TmS w b K T s (.slice (some ⟨h, 0, none⟩) 8 8) (P.at_ (k + 1)) (P.po (k + 1)) (g + 1) v0 #[.int .i64 num, .string word, .slice (some ⟨G, 0, none⟩) m m, .int .i64 2, .func (.func mf) #[] #[]] (P.tm (k + 1)) w3) := tmG_put (HP.out.put k hlt') HI2.out hbm hw3; have HF3 := hidD (fb_put HF2.out hbm hw3 hFBT); have HK3 := hidD (And.intro (cellF_of HF3.out).1 (cellF_of HF3.out).2.1); have k30 := (cellF_of HF3.out).1; have k31 := (cellF_of HF3.out).2.1; obtain ⟨d0, d1, d2, d3, d4, d5, d6, d7, d8, d9, d10⟩ := trm_cells HI3.out.tb; clear hbm hw3)
        | (refine (HFt.out _ (HI3.out.bl.below HT.out.2.1 HT.out.2.2.1 HT.out.2.1.size)).mono ?_; rintro e w4 ⟨rfl, hb4⟩; have HI4 := hidD (HI3.out.step hb4); have HK4 := hidD (And.intro ((hb4.cell (cell_ltD HK3.out.1)).trans HK3.out.1) ((hb4.cell (cell_ltD HK3.out.2)).trans HK3.out.2)); clear hb4))
      all_goals
        clear HWa HWd HRd HFt HI2 HI3 HF2 HF3 d0 d1 d2 d3 d4 d5 d6 d7 d8 d9 d10 k20 k21 k30 k31 f0 f1 HFB HIf HK2 HK3 HK4
        simp only [Act.put, List.setIfInBounds_toArray]
        go_wp2_with fail
        go_roundw
        case rel => exact ⟨k + 1, by omega, by go_num, HI4⟩
        case measure => simp [intOf]; omega
    · obtain rfl : k = m := by omega
      have i2 : ¬ (k : Int) < (k : Int) := by omega
      obtain ⟨_, _, _, q3, _⟩ := cellK_of HI.out.kb
      have HOw : Hid (OwnT B v0 ts0 wr) := HO.out.1.keep fun q hq => HI.out.bl.block q (HO.out.1.lt q hq).2 (fun e => by
        obtain ⟨cur, T', hc, hT'⟩ := HRW.out
        exact orow_box HO.out.1 hc (Ne.symm hT') q hq e)
      have HQ0 : Hid (∀ j, v0.ownBlock = some j → j < w.heap.size) := fun j hj => (HO.out.1.lt j hj).2
      go_wp2_with fail
      refine (HJ1.out _ (HI.out.bl.below HT.out.2.1 HT.out.2.2.1 HT.out.2.1.size) HI.out.rb HOw.out (Nat.le_trans HO.out.2.1 HI.out.bl.size)).mono ?_
      rintro e w3 ⟨rfl, v3, hr3, ho3, hn3, hy3⟩
      have hTw := lt_of_blk HI.out.tb
      have hKw := lt_of_blk HI.out.kb
      have HY3 : Hid (TmY w b K T v0.ownBlock s (.slice (some ⟨h, 0, none⟩) 8 8) a1 z1 g1 v3 #[.int .i64 num, .string word, .slice p k k, .int .i64 2, .func (.func mf) #[] #[]] (P.tm k) w3) := (TmY.of_s HI.out).over hr3 hy3 (fun e => by have := HQ0.out _ e; have := HI.out.k0; omega) (fun e => by have := HQ0.out _ e; have := HI.out.t0; omega) (.inl rfl)
      have HV3 : Hid (v3.ownBlock = v0.ownBlock ∨ ∀ j, v3.ownBlock = some j → w.heap.size ≤ j) := hn3.imp id (fun hh j hj => Nat.le_trans HI.out.bl.size (hh j hj))
      have HNT : Hid (v3.ownBlock ≠ some T ∧ v3.ownBlock ≠ some K) := by
        refine ⟨fun e => ?_, fun e => ?_⟩
        · rcases hn3 with hn | hn
          · have := HQ0.out T (by rw [← hn]; exact e); have := HI.out.t0; omega
          · have := hn T e; omega
        · rcases hn3 with hn | hn
          · have := HQ0.out K (by rw [← hn]; exact e); have := HI.out.k0; omega
          · have := hn K e; omega
      have HO3 := hidD ho3
      have HZ3 : Hid (wr.heap.size ≤ w3.heap.size) := hy3.size
      have HIw : Hid (w.heap.size ≤ wr.heap.size ∧ T < wr.heap.size ∧ K < wr.heap.size) := ⟨HI.out.bl.size, hTw, hKw⟩
      clear hr3 ho3 hn3 hy3 q3 hTw hKw HJ1
      have dA := (trm_cells HY3.out.tb).2.1
      have fA := HY3.out.tb.frozen 1
      obtain ⟨w4, hw4⟩ : ∃ w4, w3.setCell ⟨T, 1, none⟩ (.int .i64 m1) = w4 := ⟨_, rfl⟩
      have HY4 : Hid (TmY w b K T v0.ownBlock s (.slice (some ⟨h, 0, none⟩) 8 8) a1 z1 g1 v3 #[.int .i64 num, .string word, .slice p k k, .int .i64 2, .func (.func mf) #[] #[]] { P.tm k with a := m1 } w4) := by
        have t := HY3.out.put 1 (.int .i64 m1) ((heap_setCell_same _ _ 1 _ _ _ HY3.out.tb).trans rfl : TrB _ T { P.tm k with a := m1 })
        rw [hw4] at t; exact t
      have HO4 : Hid (OwnT B v3 ts1 w4) := by
        show OwnT _ _ _ _
        rw [← hw4]
        exact HO3.out.keep fun q hq => blkF_far _ _ _ _ (fun e => HNT.out.1 (by have e1 : q = T := e; rw [← e1]; exact hq))
      have HZ4 : Hid (w3.heap.size = w4.heap.size) := by show _ = _; rw [← hw4, World.size_setCell]
      obtain ⟨_, _, _, q3, _⟩ := cellK_of HY4.out.kb
      have HB4 : Hid (Below w0.heap.size w0 w4) := HY4.out.bl.below HT.out.2.1 HT.out.2.2.1 (fun j hj => HBq.out j hj) HT.out.2.1.size
      go_wp2_with fail
      refine (HJ2.out v3 _ HB4.out HY4.out.rb HO4.out (Nat.le_trans HO.out.2.1 HY4.out.bl.size)).mono ?_
      rintro e w6 ⟨rfl, hy6⟩
      have HY6 : Hid (BelY b v0.ownBlock w w6) := HY4.out.bl.trans hy6 HV3.out
      clear hy6
      go_wp2_with fail
      exact ⟨rfl, rfl, HY6.out⟩
end Go.Proofs.YtiiajhomdpfafaaGreatDoor
namespace Go.Proofs.YtiiajhomdpfafaaGreatDoor
open Go.RowKit

theorem cellW2 {w : World} {g : Nat} {a b : Value} {T : TypeId} (h : w.heap[g]? = some (.cells #[a, b] T)) : w.cell? ⟨g, 0, none⟩ = some a ∧ w.cell? ⟨g, 1, none⟩ = some b := by
  refine ⟨?_, ?_⟩ <;>
  · simp only [World.cell?, h, Option.isSome_none, Bool.false_eq_true, if_false]; rfl
theorem ta17 (e0 a : Int) (w : World) : (Instr.typeAssert (.iface 76 (.agg #[.int .i64 e0, .int .i64 a])) 20 76 true).run Tryz.prog w = .ok (.tuple #[.agg #[.int .i64 e0, .int .i64 a], .bool true]) w := by kernel_rfl
set_option maxRecDepth 20000 in
set_option maxHeartbeats 3200000 in
theorem wrongWord_any (e0 a : Int) (w : World) : Calls Tryz.prog 25 #[.iface 76 (.agg #[.int .i64 e0, .int .i64 a])] w fun e w' => e = .returned (.agg #[.int .i64 e0, .int .i64 a]) ∧ Below w.heap.size w w' := by
  have HB : Hid (Below w.heap.size w ((w.alloc (.cells #[.int .i64 e0, .int .i64 a] 76)).alloc (.cells #[.int .i64 e0, .int .i64 a] 76))) := ((Below.refl _ _).alloc (Nat.le_refl _) _).alloc (by simp) _
  go_enter Tryz.func25, Tryz.ntmps25
  have hta := ta17
  go_wp2
  refine bodyPost_ret (v := .agg #[.int .i64 e0, .int .i64 a]) (by simp [results, Tryz.results25, go_sem, *]) rfl ⟨rfl, ?_⟩
  exact HB.out
set_option maxRecDepth 20000 in
set_option maxHeartbeats 6400000 in
theorem caught17 (g0 : Nat) (a : Int) (w : World) {u0 u1 u2 : Value} {T0 T1 T2 : TypeId} (r0 : w.heap[g0]? = some (.cells #[u0] T0)) (r1 : w.heap[g0 + 1]? = some (.cells #[u1] T1)) (r2 : w.heap[g0 + 1 + 1]? = some (.cells #[u2] T2)) :
    CallsD Tryz.prog 24 #[.pointer (some ⟨g0, 0, none⟩), .pointer (some ⟨g0 + 1, 0, none⟩), .pointer (some ⟨g0 + 1 + 1, 0, none⟩)] (.panicking [{ v := .iface 76 (.agg #[.int .i64 170, .int .i64 a]), recovered := false }]) w fun e u' w' => e = .returned (.tuple #[]) ∧ Go.settle u' = .returning ∧ (w'.cell? ⟨g0, 0, none⟩ = some (.slice none 0 0) ∧ w'.cell? ⟨g0 + 1, 0, none⟩ = some (.int .i64 170) ∧ w'.cell? ⟨g0 + 1 + 1, 0, none⟩ = some (.int .i64 a)) ∧ Below g0 w w' := by
  have HC := hidD (And.intro r0 (And.intro r1 r2))
  have hg := lt_of_blk r2
  have HW := hidD (wrongWord_any 170 a w)
  clear r0 r1 r2
  refine callsD_of_wpS Tryz.func24 rfl fun c₀ cs hu => ?_
  apply wpS_seq
  apply wpS_region
  simp [wpOpsS, go_sem, recoverD, hu, Tryz.ntmps24, Exit.thenS]
  refine wpS_of_wp ?_
  go_wp2_with fail
  refine HW.out.mono ?_
  rintro e w1 ⟨rfl, hb⟩
  have hb2 : Below w.heap.size w (w1.alloc (.cells #[.int .i64 170, .int .i64 a] 76)) := hb.alloc hb.size _
  have r0 := (hb2.block g0 (by omega)).trans HC.out.1
  have r1 := (hb2.block (g0 + 1) (by omega)).trans HC.out.2.1
  have r2 := (hb2.block (g0 + 1 + 1) (by omega)).trans HC.out.2.2
  have hk : w.heap.size ≤ w1.heap.size := hb.size
  obtain ⟨w2, hw2⟩ : ∃ w2, w1.alloc (.cells #[.int .i64 170, .int .i64 a] 76) = w2 := ⟨_, rfl⟩
  obtain ⟨k, hkk⟩ : ∃ k, w1.heap.size = k := ⟨_, rfl⟩
  have hx : w2.heap[k]? = some (.cells #[.int .i64 170, .int .i64 a] 76) := by rw [← hw2, ← hkk]; exact heap_alloc_new _ _
  obtain ⟨x0, x1⟩ := cellW2 hx
  rw [hw2] at hb2 r0 r1 r2
  have h0 := cell1_of r0
  have h1 := cell1_of r1
  have h2 := cell1_of r2
  have f0 : w2.frozen? ⟨g0, 0, none⟩ = false := by simp [World.frozen?, r0]
  have f1 : w2.frozen? ⟨g0 + 1, 0, none⟩ = false := by simp [World.frozen?, r1]
  have f2 : w2.frozen? ⟨g0 + 1 + 1, 0, none⟩ = false := by simp [World.frozen?, r2]
  have HR := hidD (And.intro r0 (And.intro r1 r2))
  have HB := hidD hb2
  clear hb hb2 hx r0 r1 r2
  go_wp2_with fail
  go_region_with (fail)
  all_goals
    refine ⟨rfl, _, rfl, .tuple #[], by simp [results, Tryz.results24, go_sem], rfl, rfl, ⟨?_, ?_, ?_⟩, ?_⟩
    · simp [go_sem, h0]
    · simp [go_sem, h1]
    · simp [go_sem, h2]
    · have HBg : Below g0 w w2 := HB.out.mono (show g0 ≤ w.heap.size by omega)
      exact (((HBg.setCell (p := ⟨g0, 0, none⟩) (Nat.le_refl _) _).setCell (p := ⟨g0 + 1, 0, none⟩) (by show g0 ≤ g0 + 1; omega) _).setCell (p := ⟨g0 + 1 + 1, 0, none⟩) (by show g0 ≤ g0 + 1 + 1; omega) _).drew
end Go.Proofs.YtiiajhomdpfafaaGreatDoor
namespace Go.Proofs.YtiiajhomdpfafaaGreatDoor
open Go.RowKit

def txtBz : ByteArray := ⟨#[98, 111, 116, 104, 32, 122, 101, 114, 111]⟩
theorem wrBz_0 : WordR txtBz 0 0 4 := ⟨by decide, by decide, by decide, by decide, by decide, by decide, by decide⟩
theorem wrBz_1 : WordR txtBz 4 5 9 := ⟨by decide, by decide, by decide, by decide, by decide, by decide, by decide⟩
theorem wrBz_2 : WordR txtBz 9 9 9 := ⟨by decide, by decide, by decide, by decide, by decide, by decide, by decide⟩
def plBz : RPlan := ⟨4, fun _ => 0, fun _ => 4, fun _ => ⟨#[]⟩, fun _ => 0, fun _ => .nilFunc, fun _ => ⟨5, 0, 0, 0, 0, 0, 0, 0, 0, 0, 0⟩⟩
theorem okBz (w0 : World) : plBz.Ok txtBz 0 w0 where
  lt := by decide
  first := by decide +kernel
  kw := wrBz_0
  kx := by decide
  wr := fun k hk => absurd hk (Nat.not_lt_zero k)
  ex := fun k hk => absurd hk (Nat.not_lt_zero k)
  tm0 := rfl
  put := fun k hk => absurd hk (Nat.not_lt_zero k)
  tru := fun _ => by
    show TrU ⟨5, 0, 0, 0, 0, 0, 0, 0, 0, 0, 0⟩
    exact ⟨by constructor <;> decide, by constructor <;> decide⟩
  fdi := fun k hk => absurd hk (Nat.not_lt_zero k)
  fit := fun k hk => absurd hk (Nat.not_lt_zero k)
  read := fun k hk => absurd hk (Nat.not_lt_zero k)
  sz := by decide
def plZz : RPlan := ⟨0, fun _ => 5, fun _ => 9, fun _ => ⟨#[]⟩, fun _ => 0, fun _ => .nilFunc, fun _ => ⟨1, 0, 0, 0, 0, 0, 0, 0, 0, 0, 0⟩⟩
theorem okZz (w0 : World) : plZz.Ok txtBz 4 w0 where
  lt := by decide
  first := by decide +kernel
  kw := wrBz_1
  kx := by decide
  wr := fun k hk => absurd hk (Nat.not_lt_zero k)
  ex := fun k hk => absurd hk (Nat.not_lt_zero k)
  tm0 := rfl
  put := fun k hk => absurd hk (Nat.not_lt_zero k)
  tru := fun _ => by
    show TrU ⟨1, 0, 0, 0, 0, 0, 0, 0, 0, 0, 0⟩
    exact ⟨by constructor <;> decide, by constructor <;> decide⟩
  fdi := fun k hk => absurd hk (Nat.not_lt_zero k)
  fit := fun k hk => absurd hk (Nat.not_lt_zero k)
  read := fun k hk => absurd hk (Nat.not_lt_zero k)
  sz := by decide
theorem termBz (b h : Nat) (u : Nat → Value) (w0 w : World) (ht : TabC h u w0) (hb0 : Below w0.heap.size w0 w) (hlb : w0.heap.size ≤ b) (hR : RdB w b txtBz (.slice (some ⟨h, 0, none⟩) 8 8) 0 0 0 (.slice none 0 0)) :
    Calls Tryz.prog 26 #[.pointer (some ⟨b, 0, none⟩), .int .i64 1] w fun e w' => e = .panicked [{ v := .iface 76 (.agg #[.int .i64 170, .int .i64 9]), recovered := false }] ∧ BelY b none w w' :=
  termTwoP plBz (i := 0) b h u 0 1 w0 w 0 (.slice none 0 0) [] w.heap.size (okBz w0) rfl ht hb0 hlb hR (ownT_nil _ _) (Nat.le_refl _) (fun j hj => by cases hj) (by decide) (by decide) (by decide) (by decide) (by decide) 0 5 9 2 [⟨1, 0, 0, 0, 0, 0, 0, 0, 0, 0, 0⟩] (fun wy hy hr1 ho1 hB1 =>
      termLeaf plZz (i := 4) b h u 1 2 w0 wy 0 (.slice none 0 0) [] w.heap.size (okZz w0) rfl ht hy hlb hr1 ho1 hB1 (by decide) (by decide) (by decide) (by decide)) _ fun v1 wy hy hr1 _ _ =>
    termBad wrBz_2 b h u v1 5 2 2 ⟨#[]⟩ (by decide) (by decide +kernel) w0 wy ht hy hlb hr1 (by decide) v1.ownBlock
set_option maxRecDepth 20000 in
set_option maxHeartbeats 6400000 in
theorem parseBz (w : World) :
    Calls Tryz.prog 14 #[.string txtBz] w fun e w' => e = .returned (.tuple #[.slice none 0 0, .int .i64 170, .int .i64 9]) ∧ Below w.heap.size w w' := by
  have hmf := make_fnD
  have hsz : txtBz.size = 9 := rfl
  go_enter_defers Tryz.func14, Tryz.ntmps14
  go_wp2_with fail
  have H0 := hidD (prB_at w)
  refine (kinds_any _).mono ?_
  rintro e wk ⟨v, rfl, hv, hb⟩
  obtain ⟨h, u, rfl, ht⟩ := tab_open hv
  have H1 := hidD (H0.out.step hb)
  have HTb := hidD ht
  have hwk : w.heap.size + 1 + 1 < wk.heap.size := lt_of_blk H1.out.r2
  have HWk := hidD (show w.heap.size ≤ wk.heap.size + 1 by omega)
  clear hv hb ht H0
  have hb1 := al_bel wk (.cells #[.string txtBz, .slice (some ⟨h, 0, none⟩) 8 8, .int .i64 0, .int .i64 0, .int .i64 0, .slice none 0 0] 80)
  have H2 := hidD (H1.out.step hb1)
  have HTm := hidD (termBz wk.heap.size h u wk _ HTb.out hb1 (Nat.le_refl _) (rdB_at wk txtBz (.slice (some ⟨h, 0, none⟩) 8 8)))
  have hs2 : (wk.alloc (.cells #[.string txtBz, .slice (some ⟨h, 0, none⟩) 8 8, .int .i64 0, .int .i64 0, .int .i64 0, .slice none 0 0] 80)).heap.size = wk.heap.size + 1 := by simp
  clear hb1 hsz
  go_wp2_with fail
  refine HTm.out.mono ?_
  rintro e w3 ⟨rfl, hy3⟩
  have H3 := hidD (H2.out.over (belX_of_y hy3) hwk)
  clear hy3 HTm H2 hs2 hwk
  go_wp2_with fail
  refine leaves_cons (f := 24) (args := #[.pointer (some ⟨w.heap.size, 0, none⟩), .pointer (some ⟨w.heap.size + 1, 0, none⟩), .pointer (some ⟨w.heap.size + 1 + 1, 0, none⟩)]) (by simp) (by simp [go_sem]) ?_
  refine (caught17 w.heap.size 9 w3 H3.out.r0 H3.out.r1 H3.out.r2).mono ?_
  rintro e u' w'' ⟨rfl, hu, ⟨k0, k1, k2⟩, hb⟩
  simp only [hu]
  simp [Leaves, results, Tryz.results14, go_sem, k0, k1, k2]
  exact H3.out.bl.trans hb
end Go.Proofs.YtiiajhomdpfafaaGreatDoor
namespace Go.Proofs.YtiiajhomdpfafaaGreatDoor
open Go.RowKit

set_option maxRecDepth 20000 in
theorem dPrint_bad {ts : List Trm} {D E A : Int} (hm : MesR ts D E A) (hE : E ≠ 0) (n : Nat) (p0 : Option Addr) (b off c : Nat) (w : World) (hs : TSrc w p0 b off ts) (hn : ts.length = n) (hu : ∀ i < n, TrU (ts.getD i trm0)) (hl : n ≤ 9223372036854775807) :
    Calls Tryz.prog 11 #[.slice p0 n c] w fun e w' => e = .returned (.tuple #[.string ⟨#[]⟩, .int .i64 E]) ∧ Below w.heap.size w w' := by
  have H := hidD (dCheck_is hm n p0 b off c w hs hn hu hl)
  have h0 : (E == 0) = false := beq_eq_false_iff_ne.2 hE
  clear hm hs hn hu hl hE
  go_enter Tryz.func11, Tryz.ntmps11
  go_wp2_with fail
  refine H.out.mono ?_
  rintro e w1 ⟨rfl, hb⟩
  have HB := hidD hb
  clear hb H
  go_wp2_with fail
  go_ret2
  exact ⟨rfl, HB.out⟩
end Go.Proofs.YtiiajhomdpfafaaGreatDoor
namespace Go.Proofs.YtiiajhomdpfafaaGreatDoor
open Go.RowKit

structure TDS (w : World) (p : Option Addr) (b off : Nat) (ts : List Trm) : Prop where
  at_ : 0 < ts.length → p = some ⟨b, off, none⟩
  lt : 0 < ts.length → b < w.heap.size
  c0 : ∀ i < ts.length, w.cell? ⟨b, off + i * 11, none⟩ = some (.int .i64 (ts.getD i trm0).kind)
  c1 : ∀ i < ts.length, w.cell? ⟨b, off + i * 11 + 1, none⟩ = some (.int .i64 (ts.getD i trm0).a)
  c2 : ∀ i < ts.length, w.cell? ⟨b, off + i * 11 + 2, none⟩ = some (.int .i64 (ts.getD i trm0).b)
  c3 : ∀ i < ts.length, w.cell? ⟨b, off + i * 11 + 3, none⟩ = some (.int .u64 (ts.getD i trm0).x)
  c4 : ∀ i < ts.length, w.cell? ⟨b, off + i * 11 + 4, none⟩ = some (.int .u64 (ts.getD i trm0).y)
  c5 : ∀ i < ts.length, w.cell? ⟨b, off + i * 11 + 5, none⟩ = some (.int .i64 (ts.getD i trm0).day)
  c6 : ∀ i < ts.length, w.cell? ⟨b, off + i * 11 + 6, none⟩ = some (.int .i64 (ts.getD i trm0).to)
  c7 : ∀ i < ts.length, w.cell? ⟨b, off + i * 11 + 7, none⟩ = some (.int .i64 (ts.getD i trm0).cur)
  c8 : ∀ i < ts.length, w.cell? ⟨b, off + i * 11 + 8, none⟩ = some (.int .i64 (ts.getD i trm0).count)
  c9 : ∀ i < ts.length, w.cell? ⟨b, off + i * 11 + 9, none⟩ = some (.int .i64 (ts.getD i trm0).n)
  c10 : ∀ i < ts.length, w.cell? ⟨b, off + i * 11 + 10, none⟩ = some (.int .i64 (ts.getD i trm0).months)
theorem TDS.below {w w' : World} {p : Option Addr} {b off : Nat} {ts : List Trm} (h : TDS w p b off ts) (hb : Below w.heap.size w w') : TDS w' p b off ts := by
  have k : ∀ i, i < ts.length → ∀ j, w'.cell? ⟨b, j, none⟩ = w.cell? ⟨b, j, none⟩ := fun i hi j => World.cell?_of_block (w := w) (a := ⟨b, j, none⟩) (hb.block b (h.lt (by omega)))
  exact ⟨h.at_, fun hn => Nat.lt_of_lt_of_le (h.lt hn) hb.size, fun i hi => (k i hi _).trans (h.c0 i hi), fun i hi => (k i hi _).trans (h.c1 i hi), fun i hi => (k i hi _).trans (h.c2 i hi), fun i hi => (k i hi _).trans (h.c3 i hi), fun i hi => (k i hi _).trans (h.c4 i hi), fun i hi => (k i hi _).trans (h.c5 i hi), fun i hi => (k i hi _).trans (h.c6 i hi), fun i hi => (k i hi _).trans (h.c7 i hi), fun i hi => (k i hi _).trans (h.c8 i hi), fun i hi => (k i hi _).trans (h.c9 i hi), fun i hi => (k i hi _).trans (h.c10 i hi)⟩
theorem trD_size (t : Trm) : (trD t).size = 11 := rfl
theorem trD_one (t : Trm) : ∀ u ∈ (trD t).toList, u.oneCell' = true := fun u h => by
  simp only [trD, List.mem_cons, List.not_mem_nil, or_false] at h
  rcases h with rfl | rfl | rfl | rfl | rfl | rfl | rfl | rfl | rfl | rfl | rfl <;> rfl
theorem info_trD : (Tryz.prog.info? 51).map (fun i => (i.zero, i.size, i.bytes)) = some (some (.agg #[.int .i64 0, .int .i64 0, .int .i64 0, .int .u64 0, .int .u64 0, .int .i64 0, .int .i64 0, .int .i64 0, .int .i64 0, .int .i64 0, .int .i64 0]), 11, 88) := by kernel_rfl
theorem tds_of {w : World} {B n c : Nat} {p : Option Addr} {l : List Trm} (h : w.ownsRow B 51 11 (.slice p n c) n (rowV trD l)) (hn : l.length = n) : ∃ g, TDS w p g 0 l := by
  obtain ⟨p', c', g, hv, _, _, hp, _, hb, hc, _⟩ := orow_src h
  injection hv with hv1 hv2 hv3
  subst hv1 hv3
  have hg : ∀ i < l.length, ∀ j < 11, w.cell? ⟨g, i * 11 + j, none⟩ = (trD (l.getD i trm0))[j]? := fun i hi j hj => by
    rw [hc _ (by omega), rowV_get trD_size trm0 l i j hi hj]
  refine ⟨g, ⟨fun h => hp (by omega), fun h => (hb _ (hp (by omega))).2.2, ?_, ?_, ?_, ?_, ?_, ?_, ?_, ?_, ?_, ?_, ?_⟩⟩ <;> intro i hi <;> rw [Nat.zero_add]
  · exact hg i hi 0 (by decide)
  · exact hg i hi 1 (by decide)
  · exact hg i hi 2 (by decide)
  · exact hg i hi 3 (by decide)
  · exact hg i hi 4 (by decide)
  · exact hg i hi 5 (by decide)
  · exact hg i hi 6 (by decide)
  · exact hg i hi 7 (by decide)
  · exact hg i hi 8 (by decide)
  · exact hg i hi 9 (by decide)
  · exact hg i hi 10 (by decide)
theorem takeT_next (l : List Trm) (k : Nat) (hk : k < l.length) : l.take (k + 1) = l.take k ++ [l.getD k trm0] := by
  rw [List.take_add_one, List.getElem?_eq_getElem hk]
  simp [List.getD, List.getElem?_eq_getElem hk]
set_option maxRecDepth 20000 in
set_option maxHeartbeats 12800000 in
theorem r17Of_any (l : List Trm) (N : Nat) (p : Option Addr) (b off c : Nat) (w : World) (hl : TSrc w p b off l) (hN : l.length = N) (hc : N * 88 ≤ 140737488355328) :
    Calls Tryz.prog 6 #[.slice p N c] w fun e w' => (∃ q cp, e = .returned (.slice q N cp) ∧ w'.ownsRow w.heap.size 51 11 (.slice q N cp) N (rowV trD l)) ∧ Below w.heap.size w w' := by
  have HN := hidD hN
  have HQ := hidD hl
  have HP : Hid (0 < N → p = some ⟨b, off, none⟩) := fun h => hl.at_ (by omega)
  have HC := hidD hc
  have hc2 : N ≤ 140737488355328 := by omega
  have hst := store_fltD
  have HO0 := hidD (orow_nil w.heap.size w 51 11)
  clear hl hN hc
  go_enter Tryz.func6, Tryz.ntmps6
  go_wp2_with fail
  go_loopw [3, 4] (fun g i wr => ∃ (k : Nat) (q : Option Addr) (cp : Nat), k ≤ N ∧ i = .int .i64 k ∧ g = .slice q k cp ∧ Hid (wr.ownsRow w.heap.size 51 11 (.slice q k cp) k (rowV trD (l.take k))) ∧ Hid (Below w.heap.size w wr)) (fun _ i _ => N - (intOf i).toNat)
  case atStart => exact ⟨0, none, 0, Nat.zero_le _, rfl, rfl, HO0, Below.refl _ _⟩
  case round =>
    clear HO0
    obtain ⟨k, q, cp, hk, rfl, rfl, HO, HB⟩ := hrel
    by_cases hlt : k < N
    · obtain rfl := HP.out (by omega)
      have hlt' : k < l.length := by rw [HN.out]; exact hlt
      have HQr := HQ.out.below HB.out
      have c0 := HQr.c0 k hlt'
      have c1 := HQr.c1 k hlt'
      have c2 := HQr.c2 k hlt'
      have c3 := HQr.c3 k hlt'
      have c4 := HQr.c4 k hlt'
      have c5 := HQr.c5 k hlt'
      have c6 := HQr.c6 k hlt'
      have c7 := HQr.c7 k hlt'
      have c8 := HQr.c8 k hlt'
      have c9 := HQr.c9 k hlt'
      have c10 := HQr.c10 k hlt'
      have hbl : b < wr.heap.size := Nat.lt_of_lt_of_le (HQ.out.lt (by rw [HN.out]; omega)) HB.out.size
      have HS : Hid (rowV trD (l.take (k + 1)) = rowV trD (l.take k) ++ rowV trD [l.getD k trm0]) := by
        show _ = _
        rw [takeT_next l k hlt', rowV_append]
      obtain ⟨f, hf⟩ : ∃ f, l.getD k trm0 = f := ⟨_, rfl⟩
      rw [hf] at HS c0 c1 c2 c3 c4 c5 c6 c7 c8 c9 c10
      clear hf HQr hlt'
      obtain ⟨qk, qa, qb, qx, qy, qd, qt, qc, qo, qn, qm⟩ := f
      dsimp only at *
      have hbn : b ≠ wr.heap.size := Nat.ne_of_lt hbl
      have g3 : (0 : Int) ≤ (k : Int) := by omega
      have g4 : (k : Int) < (N : Int) := by omega
      go_wp2_with fail
      have HT1 : Hid ((wr.alloc (.cells #[.int .i64 qk, .int .i64 qa, .int .i64 qb, .float .f64 qx, .float .f64 qy, .int .i64 qd, .int .i64 qt, .int .i64 qc, .int .i64 qo, .int .i64 qn, .int .i64 qm] 47)).heap[wr.heap.size]? = some (.cells #[.int .i64 qk, .int .i64 qa, .int .i64 qb, .float .f64 qx, .float .f64 qy, .int .i64 qd, .int .i64 qt, .int .i64 qc, .int .i64 qo, .int .i64 qn, .int .i64 qm] 47)) := heap_alloc_new _ _
      have HBa : Hid (Below wr.heap.size wr (wr.alloc (.cells #[.int .i64 qk, .int .i64 qa, .int .i64 qb, .float .f64 qx, .float .f64 qy, .int .i64 qd, .int .i64 qt, .int .i64 qc, .int .i64 qo, .int .i64 qn, .int .i64 qm] 47))) := (Below.refl _ _).alloc (Nat.le_refl _) _
      have hs1 : (wr.alloc (.cells #[.int .i64 qk, .int .i64 qa, .int .i64 qb, .float .f64 qx, .float .f64 qy, .int .i64 qd, .int .i64 qt, .int .i64 qc, .int .i64 qo, .int .i64 qn, .int .i64 qm] 47)).heap.size = wr.heap.size + 1 := by simp
      obtain ⟨R, hR⟩ : ∃ R, wr.heap.size = R := ⟨_, rfl⟩
      obtain ⟨w1, hw1⟩ : ∃ w1, wr.alloc (.cells #[.int .i64 qk, .int .i64 qa, .int .i64 qb, .float .f64 qx, .float .f64 qy, .int .i64 qd, .int .i64 qt, .int .i64 qc, .int .i64 qo, .int .i64 qn, .int .i64 qm] 47) = w1 := ⟨_, rfl⟩
      rw [hw1] at HT1 HBa hs1 ⊢
      have HR := hidD hs1
      have hRR := hidD hR
      rw [hR] at HT1 ⊢
      have HB1 := hidD (HB.out.trans (HBa.out.mono HB.out.size))
      have HO1 := hidD (orow_below HO.out HBa.out)
      have HNe : Hid (some R ≠ (Value.slice q k cp).ownBlock) := fun e => by have := (HO.out.lt R e.symm).2; have := hRR.out; omega
      clear hw1 hR hs1 c0 c1 c2 c3 c4 c5 c6 c7 c8 c9 c10 hbl hbn HB HO HBa
      have z0 := (opx_cells HT1.out 0 rfl).1
      have z1 := (opx_cells HT1.out 1 rfl).1
      have z2 := (opx_cells HT1.out 2 rfl).1
      have z3 := (opx_cells HT1.out 3 rfl).1
      have z4 := (opx_cells HT1.out 4 rfl).1
      have z5 := (opx_cells HT1.out 5 rfl).1
      have z6 := (opx_cells HT1.out 6 rfl).1
      have z7 := (opx_cells HT1.out 7 rfl).1
      have z8 := (opx_cells HT1.out 8 rfl).1
      have z9 := (opx_cells HT1.out 9 rfl).1
      have z10 := (opx_cells HT1.out 10 rfl).1
      have HBw := hidD ((Below.refl w1.heap.size w1).drew.alloc (Nat.le_refl _) (.cells #[.int .i64 qk, .int .i64 qa, .int .i64 qb, .int .u64 (qx : Int), .int .u64 (qy : Int), .int .i64 qd, .int .i64 qt, .int .i64 qc, .int .i64 qo, .int .i64 qn, .int .i64 qm] 51))
      have HO4 := hidD (orow_below HO1.out HBw.out)
      have HB4 := hidD (HB1.out.trans (HBw.out.mono HB1.out.size))
      have HFc : Hid (∀ j u, (rowV trD [⟨qk, qa, qb, qx, qy, qd, qt, qc, qo, qn, qm⟩])[j]? = some u → (w1.drew.alloc (.cells #[.int .i64 qk, .int .i64 qa, .int .i64 qb, .int .u64 (qx : Int), .int .u64 (qy : Int), .int .i64 qd, .int .i64 qt, .int .i64 qc, .int .i64 qo, .int .i64 qn, .int .i64 qm] 51)).cell? ⟨w1.heap.size, j, none⟩ = some u) := by
        intro j u hj
        have e : rowV trD [⟨qk, qa, qb, qx, qy, qd, qt, qc, qo, qn, qm⟩] = (#[.int .i64 qk, .int .i64 qa, .int .i64 qb, .int .u64 (qx : Int), .int .u64 (qy : Int), .int .i64 qd, .int .i64 qt, .int .i64 qc, .int .i64 qo, .int .i64 qn, .int .i64 qm] : Array Value).toList := by simp [rowV, trD]
        rw [e] at hj
        exact new_cells w1.drew _ 51 j u hj
      have HK : Hid ((w1.drew.alloc (.cells #[.int .i64 qk, .int .i64 qa, .int .i64 qb, .int .u64 (qx : Int), .int .u64 (qy : Int), .int .i64 qd, .int .i64 qt, .int .i64 qc, .int .i64 qo, .int .i64 qn, .int .i64 qm] 51)).cell? ⟨R, 0, none⟩ = some (.int .i64 qk) ∧ (w1.drew.alloc (.cells #[.int .i64 qk, .int .i64 qa, .int .i64 qb, .int .u64 (qx : Int), .int .u64 (qy : Int), .int .i64 qd, .int .i64 qt, .int .i64 qc, .int .i64 qo, .int .i64 qn, .int .i64 qm] 51)).cell? ⟨R, 1, none⟩ = some (.int .i64 qa) ∧ (w1.drew.alloc (.cells #[.int .i64 qk, .int .i64 qa, .int .i64 qb, .int .u64 (qx : Int), .int .u64 (qy : Int), .int .i64 qd, .int .i64 qt, .int .i64 qc, .int .i64 qo, .int .i64 qn, .int .i64 qm] 51)).cell? ⟨R, 2, none⟩ = some (.int .i64 qb) ∧ (w1.drew.alloc (.cells #[.int .i64 qk, .int .i64 qa, .int .i64 qb, .int .u64 (qx : Int), .int .u64 (qy : Int), .int .i64 qd, .int .i64 qt, .int .i64 qc, .int .i64 qo, .int .i64 qn, .int .i64 qm] 51)).cell? ⟨R, 3, none⟩ = some (.float .f64 qx) ∧ (w1.drew.alloc (.cells #[.int .i64 qk, .int .i64 qa, .int .i64 qb, .int .u64 (qx : Int), .int .u64 (qy : Int), .int .i64 qd, .int .i64 qt, .int .i64 qc, .int .i64 qo, .int .i64 qn, .int .i64 qm] 51)).cell? ⟨R, 4, none⟩ = some (.float .f64 qy) ∧ (w1.drew.alloc (.cells #[.int .i64 qk, .int .i64 qa, .int .i64 qb, .int .u64 (qx : Int), .int .u64 (qy : Int), .int .i64 qd, .int .i64 qt, .int .i64 qc, .int .i64 qo, .int .i64 qn, .int .i64 qm] 51)).cell? ⟨R, 5, none⟩ = some (.int .i64 qd) ∧ (w1.drew.alloc (.cells #[.int .i64 qk, .int .i64 qa, .int .i64 qb, .int .u64 (qx : Int), .int .u64 (qy : Int), .int .i64 qd, .int .i64 qt, .int .i64 qc, .int .i64 qo, .int .i64 qn, .int .i64 qm] 51)).cell? ⟨R, 6, none⟩ = some (.int .i64 qt) ∧ (w1.drew.alloc (.cells #[.int .i64 qk, .int .i64 qa, .int .i64 qb, .int .u64 (qx : Int), .int .u64 (qy : Int), .int .i64 qd, .int .i64 qt, .int .i64 qc, .int .i64 qo, .int .i64 qn, .int .i64 qm] 51)).cell? ⟨R, 7, none⟩ = some (.int .i64 qc) ∧ (w1.drew.alloc (.cells #[.int .i64 qk, .int .i64 qa, .int .i64 qb, .int .u64 (qx : Int), .int .u64 (qy : Int), .int .i64 qd, .int .i64 qt, .int .i64 qc, .int .i64 qo, .int .i64 qn, .int .i64 qm] 51)).cell? ⟨R, 8, none⟩ = some (.int .i64 qo) ∧ (w1.drew.alloc (.cells #[.int .i64 qk, .int .i64 qa, .int .i64 qb, .int .u64 (qx : Int), .int .u64 (qy : Int), .int .i64 qd, .int .i64 qt, .int .i64 qc, .int .i64 qo, .int .i64 qn, .int .i64 qm] 51)).cell? ⟨R, 9, none⟩ = some (.int .i64 qn) ∧ (w1.drew.alloc (.cells #[.int .i64 qk, .int .i64 qa, .int .i64 qb, .int .u64 (qx : Int), .int .u64 (qy : Int), .int .i64 qd, .int .i64 qt, .int .i64 qc, .int .i64 qo, .int .i64 qn, .int .i64 qm] 51)).cell? ⟨R, 10, none⟩ = some (.int .i64 qm)) := by
        refine ⟨?_, ?_, ?_, ?_, ?_, ?_, ?_, ?_, ?_, ?_, ?_⟩ <;> (rw [World.cell?_of_block (w := w1) (HBw.out.block _ (by rw [HR.out]; rw [← hRR.out]; exact Nat.lt_succ_self _))]; assumption)
      have HKf : Hid (∀ x : World, x.heap[R]? = (w1.drew.alloc (.cells #[.int .i64 qk, .int .i64 qa, .int .i64 qb, .int .u64 (qx : Int), .int .u64 (qy : Int), .int .i64 qd, .int .i64 qt, .int .i64 qc, .int .i64 qo, .int .i64 qn, .int .i64 qm] 51)).heap[R]? → x.cell? ⟨R, 0, none⟩ = some (.int .i64 qk) ∧ x.cell? ⟨R, 1, none⟩ = some (.int .i64 qa) ∧ x.cell? ⟨R, 2, none⟩ = some (.int .i64 qb) ∧ x.cell? ⟨R, 3, none⟩ = some (.float .f64 qx) ∧ x.cell? ⟨R, 4, none⟩ = some (.float .f64 qy) ∧ x.cell? ⟨R, 5, none⟩ = some (.int .i64 qd) ∧ x.cell? ⟨R, 6, none⟩ = some (.int .i64 qt) ∧ x.cell? ⟨R, 7, none⟩ = some (.int .i64 qc) ∧ x.cell? ⟨R, 8, none⟩ = some (.int .i64 qo) ∧ x.cell? ⟨R, 9, none⟩ = some (.int .i64 qn) ∧ x.cell? ⟨R, 10, none⟩ = some (.int .i64 qm)) := fun x hx => by
        obtain ⟨k0, k1, k2, k3, k4, k5, k6, k7, k8, k9, k10⟩ := HK.out
        exact ⟨(World.cell?_of_block (a := ⟨R, 0, none⟩) hx).trans k0, (World.cell?_of_block (a := ⟨R, 1, none⟩) hx).trans k1, (World.cell?_of_block (a := ⟨R, 2, none⟩) hx).trans k2, (World.cell?_of_block (a := ⟨R, 3, none⟩) hx).trans k3, (World.cell?_of_block (a := ⟨R, 4, none⟩) hx).trans k4, (World.cell?_of_block (a := ⟨R, 5, none⟩) hx).trans k5, (World.cell?_of_block (a := ⟨R, 6, none⟩) hx).trans k6, (World.cell?_of_block (a := ⟨R, 7, none⟩) hx).trans k7, (World.cell?_of_block (a := ⟨R, 8, none⟩) hx).trans k8, (World.cell?_of_block (a := ⟨R, 9, none⟩) hx).trans k9, (World.cell?_of_block (a := ⟨R, 10, none⟩) hx).trans k10⟩
      have hRl : R < (w1.drew.alloc (.cells #[.int .i64 qk, .int .i64 qa, .int .i64 qb, .int .u64 (qx : Int), .int .u64 (qy : Int), .int .i64 qd, .int .i64 qt, .int .i64 qc, .int .i64 qo, .int .i64 qn, .int .i64 qm] 51)).heap.size := by have := HR.out; have := hRR.out; simp; omega
      have HRl := hidD hRl
      clear hRl
      go_region_held3 (fun x => x.cell? ⟨R, 0, none⟩ = some (.int .i64 qk) ∧ x.cell? ⟨R, 1, none⟩ = some (.int .i64 qa) ∧ x.cell? ⟨R, 2, none⟩ = some (.int .i64 qb) ∧ x.cell? ⟨R, 3, none⟩ = some (.float .f64 qx) ∧ x.cell? ⟨R, 4, none⟩ = some (.float .f64 qy) ∧ x.cell? ⟨R, 5, none⟩ = some (.int .i64 qd) ∧ x.cell? ⟨R, 6, none⟩ = some (.int .i64 qt) ∧ x.cell? ⟨R, 7, none⟩ = some (.int .i64 qc) ∧ x.cell? ⟨R, 8, none⟩ = some (.int .i64 qo) ∧ x.cell? ⟨R, 9, none⟩ = some (.int .i64 qn) ∧ x.cell? ⟨R, 10, none⟩ = some (.int .i64 qm)) (first | exact HK.out | exact HK5.out | go_keep) (first | (go_at_call 15; (with_reducible refine (turned (bits_any qx _)).mono ?_); rintro e wb ⟨rfl, rfl⟩) | (go_at_call 15; (with_reducible refine (turned (bits_any qy _)).mono ?_); rintro e wb ⟨rfl, rfl⟩) | (refine step_append_g Tryz.underlying24 info_trD rfl (by decide) rfl (.tmp 16) (.tmp 42) rfl w.heap.size (.slice q k cp) k (rowV trD (l.take k)) rfl HO4.out HB4.out.size w1.heap.size 1 1 (rowV trD [⟨qk, qa, qb, qx, qy, qd, qt, qc, qo, qn, qm⟩]) rfl rfl HFc.out (rowV_one trD_one _) (by omega) (by have := HC.out; omega) ?_; intro v5 w5 ho5 hg5; rw [← HS.out] at ho5; have HB5 := hidD (HB4.out.trans (orow_grown HO4.out hg5 HB4.out.size)); obtain ⟨q5, k5, g5, hv5, _, _, hp5, _⟩ := orow_src ho5; obtain rfl := hp5 (by omega); subst hv5; clear hp5; have HO5 := hidD ho5; have HK5 := hidD (HKf.out w5 (hg5.block R HRl.out HNe.out)); clear ho5 hg5))
      all_goals
        go_wp2_with fail
        go_roundw
        case rel => exact ⟨k + 1, some ⟨g5, 0, none⟩, k5, by omega, by go_num, rfl, HO5, HB5⟩
        case measure => simp [intOf]; omega
    · obtain rfl : k = N := by omega
      go_wp2_with fail
      go_ret
      refine ⟨⟨_, _, rfl, ?_⟩, HB.out⟩
      have := HO.out
      rw [← HN.out, List.take_length, HN.out] at this
      exact this
end Go.Proofs.YtiiajhomdpfafaaGreatDoor
