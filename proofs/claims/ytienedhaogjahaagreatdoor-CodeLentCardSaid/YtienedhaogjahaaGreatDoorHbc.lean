/- Package deal: the term 'pay 1 1 2030-01-01' is read. Package deal: a term that gives what stands behind it is read. Package deal: Check of the trees of awake18. Package code: Back of no code. Package code: the op of a term. The document's side of an op: small functions. -/
import Derived.Test.YtienedhaogjahaaGreatDoorHba
import Derived.Deep.RegionLaw
import Derived.Test.YtienedhaogjahaaGreatDoorHax
namespace Go.Proofs.YtienedhaogjahaaGreatDoor
open Go.RowKit

theorem RdB.begun {w : World} {b : Nat} {s : ByteArray} {kv tv : Value} {a n g : Int} (h : RdB w b s kv a n g tv) (x : Int) : RdB (w.setCell ⟨b, 4, none⟩ (.int .i64 x)) b s kv a n x tv := (heap_setCell_same w b 4 _ _ _ h).trans rfl
theorem RdB.terms {w : World} {b : Nat} {s : ByteArray} {kv tv : Value} {a n g : Int} (h : RdB w b s kv a n g tv) (v : Value) : RdB (w.setCell ⟨b, 5, none⟩ v) b s kv a n g v := (heap_setCell_same w b 5 _ _ _ h).trans rfl
theorem OneB.one (b : Nat) (w : World) (i : Nat) (v : Value) : OneB b w (w.setCell ⟨b, i, none⟩ v) := (OneB.refl b w).set i v
structure TmS (w : World) (b K T : Nat) (s : ByteArray) (kv : Value) (a n g : Int) (tv : Value) (kc : Array Value) (t : Trm) (wr : World) : Prop where
  rb : RdB wr b s kv a n g tv
  kb : wr.heap[K]? = some (.cells kc 145)
  tb : TrB wr T t
  bl : BelX b w wr
  k0 : w.heap.size ≤ K
  t0 : w.heap.size ≤ T
  kt : K ≠ T
  b0 : b < w.heap.size
theorem TmS.step {w : World} {b K T : Nat} {s : ByteArray} {kv : Value} {a n g : Int} {tv : Value} {kc : Array Value} {t : Trm} {wr w' : World} (h : TmS w b K T s kv a n g tv kc t wr) (hb : Below wr.heap.size wr w') : TmS w b K T s kv a n g tv kc t w' := ⟨h.rb.stay hb, (hb.block _ (lt_of_blk h.kb)).trans h.kb, h.tb.below hb, h.bl.trans (.of_below hb), h.k0, h.t0, h.kt, h.b0⟩
theorem TmS.one {w : World} {b K T : Nat} {s : ByteArray} {kv : Value} {a n g a' n' g' : Int} {tv tv' : Value} {kc : Array Value} {t : Trm} {wr w' : World} (h : TmS w b K T s kv a n g tv kc t wr) (ho : OneB b wr w') (hr : RdB w' b s kv a' n' g' tv') : TmS w b K T s kv a' n' g' tv' kc t w' :=
  ⟨hr, (ho.out K (by have := h.k0; have := h.b0; omega)).trans h.kb, (ho.out T (by have := h.t0; have := h.b0; omega)).trans h.tb, h.bl.trans (.of_one ho), h.k0, h.t0, h.kt, h.b0⟩
theorem TmS.put {w : World} {b K T : Nat} {s : ByteArray} {kv : Value} {a n g : Int} {tv : Value} {kc : Array Value} {t t' : Trm} {wr : World} (h : TmS w b K T s kv a n g tv kc t wr) (i : Nat) (v : Value) (ht : TrB (wr.setCell ⟨T, i, none⟩ v) T t') : TmS w b K T s kv a n g tv kc t' (wr.setCell ⟨T, i, none⟩ v) := by
  have hb := h.b0
  have hT := h.t0
  have hp := (Below.refl w.heap.size wr).setCell (p := ⟨T, i, none⟩) hT v
  exact ⟨(blkF_far _ _ _ _ (by show b ≠ T; omega)).trans h.rb, (blkF_far _ _ _ _ h.kt).trans h.kb, ht, ⟨hp.os.trans h.bl.os, hp.tape.trans h.bl.tape, hp.output.trans h.bl.output, Nat.le_trans h.bl.size hp.size, fun k hk hn => (hp.block k hk).trans (h.bl.block k hk hn)⟩, h.k0, hT, h.kt, hb⟩
theorem tmS_at {w w1 : World} {b : Nat} {s : ByteArray} {kv : Value} {a n g : Int} {tv : Value} (kc : Array Value) (t : Trm) (x : Int) (hr : RdB w1 b s kv a n g tv) (hx : BelX b w w1) (hb : b < w.heap.size) :
    TmS w b w1.heap.size (w1.heap.size + 1) s kv a n x tv kc t (((w1.alloc (.cells kc 145)).setCell ⟨b, 4, none⟩ (.int .i64 x)).alloc (.cells (trC t) 50)) := by
  have s1 := hx.size
  have hr1 := (hr.stay (al_bel w1 (.cells kc 145))).begun x
  have o1 := OneB.one b (w1.alloc (.cells kc 145)) 4 (.int .i64 x)
  have sz : ((w1.alloc (.cells kc 145)).setCell ⟨b, 4, none⟩ (.int .i64 x)).heap.size = w1.heap.size + 1 := by rw [o1.size, sz_al]
  refine ⟨hr1.stay (al_bel _ _), ?_, ?_, (hx.trans (.of_below (al_bel _ _))).trans ((BelX.of_one o1).trans (.of_below (al_bel _ _))), s1, by omega, by omega, hb⟩
  · rw [al_at, sz, if_neg (by omega), o1.out _ (by omega)]
    exact heap_alloc_new _ _
  · unfold TrB
    rw [al_at, sz, if_pos rfl]
theorem tmP_put {w : World} {b K T k : Nat} {s : ByteArray} {kv : Value} {a n g : Int} {tv : Value} {kc : Array Value} {w2 wm w3 : World} (hk : k < 3) (h : TmS w b K T s kv a n g tv kc (tmP k) w2) (hb : Below w2.heap.size w2 wm) (e : w3 = wm.setCell ⟨T, ixP k, none⟩ (vlP k)) : TmS w b K T s kv a n g tv kc (tmP (k + 1)) w3 := by
  subst e
  exact (h.step hb).put _ _ (TrB.putP hk (h.step hb).tb)
theorem fb_put {w2 wm w3 : World} {FB T i : Nat} {v : Value} {o : Obj} (h : w2.heap[FB]? = some o) (hb : Below w2.heap.size w2 wm) (e : w3 = wm.setCell ⟨T, i, none⟩ v) (hn : FB ≠ T) : w3.heap[FB]? = some o := by
  subst e
  exact (blkF_far _ _ _ _ hn).trans ((hb.block _ (lt_of_blk h)).trans h)
theorem term_end {w w5 wn : World} {b g5 c5 n5 B : Nat} {s : ByteArray} {kv : Value} {a n g : Int} {tv : Value} {ts : List Trm} (hr : RdB wn b s kv a n g tv) (hx : BelX b w wn) (ho : OwnT B (.slice (some ⟨g5, 0, none⟩) n5 c5) ts w5) (hg : ∀ k, k < wn.heap.size → w5.heap[k]? = wn.heap[k]?) (hw : wn.heap.size ≤ w5.heap.size ∧ w5.os = wn.os ∧ w5.tape = wn.tape ∧ w5.output = wn.output) :
    RdB w5 b s kv a n g tv ∧ RdB (w5.setCell ⟨b, 5, none⟩ (.slice (some ⟨g5, 0, none⟩) n5 c5)) b s kv a n g (.slice (some ⟨g5, 0, none⟩) n5 c5) ∧ OwnT B (.slice (some ⟨g5, 0, none⟩) n5 c5) ts (w5.setCell ⟨b, 5, none⟩ (.slice (some ⟨g5, 0, none⟩) n5 c5)) ∧ BelX b w (w5.setCell ⟨b, 5, none⟩ (.slice (some ⟨g5, 0, none⟩) n5 c5)) := by
  have h5 : RdB w5 b s kv a n g tv := (hg b (lt_of_blk hr)).trans hr
  have hbg : b ≠ g5 := fun e => by
    subst e
    rcases ho.shape with ⟨h, _⟩ | ⟨g', c', h, _, cur, hc⟩
    · cases h
    · injection h with h _ _
      injection h with h
      injection h with h _ _
      subst h
      unfold RdB at h5
      rw [h5] at hc
      injection hc with hc
      injection hc with _ hc
      exact absurd hc (by decide)
  refine ⟨h5, h5.terms _, ho.keep fun k hk => ?_, (hx.trans (BelX.of_below ⟨hw.2.1, hw.2.2.1, hw.2.2.2, hw.1, hg⟩)).trans (.of_one (OneB.one b w5 5 _))⟩
  have : g5 = k := by simpa [Value.ownBlock] using hk
  exact blkF_far _ _ _ _ (by show k ≠ b; omega)
def kcP (u : Value) : Array Value := #[.int .i64 2, .string ⟨#[112, 97, 121]⟩, u, .int .i64 0, .func (.func 72) #[] #[]]
set_option maxRecDepth 20000 in
set_option maxHeartbeats 12800000 in
theorem termPay (b h : Nat) (u : Nat → Value) (g depth : Int) (w0 w : World) (a0 : Int) (ht : TabC h u w0) (hb0 : Below w0.heap.size w0 w) (hlb : w0.heap.size ≤ b) (hR : RdB w b txt18 (.slice (some ⟨h, 0, none⟩) 8 8) a0 9 g (.slice none 0 0)) (hg0 : 0 ≤ g) (hg : g < 1024) (hd : depth ≤ 64) {bp op cp : Nat} (hp : PfT 6 5 9 bp op cp w0) :
    Calls Tryz.prog 38 #[.pointer (some ⟨b, 0, none⟩), .int .i64 depth] w fun e w' => e = .returned (.int .i64 0) ∧ ∃ v, RdB w' b txt18 (.slice (some ⟨h, 0, none⟩) 8 8) 18 28 (g + 1) v ∧ OwnT w.heap.size v [tmP 3] w' ∧ BelX b w w' := by
  have HK := hidD (rdKind_ok wr18_9 b h u (.slice none 0 0) a0 g depth 1 (by decide) (by decide) (by decide +kernel) w0 w ht hb0 hlb hR (by decide) (by omega) hd)
  obtain ⟨p, m, G, hu, hm, hG, hc⟩ := flds_cell (ht.slc 1 (by decide))
  have hm3 : m = 3 := hm
  subst hm3
  obtain ⟨rfl, hGl⟩ := hG (by decide)
  have HC := hidD hc
  have HT := hidD (And.intro ht (And.intro hb0 (And.intro hlb (And.intro hp hGl))))
  have HR := hidD hR
  have hbw : b < w.heap.size := lt_of_blk hR
  have i1 : g + 1 ≤ 1024 := by omega
  clear ht hb0 hlb hp hR hm hc hG hg hd hGl
  unfold kV at HK
  rw [hu] at HK
  clear hu
  have hst := store_fltD
  go_enter Tryz.func38, Tryz.ntmps38
  go_wp2_with fail
  refine HK.out.mono ?_
  rintro e w1 ⟨rfl, hr, hx⟩
  obtain ⟨_, q4, _, qf⟩ := rd_cells (hr.stay (al_bel w1 (.cells (kcP (.slice (some ⟨G, 0, none⟩) 3 3)) 145)))
  have y4 := qf 4
  have HR1 := hidD hr
  have HX1 := hidD hx
  unfold kcP at q4 y4
  clear hr hx qf HK
  have e0 : (kdG 1).num = 2 := rfl
  have e1 : (kdG 1).word = ⟨#[112, 97, 121]⟩ := rfl
  have e2 : (kdG 1).parts = 0 := rfl
  have e3 : fnB (kdG 1).mean = .func (.func 72) #[] #[] := rfl
  rw [e0, e1, e2, e3]
  clear e0 e1 e2 e3
  go_wp2_with fail
  have HS := hidD (tmS_at (kcP (.slice (some ⟨G, 0, none⟩) 3 3)) (tmP 0) (g + 1) HR1.out HX1.out hbw)
  unfold kcP trC tmP at HS
  simp only [if_pos] at HS
  clear q4 y4 HR1 HX1
  generalize hw2 : World.alloc _ _ = w2 at HS ⊢
  clear hw2
  obtain ⟨K, hK⟩ : ∃ K, w1.heap.size = K := ⟨_, rfl⟩
  obtain ⟨T, hT⟩ : ∃ T, w1.heap.size + 1 = T := ⟨_, rfl⟩
  rw [hT, hK] at HS
  rw [hT, hK]
  clear hK hT
  have HS0 : Hid (TmS w b K T txt18 (.slice (some ⟨h, 0, none⟩) 8 8) (atP 0) (poP 0) (g + 1) (.slice none 0 0) (kcP (.slice (some ⟨G, 0, none⟩) 3 3)) (tmP 0) w2) := HS
  clear HS
  go_loopw [25] (fun i wr => ∃ k : Nat, k ≤ 3 ∧ i = .int .i64 k ∧ Hid (TmS w b K T txt18 (.slice (some ⟨h, 0, none⟩) 8 8) (atP k) (poP k) (g + 1) (.slice none 0 0) (kcP (.slice (some ⟨G, 0, none⟩) 3 3)) (tmP k) wr)) (fun i _ => 3 - (intOf i).toNat)
  case atStart => exact ⟨0, Nat.zero_le _, rfl, HS0⟩
  case round =>
    clear HS0
    obtain ⟨k, hk, rfl, HI⟩ := hrel
    by_cases hlt : k < 3
    · have HBw := hidD (HI.out.bl.below HT.out.2.1 HT.out.2.2.1 HT.out.2.1.size)
      obtain ⟨x0, x1, x2, x3, HF⟩ : ∃ c0 c1 c2 c3, FCell w0 G (k * 4) (dsP[k]'hlt) c0 c1 c2 c3 := HC.out k hlt
      obtain ⟨F0, C0, rfl, en0, hR0⟩ := fd_readP hlt HF.fd HT.out.2.2.2.1
      obtain ⟨F1, C1, rfl, en1, hF1⟩ := fd_fit HF.fd (fdI_P hlt) (tmP (k + 1)) (truP _)
      rw [fitP hlt] at hF1
      obtain ⟨F3, C3, rfl, _, _⟩ := fd_clear HF.fd (fdI_P hlt)
      obtain ⟨_, _, F2, C2, _, rfl⟩ := fd_shape HF.fd
      obtain ⟨c0, c1, c2, c3, _⟩ := HF.below HT.out.2.2.2.2 HBw.out
      have HWd := hidD (fun wx a (hr : RdB wx b txt18 (.slice (some ⟨h, 0, none⟩) 8 8) a (poP k) (g + 1) (.slice none 0 0)) => word_at (wrP hlt) b (.slice (some ⟨h, 0, none⟩) 8 8) (.slice none 0 0) a (g + 1) (wdP k) (exP hlt) wx hr (by decide))
      have HRd := hidD hR0
      have HFt := hidD hF1
      have i2 : (k : Int) < 3 := by omega
      clear hR0 hF1 HF
      go_wp2_with fail
      have HIf := hidD (HI.out.step (al_bel wr (.cells #[.func (.func F0) #[] C0, .func (.func F1) #[] C1, .func (.func F2) #[] C2, .func (.func F3) #[] C3] 134)))
      have hfb := heap_alloc_new wr (.cells #[.func (.func F0) #[] C0, .func (.func F1) #[] C1, .func (.func F2) #[] C2, .func (.func F3) #[] C3] 134)
      have hFBb : wr.heap.size ≠ b := Nat.ne_of_gt (lt_of_blk HI.out.rb)
      have hFBT : wr.heap.size ≠ T := Nat.ne_of_gt (lt_of_blk HI.out.tb)
      obtain ⟨wf, hwf⟩ : ∃ wf, wr.alloc (.cells #[.func (.func F0) #[] C0, .func (.func F1) #[] C1, .func (.func F2) #[] C2, .func (.func F3) #[] C3] 134) = wf := ⟨_, rfl⟩
      rw [hwf] at HIf hfb ⊢
      obtain ⟨FB, hFB⟩ : ∃ FB, wr.heap.size = FB := ⟨_, rfl⟩
      rw [hFB] at hfb hFBb hFBT ⊢
      have HFB := hidD hfb
      obtain ⟨f0, f1, _, _⟩ := cellF_of hfb
      clear hwf hFB hfb c0 c1 c2 c3 HBw HI
      have HWa := hidD ((HWd.out (wf.drewN 1) _ HIf.out.rb).mono fun e w' hh => (⟨hh.1, HIf.out.one ⟨hh.2.2.os, hh.2.2.tape, hh.2.2.output, hh.2.2.size, hh.2.2.out⟩ hh.2.1, (hh.2.2.out FB hFBb).trans HFB.out⟩ : e = .returned (.string (wdP k)) ∧ TmS w b K T txt18 (.slice (some ⟨h, 0, none⟩) 8 8) (atP (k + 1)) (poP (k + 1)) (g + 1) (.slice none 0 0) (kcP (.slice (some ⟨G, 0, none⟩) 3 3)) (tmP k) w' ∧ w'.heap[FB]? = some (.cells #[.func (.func F0) #[] C0, .func (.func F1) #[] C1, .func (.func F2) #[] C2, .func (.func F3) #[] C3] 134)))
      go_region_with (first
        | (go_at_call 39; refine HWa.out.mono ?_; rintro e w2 ⟨rfl, hi2, hb2⟩; have HI2 := hidD hi2; have HF2 := hidD hb2; have HK2 := hidD (And.intro (cellF_of hb2).1 (cellF_of hb2).2.1); have k20 := (cellF_of hb2).1; have k21 := (cellF_of hb2).2.1; clear hi2 hb2)
        | (refine (HRd.out _ _ (HI2.out.bl.below HT.out.2.1 HT.out.2.2.1 HT.out.2.1.size) HI2.out.tb).mono ?_; rintro e w3 ⟨rfl, wm, hbm, hw3⟩; have HI3 : Hid (TmS w b K T txt18 (.slice (some ⟨h, 0, none⟩) 8 8) (atP (k + 1)) (poP (k + 1)) (g + 1) (.slice none 0 0) (kcP (.slice (some ⟨G, 0, none⟩) 3 3)) (tmP (k + 1)) w3) := tmP_put hlt HI2.out hbm hw3; have HF3 := hidD (fb_put HF2.out hbm hw3 hFBT); have HK3 := hidD (And.intro (cellF_of HF3.out).1 (cellF_of HF3.out).2.1); have k30 := (cellF_of HF3.out).1; have k31 := (cellF_of HF3.out).2.1; obtain ⟨d0, d1, d2, d3, d4, d5, d6, d7, d8, d9, d10⟩ := trm_cells HI3.out.tb; clear hbm hw3)
        | (refine (HFt.out _ (HI3.out.bl.below HT.out.2.1 HT.out.2.2.1 HT.out.2.1.size)).mono ?_; rintro e w4 ⟨rfl, hb4⟩; have HI4 := hidD (HI3.out.step hb4); have HK4 := hidD (And.intro ((hb4.cell (cell_ltD HK3.out.1)).trans HK3.out.1) ((hb4.cell (cell_ltD HK3.out.2)).trans HK3.out.2)); clear hb4))
      all_goals
        clear HWa HWd HRd HFt HI2 HI3 HF2 HF3 d0 d1 d2 d3 d4 d5 d6 d7 d8 d9 d10 k20 k21 k30 k31 f0 f1 HFB HIf HK2 HK3 HK4
        simp only [Act.put, List.setIfInBounds_toArray]
        go_wp2_with fail
        go_roundw
        case rel => exact ⟨k + 1, by omega, by simp, HI4⟩
        case measure => simp [intOf]; omega
    · obtain rfl : k = 3 := by omega
      have i2 : ¬ ((3 : Nat) : Int) < 3 := by omega
      obtain ⟨_, _, _, q3, _⟩ := cellK_of HI.out.kb
      obtain ⟨_, _, r5, rf⟩ := rd_cells HI.out.rb
      obtain ⟨d0, d1, d2, d3, d4, d5, d6, d7, d8, d9, d10⟩ := trm_cells HI.out.tb
      have hbl := lt_of_blk HI.out.rb
      have hbn := Nat.ne_of_lt hbl
      have hTl := lt_of_blk HI.out.tb
      have hTn := Nat.ne_of_lt hTl
      have HRA := hidD (HI.out.rb.stay (al_bel wr (.cells #[.int .i64 (tmP 3).kind, .int .i64 (tmP 3).a, .int .i64 (tmP 3).b, .float .f64 (tmP 3).x, .float .f64 (tmP 3).y, .int .i64 (tmP 3).day, .int .i64 (tmP 3).to, .int .i64 (tmP 3).cur, .int .i64 (tmP 3).count, .int .i64 (tmP 3).n, .int .i64 (tmP 3).months] 50)))
      have HXA := hidD (HI.out.bl.trans (.of_below (al_bel wr (.cells #[.int .i64 (tmP 3).kind, .int .i64 (tmP 3).a, .int .i64 (tmP 3).b, .float .f64 (tmP 3).x, .float .f64 (tmP 3).y, .int .i64 (tmP 3).day, .int .i64 (tmP 3).to, .int .i64 (tmP 3).cur, .int .i64 (tmP 3).count, .int .i64 (tmP 3).n, .int .i64 (tmP 3).months] 50))))
      clear rf
      go_wp2_with fail
      go_region_law (refine step_append_tm rfl (.tmp 65) (.tmp 67) rfl w.heap.size (.slice none 0 0) [] rfl (ownT_nil _ _) (Nat.le_trans HI.out.bl.size (by simp)) wr.heap.size (tmP 3) rfl (heap_alloc_new _ _) (by simp) ?_; intro v5 w5 ho5 hg5; obtain ⟨g5, c5, rfl⟩ := ho5.full (by simp); have te := term_end HRA.out HXA.out ho5 (fun k hk => hg5.block k hk (by simp [Value.ownBlock])) ⟨hg5.size, hg5.os, hg5.tape, hg5.output⟩; have HTE := hidD te; have q5 := (rd_cells te.1).2.2.1; have y5 := (rd_cells te.1).2.2.2 5; have q6 := (rd_cells te.2.1).2.2.1; clear ho5 hg5 te)
      all_goals
        simp only [List.length_append, List.length_cons, List.length_nil] at HTE q6
        go_wp2_with fail
        go_ret
        exact ⟨rfl, _, HTE.out.2.1, HTE.out.2.2.1, HTE.out.2.2.2⟩
end Go.Proofs.YtienedhaogjahaaGreatDoor
namespace Go.Proofs.YtienedhaogjahaaGreatDoor
open Go.RowKit

def giveT (m : Int) : Trm := ⟨4, m, 0, 0, 0, 0, 0, 0, 0, 0, 0⟩
def kcG : Array Value := #[.int .i64 4, .string ⟨#[103, 105, 118, 101]⟩, .slice none 0 0, .int .i64 1, .func (.func 75) #[] #[]]
theorem term_end2 {w w5 wn : World} {b g5 c5 n5 B q : Nat} {s : ByteArray} {kv : Value} {a n g : Int} {tv : Value} {ts : List Trm} (hr : RdB wn b s kv a n g tv) (hx : BelX b w wn) (hq : w.heap.size ≤ q) (hqb : q ≠ b) (ho : OwnT B (.slice (some ⟨g5, 0, none⟩) n5 c5) ts w5) (hg : ∀ k, k < wn.heap.size → k ≠ q → w5.heap[k]? = wn.heap[k]?) (hw : wn.heap.size ≤ w5.heap.size ∧ w5.os = wn.os ∧ w5.tape = wn.tape ∧ w5.output = wn.output) :
    RdB w5 b s kv a n g tv ∧ RdB (w5.setCell ⟨b, 5, none⟩ (.slice (some ⟨g5, 0, none⟩) n5 c5)) b s kv a n g (.slice (some ⟨g5, 0, none⟩) n5 c5) ∧ OwnT B (.slice (some ⟨g5, 0, none⟩) n5 c5) ts (w5.setCell ⟨b, 5, none⟩ (.slice (some ⟨g5, 0, none⟩) n5 c5)) ∧ BelX b w (w5.setCell ⟨b, 5, none⟩ (.slice (some ⟨g5, 0, none⟩) n5 c5)) := by
  have h5 : RdB w5 b s kv a n g tv := (hg b (lt_of_blk hr) (Ne.symm hqb)).trans hr
  have hbg : b ≠ g5 := fun e => by
    subst e
    rcases ho.shape with ⟨h, _⟩ | ⟨g', c', h, _, cur, hc⟩
    · cases h
    · injection h with h _ _
      injection h with h
      injection h with h _ _
      subst h
      unfold RdB at h5
      rw [h5] at hc
      injection hc with hc
      injection hc with _ hc
      exact absurd hc (by decide)
  have s1 := hx.size
  have hx5 : BelX b w w5 := ⟨hw.2.1.trans hx.os, hw.2.2.1.trans hx.tape, hw.2.2.2.trans hx.output, Nat.le_trans s1 hw.1, fun k hk hn => (hg k (by omega) (by omega)).trans (hx.block k hk hn)⟩
  refine ⟨h5, h5.terms _, ho.keep fun k hk => ?_, hx5.trans (.of_one (OneB.one b w5 5 _))⟩
  have : g5 = k := by simpa [Value.ownBlock] using hk
  exact blkF_far _ _ _ _ (by show k ≠ b; omega)
theorem tmS_over {w wr w' : World} {b K T : Nat} {s : ByteArray} {kv : Value} {a n g a' n' g' : Int} {tv tv' : Value} {kc : Array Value} {t : Trm} (h : TmS w b K T s kv a n g tv kc t wr) (hr : RdB w' b s kv a' n' g' tv') (hx : BelX b wr w') : TmS w b K T s kv a' n' g' tv' kc t w' :=
  ⟨hr, (hx.block K (lt_of_blk h.kb) (by have := h.k0; have := h.b0; omega)).trans h.kb, (hx.block T (lt_of_blk h.tb) (by have := h.t0; have := h.b0; omega)).trans h.tb, h.bl.trans hx, h.k0, h.t0, h.kt, h.b0⟩
set_option maxRecDepth 20000 in
set_option maxHeartbeats 12800000 in
theorem termGive {i a z : Nat} (hw : WordR txt18 i a z) (hx : txt18.extract a z = ⟨#[103, 105, 118, 101]⟩) (b h : Nat) (u : Nat → Value) (g depth : Int) (w0 w : World) (a0 : Int) (ht : TabC h u w0) (hb0 : Below w0.heap.size w0 w) (hlb : w0.heap.size ≤ b) (hR : RdB w b txt18 (.slice (some ⟨h, 0, none⟩) 8 8) a0 i g (.slice none 0 0)) (hg0 : 0 ≤ g) (hg : g < 1000) (hd : depth ≤ 60) (hd0 : 0 ≤ depth) (m a1 z1 g1 : Int) (ts : List Trm) (hts : ts ≠ []) (hl : ts.length ≤ 100)
    (HI : ∀ wx, Below w0.heap.size w0 wx → RdB wx b txt18 (.slice (some ⟨h, 0, none⟩) 8 8) a z (g + 1) (.slice none 0 0) → Calls Tryz.prog 38 #[.pointer (some ⟨b, 0, none⟩), .int .i64 (depth + 1)] wx fun e w' => e = .returned (.int .i64 m) ∧ ∃ v, RdB w' b txt18 (.slice (some ⟨h, 0, none⟩) 8 8) a1 z1 g1 v ∧ OwnT wx.heap.size v ts w' ∧ BelX b wx w') :
    Calls Tryz.prog 38 #[.pointer (some ⟨b, 0, none⟩), .int .i64 depth] w fun e w' => e = .returned (.int .i64 ts.length) ∧ ∃ v, RdB w' b txt18 (.slice (some ⟨h, 0, none⟩) 8 8) a1 z1 g1 v ∧ OwnT w.heap.size v (ts ++ [giveT m]) w' ∧ BelX b w w' := by
  have HK := hidD (rdKind_ok hw b h u (.slice none 0 0) a0 g depth 3 (by decide) (hx.trans rfl) (by decide +kernel) w0 w ht hb0 hlb hR (by decide) (by omega) (by omega))
  have hu : u 3 = .slice none 0 0 := by
    rcases ht.slc 3 (by decide) with ⟨_, h⟩ | ⟨h, _⟩
    · exact h
    · exact absurd h (by decide)
  have HT := hidD (And.intro ht (And.intro hb0 hlb))
  have HJ := hidD HI
  have HTs := hidD (And.intro hts hl)
  have hbw : b < w.heap.size := lt_of_blk hR
  have i1 : g + 1 ≤ 1000 := by omega
  clear ht hb0 hlb hR HI hx hw hg hts
  unfold kV at HK
  rw [hu] at HK
  clear hu
  have hst := store_fltD
  go_enter Tryz.func38, Tryz.ntmps38
  go_wp2_with fail
  refine HK.out.mono ?_
  rintro e w1 ⟨rfl, hr, hx⟩
  obtain ⟨_, q4, _, qf⟩ := rd_cells (hr.stay (al_bel w1 (.cells kcG 145)))
  have y4 := qf 4
  have HR1 := hidD hr
  have HX1 := hidD hx
  unfold kcG at q4 y4
  clear hr hx qf HK
  have e0 : (kdG 3).num = 4 := rfl
  have e1 : (kdG 3).word = ⟨#[103, 105, 118, 101]⟩ := rfl
  have e2 : (kdG 3).parts = 1 := rfl
  have e3 : fnB (kdG 3).mean = .func (.func 75) #[] #[] := rfl
  rw [e0, e1, e2, e3]
  clear e0 e1 e2 e3
  go_wp2_with fail
  have HS := hidD (tmS_at kcG (giveT 0) (g + 1) HR1.out HX1.out hbw)
  unfold kcG trC giveT at HS
  clear q4 y4 HR1 HX1
  generalize hw2 : World.alloc _ _ = w2 at HS ⊢
  clear hw2
  obtain ⟨K, hK⟩ : ∃ K, w1.heap.size = K := ⟨_, rfl⟩
  obtain ⟨T, hT⟩ : ∃ T, w1.heap.size + 1 = T := ⟨_, rfl⟩
  rw [hT, hK] at HS
  rw [hT, hK]
  clear hK hT
  have HS0 : Hid (TmS w b K T txt18 (.slice (some ⟨h, 0, none⟩) 8 8) a z (g + 1) (.slice none 0 0) kcG (giveT 0) w2) := HS
  clear HS
  refine wp_loop_rounds 1 ?_
  rw [rounds_succ]
  obtain ⟨_, _, _, q3, _⟩ := cellK_of HS0.out.kb
  go_wp2_with fail
  refine (HJ.out _ (HS0.out.bl.below HT.out.2.1 HT.out.2.2 HT.out.2.1.size) HS0.out.rb).mono ?_
  rintro e w3 ⟨rfl, v3, hr3, ho3, hx3⟩
  have HS3 := hidD (tmS_over HS0.out hr3 hx3)
  have dA := (trm_cells HS3.out.tb).2.1
  have fA := HS3.out.tb.frozen 1
  have HS4 := hidD (HS3.out.put 1 (.int .i64 m) ((heap_setCell_same _ _ 1 _ _ _ HS3.out.tb).trans rfl : TrB _ T (giveT m)))
  have HO3 := hidD ho3
  have HX3 := hidD hx3
  clear hr3 ho3 hx3 q3
  obtain ⟨w4, hw4⟩ : ∃ w4, w3.setCell ⟨T, 1, none⟩ (.int .i64 m) = w4 := ⟨_, rfl⟩
  rw [hw4] at HS4
  have HW4 := hidD hw4
  obtain ⟨_, _, _, q3, _⟩ := cellK_of HS4.out.kb
  obtain ⟨q, c, rfl⟩ := HO3.out.full HTs.out.1
  have hT2 : T < w2.heap.size := lt_of_blk HS0.out.tb
  have hb2 : b < w2.heap.size := lt_of_blk HS0.out.rb
  have hq2 : w2.heap.size ≤ q := HO3.out.base
  have HO4 : Hid (OwnT w2.heap.size (.slice (some ⟨q, 0, none⟩) ts.length c) ts w4) := by
    show OwnT _ _ _ _
    rw [← HW4.out]
    exact HO3.out.keep fun k hk => by
      have : q = k := by simpa [Value.ownBlock] using hk
      exact blkF_far _ _ _ _ (by show k ≠ T; omega)
  obtain ⟨_, _, r5, _⟩ := rd_cells HS4.out.rb
  obtain ⟨d0, d1, d2, d3, d4, d5, d6, d7, d8, d9, d10⟩ := trm_cells HS4.out.tb
  unfold giveT at d0 d1 d2 d3 d4 d5 d6 d7 d8 d9 d10
  have hbl := lt_of_blk HS4.out.rb
  have hbn := Nat.ne_of_lt hbl
  have hTl := lt_of_blk HS4.out.tb
  have hTn := Nat.ne_of_lt hTl
  have HRA := hidD (HS4.out.rb.stay (al_bel w4 (.cells #[.int .i64 4, .int .i64 m, .int .i64 0, .float .f64 0, .float .f64 0, .int .i64 0, .int .i64 0, .int .i64 0, .int .i64 0, .int .i64 0, .int .i64 0] 50)))
  have HXA := hidD (HS4.out.bl.trans (.of_below (al_bel w4 (.cells #[.int .i64 4, .int .i64 m, .int .i64 0, .float .f64 0, .float .f64 0, .int .i64 0, .int .i64 0, .int .i64 0, .int .i64 0, .int .i64 0, .int .i64 0] 50))))
  have HOA := hidD (HO4.out.below (al_bel w4 (.cells #[.int .i64 4, .int .i64 m, .int .i64 0, .float .f64 0, .float .f64 0, .int .i64 0, .int .i64 0, .int .i64 0, .int .i64 0, .int .i64 0, .int .i64 0] 50)))
  have HQ := hidD (And.intro (Nat.le_trans HS0.out.bl.size hq2) (And.intro (show q ≠ b by omega) (Nat.le_trans HS3.out.bl.size (show w3.heap.size ≤ w4.heap.size by rw [← HW4.out, World.size_setCell]; exact Nat.le_refl _))))
  have HW2 := hidD (show w2.heap.size ≤ w4.heap.size by rw [← HW4.out, World.size_setCell]; exact HX3.out.size)
  clear hT2 hb2 hq2
  go_wp2_with fail
  go_region_law (refine step_append_tm rfl (.tmp 65) (.tmp 67) rfl w2.heap.size (.slice (some ⟨q, 0, none⟩) ts.length c) ts rfl HOA.out (Nat.le_trans HW2.out (by simp)) w4.heap.size (giveT m) rfl (heap_alloc_new _ _) (by have := HTs.out.2; omega) ?_; intro v5 w5 ho5 hg5; obtain ⟨g5, c5, rfl⟩ := ho5.full (by simp); have te := term_end2 HRA.out HXA.out HQ.out.1 HQ.out.2.1 ho5 (fun k hk hn => hg5.block k hk (by simp [Value.ownBlock]; omega)) ⟨hg5.size, hg5.os, hg5.tape, hg5.output⟩; have HTE := hidD te; have q5 := (rd_cells te.1).2.2.1; have y5 := (rd_cells te.1).2.2.2 5; have q6 := (rd_cells te.2.1).2.2.1; clear ho5 hg5 te)
  all_goals
    have hl1 := HTs.out.2
    have hw2 := HS0.out.bl.size
    simp only [List.length_append, List.length_cons, List.length_nil] at HTE q6
    have e9 : (((ts.length + 1 : Nat) : Int) - 1) = (ts.length : Int) := by omega
    go_wp2_with fail
    go_ret
    exact ⟨by go_num, _, HTE.out.2.1, HTE.out.2.2.1.lower hw2, HTE.out.2.2.2⟩
end Go.Proofs.YtienedhaogjahaaGreatDoor
namespace Go.Proofs.YtienedhaogjahaaGreatDoor
open Go.RowKit

theorem eq_num (k : Int) (hk : k = 1 ∨ k = 2 ∨ k = 4) (w : World) : (binOp .eql 50 (.agg #[.int .i64 k, .int .i64 0, .int .i64 0, .float .f64 0, .float .f64 0, .int .i64 0, .int .i64 0, .int .i64 0, .int .i64 0, .int .i64 0, .int .i64 0]) (.agg #[.int .i64 k, .int .i64 0, .int .i64 0, .float .f64 0, .float .f64 0, .int .i64 0, .int .i64 0, .int .i64 0, .int .i64 0, .int .i64 0, .int .i64 0])).run Tryz.prog w = .ok (.bool true) w := by
  rcases hk with rfl | rfl | rfl <;> kernel_rfl
theorem fitPay {u : Nat → Value} {w0 w : World} {h : Nat} (ht : TabC h u w0) (hb : Below w0.heap.size w0 w) : Calls Tryz.prog 82 #[kV (kdG 1) (u 1), .agg (trC (tmP 3))] w fun e w' => e = .returned (.bool true) ∧ Below w.heap.size w w' :=
  kFits_ok (kdG 1) (u 1) [3, 7, 5] (tmP 3) w (truP 3) ((ht.below hb).slc 1 (by decide)) rfl (fun j hj => by
      rcases (show j = 0 ∨ j = 1 ∨ j = 2 by have : j < 3 := hj; omega) with rfl | rfl | rfl
      · exact fdI_X
      · exact fdI_Cur
      · exact fdI_From) (fun j hj => by
      rcases (show j = 0 ∨ j = 1 ∨ j = 2 by have : j < 3 := hj; omega) with rfl | rfl | rfl <;> decide) (fun j hj => by
      rcases (show j = 0 ∨ j = 1 ∨ j = 2 by have : j < 3 := hj; omega) with rfl | rfl | rfl
      · exact (by decide : fdFit fdX 3 (tmP 3) = true)
      · exact (by decide : fdFit fdCur 7 (tmP 3) = true)
      · exact (by decide : fdFit fdFrom 5 (tmP 3) = true)) rfl (by decide) (fun w => eq_num 2 (by decide) w)
theorem fitGive {u : Nat → Value} {w0 w : World} {h : Nat} (a : Int) (ht : TabC h u w0) (hb : Below w0.heap.size w0 w) : Calls Tryz.prog 82 #[kV (kdG 3) (u 3), .agg (trC (giveT a))] w fun e w' => e = .returned (.bool true) ∧ Below w.heap.size w w' :=
  kFits_ok (kdG 3) (u 3) [] (giveT a) w ⟨(by constructor <;> decide : U64 ((0 : Nat) : Int)), (by constructor <;> decide : U64 ((0 : Nat) : Int))⟩ ((ht.below hb).slc 3 (by decide)) rfl (fun j hj => absurd hj (by show ¬ j < 0; omega)) (fun j hj => absurd hj (by show ¬ j < 0; omega)) (fun j hj => absurd hj (by show ¬ j < 0; omega)) rfl (by decide) (fun w => eq_num 4 (by decide) w)
def zeroT : Trm := ⟨1, 0, 0, 0, 0, 0, 0, 0, 0, 0, 0⟩
theorem fitZero {u : Nat → Value} {w0 w : World} {h : Nat} (ht : TabC h u w0) (hb : Below w0.heap.size w0 w) : Calls Tryz.prog 82 #[kV (kdG 0) (u 0), .agg (trC zeroT)] w fun e w' => e = .returned (.bool true) ∧ Below w.heap.size w w' :=
  kFits_ok (kdG 0) (u 0) [] zeroT w ⟨by constructor <;> decide, by constructor <;> decide⟩ ((ht.below hb).slc 0 (by decide)) rfl (fun j hj => absurd hj (by show ¬ j < 0; omega)) (fun j hj => absurd hj (by show ¬ j < 0; omega)) (fun j hj => absurd hj (by show ¬ j < 0; omega)) rfl (by decide) (fun w => eq_num 1 (by decide) w)
def tree18 : List Trm := [tmP 3, giveT 0, giveT 1]
def stk18 (k : Nat) : List (Int × Int) := if k = 0 then [] else if k = 1 then [(0, 1)] else if k = 2 then [(1, 2)] else [(2, 3)]
theorem ms18 {u : Nat → Value} {w0 : World} {h : Nat} (ht : TabC h u w0) (k : Nat) (hk : k < 3) : MsR w0 w0.heap.size u (tree18.getD k trm0) (if k = 0 then 1 else 3) (if k = 0 then 0 else 1) k (stk18 k) (stk18 (k + 1)) := by
  rcases (show k = 0 ∨ k = 1 ∨ k = 2 by omega) with rfl | rfl | rfl
  · exact ⟨by decide, by decide, by decide, by decide, fun wx hx => fitPay ht hx, fun v g wx ho hB _ => joined_0 _ v [] 0 g wx ho hB (by decide)⟩
  · exact ⟨by decide, by decide, by decide, by decide, fun wx hx => fitGive 0 ht hx, fun v g wx ho hB hp => joined_1 _ v [] (0, 1) 1 0 g wx ho hB (by decide) hp (by decide) (by decide)⟩
  · exact ⟨by decide, by decide, by decide, by decide, fun wx hx => fitGive 1 ht hx, fun v g wx ho hB hp => joined_1 _ v [] (1, 2) 2 0 g wx ho hB (by decide) hp (by decide) (by decide)⟩
theorem measure18 (g c : Nat) (w : World) (hs : TmR w g tree18) : Calls Tryz.prog 41 #[.slice (some ⟨g, 0, none⟩) 3 c] w fun e w' => e = .returned (.tuple #[.int .i64 3, .int .i64 0, .int .i64 0]) ∧ Below w.heap.size w w' :=
  measure_ok tree18 3 g c rfl (by decide) (by decide) stk18 _ _ 3 rfl rfl (by decide) w hs (fun _ _ _ ht k hk => ms18 ht k hk)
theorem measureZ (g c : Nat) (w : World) (hs : TmR w g [zeroT]) : Calls Tryz.prog 41 #[.slice (some ⟨g, 0, none⟩) 1 c] w fun e w' => e = .returned (.tuple #[.int .i64 1, .int .i64 0, .int .i64 0]) ∧ Below w.heap.size w w' :=
  measure_ok [zeroT] 1 g c rfl (by decide) (by decide) (fun k => if k = 0 then [] else [(0, 1)]) (fun _ => 0) (fun _ => 0) 1 rfl rfl (by decide) w hs (fun _ _ _ ht k hk => by
    obtain rfl : k = 0 := by omega
    exact ⟨by decide, by decide, by decide, by decide, fun wx hx => fitZero ht hx, fun v g wx ho hB _ => joined_0 _ v [] 0 g wx ho hB (by decide)⟩)
set_option maxRecDepth 20000 in
theorem check_of (v : Value) (d : Int) (w : World) (hm : Calls Tryz.prog 41 #[v] w fun e w' => e = .returned (.tuple #[.int .i64 d, .int .i64 0, .int .i64 0]) ∧ Below w.heap.size w w') : Calls Tryz.prog 21 #[v] w fun e w' => e = .returned (.tuple #[.int .i64 0, .int .i64 0]) ∧ Below w.heap.size w w' := by
  have H := hidD hm
  clear hm
  go_enter Tryz.func21, Tryz.ntmps21
  go_wp2_with fail
  refine H.out.mono ?_
  rintro e w1 ⟨rfl, hb⟩
  have HB := hidD hb
  clear hb
  go_wp2_with fail
  go_ret2
  exact ⟨rfl, HB.out⟩
end Go.Proofs.YtienedhaogjahaaGreatDoor
namespace Go.Proofs.YtienedhaogjahaaGreatDoor
open Go.RowKit

def BdB (w : World) (b : Nat) (tv pv : Value) : Prop := w.heap[b]? = some (.cells #[tv, pv] 108)
theorem bd_cells {w : World} {b : Nat} {tv pv : Value} (h : BdB w b tv pv) : w.cell? ⟨b, 0, none⟩ = some tv ∧ w.cell? ⟨b, 1, none⟩ = some pv ∧ ∀ i, w.frozen? ⟨b, i, none⟩ = false := by
  unfold BdB at h
  refine ⟨?_, ?_, fun i => by simp [World.frozen?, h]⟩ <;>
  · simp only [World.cell?, h, Option.isSome_none, Bool.false_eq_true, if_false]; rfl
theorem BdB.terms {w : World} {b : Nat} {tv pv : Value} (h : BdB w b tv pv) (v : Value) : BdB (w.setCell ⟨b, 0, none⟩ v) b v pv := (heap_setCell_same w b 0 _ _ _ h).trans rfl
theorem BdB.pieces {w : World} {b : Nat} {tv pv : Value} (h : BdB w b tv pv) (v : Value) : BdB (w.setCell ⟨b, 1, none⟩ v) b tv v := (heap_setCell_same w b 1 _ _ _ h).trans rfl
theorem BdB.stay {w w' : World} {b : Nat} {tv pv : Value} (h : BdB w b tv pv) (hb : Below w.heap.size w w') : BdB w' b tv pv := (hb.block _ (lt_of_blk h)).trans h
theorem bd_end {w w5 wn : World} {b g5 c5 n5 B : Nat} {tv pv : Value} {ts : List Trm} (hr : BdB wn b tv pv) (hx : BelX b w wn) (ho : OwnT B (.slice (some ⟨g5, 0, none⟩) n5 c5) ts w5) (hg : ∀ k, k < wn.heap.size → w5.heap[k]? = wn.heap[k]?) (hw : wn.heap.size ≤ w5.heap.size ∧ w5.os = wn.os ∧ w5.tape = wn.tape ∧ w5.output = wn.output) :
    BdB w5 b tv pv ∧ BdB (w5.setCell ⟨b, 0, none⟩ (.slice (some ⟨g5, 0, none⟩) n5 c5)) b (.slice (some ⟨g5, 0, none⟩) n5 c5) pv ∧ OwnT B (.slice (some ⟨g5, 0, none⟩) n5 c5) ts (w5.setCell ⟨b, 0, none⟩ (.slice (some ⟨g5, 0, none⟩) n5 c5)) ∧ BelX b w (w5.setCell ⟨b, 0, none⟩ (.slice (some ⟨g5, 0, none⟩) n5 c5)) := by
  have h5 : BdB w5 b tv pv := (hg b (lt_of_blk hr)).trans hr
  have hbg : b ≠ g5 := fun e => by
    subst e
    rcases ho.shape with ⟨h, _⟩ | ⟨g', c', h, _, cur, hc⟩
    · cases h
    · injection h with h _ _
      injection h with h
      injection h with h _ _
      subst h
      unfold BdB at h5
      rw [h5] at hc
      injection hc with hc
      injection hc with _ hc
      exact absurd hc (by decide)
  refine ⟨h5, h5.terms _, ho.keep fun k hk => ?_, (hx.trans (BelX.of_below ⟨hw.2.1, hw.2.2.1, hw.2.2.2, hw.1, hg⟩)).trans (.of_one (OneB.one b w5 0 _))⟩
  have : g5 = k := by simpa [Value.ownBlock] using hk
  exact blkF_far _ _ _ _ (by show k ≠ b; omega)
set_option maxRecDepth 20000 in
set_option maxHeartbeats 6400000 in
theorem cAdd_nil (b : Nat) (pv : Value) (w : World) (h : BdB w b (.slice none 0 0) pv) :
    Calls Tryz.prog 51 #[.pointer (some ⟨b, 0, none⟩), .agg #[.int .i64 1, .int .i64 0, .int .i64 0, .float .f64 0, .float .f64 0, .int .i64 0, .int .i64 0, .int .i64 0, .int .i64 0, .int .i64 0, .int .i64 0]] w fun e w' => e = .returned (.int .i64 0) ∧ ∃ v, BdB w' b v pv ∧ OwnT w.heap.size v [zeroT] w' ∧ BelX b w w' := by
  have hbw := lt_of_blk h
  have hbn := Nat.ne_of_lt hbw
  have H1 := hidD (h.stay (al_bel w (.cells (trC zeroT) 50)))
  have HT1 : Hid (TrB (w.alloc (.cells (trC zeroT) 50)) w.heap.size zeroT) := heap_alloc_new _ _
  have HX1 := hidD (BelX.of_below (b := b) (al_bel w (.cells (trC zeroT) 50)))
  have hst := store_fltD
  clear h
  unfold trC zeroT at H1 HX1
  go_enter Tryz.func51, Tryz.ntmps51
  go_wp2_with fail
  have HT2 : Hid (TrB (w.alloc (.cells #[.int .i64 1, .int .i64 0, .int .i64 0, .float .f64 0, .float .f64 0, .int .i64 0, .int .i64 0, .int .i64 0, .int .i64 0, .int .i64 0, .int .i64 0] 50)) w.heap.size zeroT) := HT1
  clear HT1
  have hs1 : (w.alloc (.cells #[.int .i64 1, .int .i64 0, .int .i64 0, .float .f64 0, .float .f64 0, .int .i64 0, .int .i64 0, .int .i64 0, .int .i64 0, .int .i64 0, .int .i64 0] 50)).heap.size = w.heap.size + 1 := by simp
  obtain ⟨w1, hw1⟩ : ∃ w1, w.alloc (.cells #[.int .i64 1, .int .i64 0, .int .i64 0, .float .f64 0, .float .f64 0, .int .i64 0, .int .i64 0, .int .i64 0, .int .i64 0, .int .i64 0, .int .i64 0] 50) = w1 := ⟨_, rfl⟩
  rw [hw1] at H1 HX1 HT2 hs1 ⊢
  obtain ⟨r0, _, rf⟩ := bd_cells H1.out
  obtain ⟨d0, d1, d2, d3, d4, d5, d6, d7, d8, d9, d10⟩ := trm_cells HT2.out
  unfold zeroT at d0 d1 d2 d3 d4 d5 d6 d7 d8 d9 d10
  have hb1 : b < w1.heap.size := by omega
  have hb2 := Nat.ne_of_lt hb1
  have hT1 : w.heap.size < w1.heap.size := by omega
  have hT2 := Nat.ne_of_lt hT1
  have HSz := hidD (show w.heap.size ≤ w1.heap.size by omega)
  clear hw1 rf hs1
  have HRA := hidD (H1.out.stay (al_bel w1 (.cells #[.int .i64 1, .int .i64 0, .int .i64 0, .float .f64 0, .float .f64 0, .int .i64 0, .int .i64 0, .int .i64 0, .int .i64 0, .int .i64 0, .int .i64 0] 50)))
  have HXA := hidD (HX1.out.trans (.of_below (al_bel w1 (.cells #[.int .i64 1, .int .i64 0, .int .i64 0, .float .f64 0, .float .f64 0, .int .i64 0, .int .i64 0, .int .i64 0, .int .i64 0, .int .i64 0, .int .i64 0] 50))))
  go_region_law (refine step_append_tm rfl (.tmp 9) (.tmp 11) rfl w.heap.size (.slice none 0 0) [] rfl (ownT_nil _ _) (Nat.le_trans HSz.out (by simp)) w1.heap.size zeroT rfl (heap_alloc_new _ _) (by simp) ?_; intro v5 w5 ho5 hg5; obtain ⟨g5, c5, rfl⟩ := ho5.full (by simp); have te := bd_end HRA.out HXA.out ho5 (fun k hk => hg5.block k hk (by simp [Value.ownBlock])) ⟨hg5.size, hg5.os, hg5.tape, hg5.output⟩; have HTE := hidD te; have q5 := (bd_cells te.1).1; have y5 := (bd_cells te.1).2.2 0; have q6 := (bd_cells te.2.1).1; clear ho5 hg5 te)
  all_goals
    simp only [List.length_append, List.length_cons, List.length_nil] at HTE q6
    go_wp2_with fail
    go_ret
    exact ⟨rfl, _, HTE.out.2.1, HTE.out.2.2.1, HTE.out.2.2.2⟩
set_option maxRecDepth 20000 in
set_option maxHeartbeats 6400000 in
theorem cWhole_nil (b g : Nat) (w : World) (h : BdB w b (.slice none 0 0) (.slice (some ⟨g, 0, none⟩) 1 1)) (hg : w.heap[g]? = some (.cells #[.int .i64 (-1)] 3)) :
    Calls Tryz.prog 49 #[.pointer (some ⟨b, 0, none⟩)] w fun e w' => e = .returned (.int .i64 0) ∧ ∃ v, BdB w' b v (.slice (some ⟨g, 0, none⟩) 0 1) ∧ OwnT w.heap.size v [zeroT] w' ∧ BelX b w w' := by
  obtain ⟨r0, r1, rf⟩ := bd_cells h
  have c0 := cell1_of hg
  have H := hidD h
  have y1 := rf 1
  have hst := store_fltD
  clear hg rf h
  go_enter Tryz.func49, Tryz.ntmps49
  go_wp2_with fail
  go_quiet (fail)
  go_wp2_with fail
  obtain ⟨wq, hwq⟩ : ∃ wq, World.drewN w nq = wq := ⟨_, rfl⟩
  have H2 : Hid (BdB wq b (.slice none 0 0) (.slice (some ⟨g, 0, none⟩) 1 1) ∧ BelX b w wq ∧ w.heap.size ≤ wq.heap.size) := by
    show BdB wq b _ _ ∧ BelX b w wq ∧ _
    rw [← hwq]
    exact ⟨H.out, ⟨rfl, rfl, rfl, Nat.le_refl _, fun _ _ _ => rfl⟩, Nat.le_refl _⟩
  rw [hwq]
  clear hwq r0 r1 c0 y1
  obtain ⟨r0, r1, rf⟩ := bd_cells H2.out.1
  have y1 := rf 1
  clear rf
  go_region_with (fail)
  all_goals
    obtain ⟨ws, hws⟩ : ∃ ws, World.drew (wq.setCell ⟨b, 1, none⟩ (.slice (some ⟨g, 0, none⟩) 0 1)) = ws := ⟨_, rfl⟩
    have H3 : Hid (BdB ws b (.slice none 0 0) (.slice (some ⟨g, 0, none⟩) 0 1) ∧ BelX b w ws) := by
      show BdB ws b _ _ ∧ BelX b w ws
      rw [← hws]
      have ho := OneB.one b wq 1 (.slice (some ⟨g, 0, none⟩) 0 1)
      exact ⟨H2.out.1.pieces _, H2.out.2.1.trans (BelX.of_one ⟨ho.os, ho.tape, ho.output, ho.size, ho.out⟩)⟩
    rw [hws]
    clear hws r0 r1 y1
    go_wp2_with fail
    refine (cAdd_nil b _ ws H3.out.1).mono ?_
    rintro e w5 ⟨rfl, v, hb5, ho5, hx5⟩
    have H5 := hidD (And.intro hb5 (And.intro (ho5.lower H3.out.2.size) (H3.out.2.trans hx5)))
    clear hb5 ho5 hx5
    go_wp2_with fail
    go_ret
    exact ⟨rfl, v, H5.out⟩
set_option maxRecDepth 20000 in
set_option maxHeartbeats 6400000 in
theorem cRebuilt_nil (w : World) : Calls Tryz.prog 26 #[.slice none 0 0] w fun e w' => ∃ v, e = .returned v ∧ OwnT w.heap.size v [zeroT] w' ∧ Below w.heap.size w w' := by
  go_enter Tryz.func26, Tryz.ntmps26
  go_wp2_with fail
  refine wp_loop_rounds 1 ?_
  rw [rounds_succ]
  go_wp2_with fail
  have hs : (w.alloc (.cells #[.int .i64 (-1)] 3)).heap.size = w.heap.size + 1 := by simp
  have hb : BdB ((w.alloc (.cells #[.int .i64 (-1)] 3)).alloc (.cells #[.slice none 0 0, .slice (some ⟨w.heap.size, 0, none⟩) 1 1] 108)) (w.heap.size + 1) (.slice none 0 0) (.slice (some ⟨w.heap.size, 0, none⟩) 1 1) := by
    unfold BdB
    rw [al_at, hs, if_pos rfl]
  refine (cWhole_nil (w.heap.size + 1) w.heap.size _ hb (by rw [al_at, hs, if_neg (by omega)]; exact heap_alloc_new _ _)).mono ?_
  rintro e w1 ⟨rfl, v, hb1, ho1, hx1⟩
  have HO := hidD (ho1.lower (show w.heap.size ≤ ((w.alloc (.cells #[.int .i64 (-1)] 3)).alloc (.cells #[.slice none 0 0, .slice (some ⟨w.heap.size, 0, none⟩) 1 1] 108)).heap.size by simp; omega))
  have HB := hidD (hx1.below (((Below.refl w.heap.size w).alloc (Nat.le_refl _) _).alloc (by simp) _) (by omega) (by simp; omega))
  obtain ⟨g5, c5, rfl⟩ := ho1.full (by decide)
  obtain ⟨q0, _, _⟩ := bd_cells hb1
  clear hb1 ho1 hx1 hb hs
  go_wp2_with fail
  go_ret
  exact ⟨_, rfl, HO.out, HB.out⟩
set_option maxRecDepth 20000 in
set_option maxHeartbeats 6400000 in
theorem cBack_nil (w : World) : Calls Tryz.prog 12 #[.slice none 0 0] w fun e w' => ∃ v, e = .returned (.tuple #[v, .int .i64 0]) ∧ OwnT w.heap.size v [zeroT] w' ∧ Below w.heap.size w w' := by
  have hr : MeaR [] 0 0 0 := MeaR.fine (l := []) (by decide) (fun i hi => by simp at hi) (by decide)
  have H1 := hidD (cCheck_is hr 0 none 0 0 0 w ⟨fun h => by simp at h, fun h => by simp at h, fun i hi => by simp at hi, fun i hi => by simp at hi, fun i hi => by simp at hi, fun i hi => by simp at hi, fun i hi => by simp at hi, fun i hi => by simp at hi, fun i hi => by simp at hi, fun i hi => by simp at hi, fun i hi => by simp at hi⟩ rfl (fun i hi => by omega) (by decide))
  clear hr
  go_enter Tryz.func12, Tryz.ntmps12
  go_wp2_with fail
  refine H1.out.mono ?_
  rintro e w1 ⟨rfl, hb1⟩
  have HB1 := hidD hb1
  clear hb1 H1
  go_wp2_with fail
  refine (cRebuilt_nil w1).mono ?_
  rintro e w2 ⟨v, rfl, ho2, hb2⟩
  obtain ⟨g, c, rfl⟩ := ho2.full (by decide)
  have HO2 := hidD ho2
  have HB2 := hidD (HB1.out.trans (hb2.mono HB1.out.size))
  have HC := hidD (check_of _ 1 w2 (measureZ g c w2 ho2.read))
  clear ho2 hb2
  go_wp2_with fail
  refine HC.out.mono ?_
  rintro e w3 ⟨rfl, hb3⟩
  have HO3 := hidD ((HO2.out.below hb3).lower HB1.out.size)
  have HB3 := hidD (HB2.out.trans (hb3.mono HB2.out.size))
  clear hb3 HC
  go_wp2_with fail
  go_ret2
  exact ⟨_, rfl, HO3.out, HB3.out⟩
end Go.Proofs.YtienedhaogjahaaGreatDoor
namespace Go.Proofs.YtienedhaogjahaaGreatDoor
open Go.RowKit

def tOp (k : Int) : Int := if 2 ≤ k ∧ k ≤ 4 then k else if 6 ≤ k ∧ k ≤ 8 then k - 1 else 0
def tTk (k : Int) : Bool := decide (k = 4) || (decide (6 ≤ k) && decide (k ≤ 8))
theorem ans_term {k o t : Int} {b : Bool} (h : cAns (fun i => ckT i == k) o t b) : o = tOp k ∧ b = tTk k := by
  have kT : ∀ i, i < 6 → ckT i = if i < 3 then (i : Int) + 2 else (i : Int) + 3 := fun i _ => rfl
  rcases h with ⟨hn, rfl, _, rfl⟩ | ⟨i, hi, hp, _, rfl, _, rfl⟩
  · have n : ∀ i < 6, ckT i ≠ k := fun i hi e => by
      have := hn i hi
      have this' : (ckT i == k) = false := this
      rw [e, beq_self_eq_true] at this'
      cases this'
    have n0 : (2 : Int) ≠ k := n 0 (by decide)
    have n1 : (3 : Int) ≠ k := n 1 (by decide)
    have n2 : (4 : Int) ≠ k := n 2 (by decide)
    have n3 : (6 : Int) ≠ k := n 3 (by decide)
    have n4 : (7 : Int) ≠ k := n 4 (by decide)
    have n5 : (8 : Int) ≠ k := n 5 (by decide)
    refine ⟨?_, ?_⟩
    · unfold tOp
      rw [if_neg (by omega), if_neg (by omega)]
    · unfold tTk
      rw [decide_eq_false (fun e => n2 e.symm), Bool.false_or]
      by_cases h6 : 6 ≤ k
      · rw [decide_eq_false (show ¬ k ≤ 8 by omega), Bool.and_false]
      · rw [decide_eq_false h6, Bool.false_and]
  · have e : ckT i = k := by simpa using hp
    subst e
    rcases (show i = 0 ∨ i = 1 ∨ i = 2 ∨ i = 3 ∨ i = 4 ∨ i = 5 by omega) with rfl | rfl | rfl | rfl | rfl | rfl <;> exact ⟨rfl, rfl⟩
def opT (t : Trm) : Opr := ⟨tOp t.kind, t.x, t.y, t.day, t.to, t.cur, t.count, t.n, t.months⟩
set_option maxRecDepth 20000 in
set_option maxHeartbeats 6400000 in
theorem opOf_any (t : Trm) (w : World) : Calls Tryz.prog 43 #[.agg (trC t)] w fun e w' => e = .returned (.agg (opC (opT t))) ∧ Below w.heap.size w w' := by
  have hf0 := fieldC0
  have hst := store_fltD
  have HK : Hid (∀ wx, Calls Tryz.prog 42 #[.agg (trC t)] wx fun e w' => (∃ xt xb, e = .returned (.agg #[.int .i64 (tOp t.kind), .int .i64 xt, .bool xb])) ∧ Below wx.heap.size wx w') := fun wx => (kindFor_any t wx).mono fun e w' ⟨xo, xt, xb, he, ha, hb⟩ => ⟨⟨xt, xb, by rw [he, (ans_term ha).1]⟩, hb⟩
  unfold trC at HK
  unfold trC
  go_enter Tryz.func43, Tryz.ntmps43
  go_wp2_with fail
  have HT : Hid (((w.alloc (.cells #[.int .i64 t.kind, .int .i64 t.a, .int .i64 t.b, .float .f64 t.x, .float .f64 t.y, .int .i64 t.day, .int .i64 t.to, .int .i64 t.cur, .int .i64 t.count, .int .i64 t.n, .int .i64 t.months] 50)).alloc (.cells #[.int .i64 0, .float .f64 0, .float .f64 0, .int .i64 0, .int .i64 0, .int .i64 0, .int .i64 0, .int .i64 0, .int .i64 0] 47)).heap[w.heap.size]? = some (.cells #[.int .i64 t.kind, .int .i64 t.a, .int .i64 t.b, .float .f64 t.x, .float .f64 t.y, .int .i64 t.day, .int .i64 t.to, .int .i64 t.cur, .int .i64 t.count, .int .i64 t.n, .int .i64 t.months] 50)) := by
    show _ = _
    rw [al_at, sz_al, if_neg (by omega)]; exact heap_alloc_new _ _
  have HR : Hid (((w.alloc (.cells #[.int .i64 t.kind, .int .i64 t.a, .int .i64 t.b, .float .f64 t.x, .float .f64 t.y, .int .i64 t.day, .int .i64 t.to, .int .i64 t.cur, .int .i64 t.count, .int .i64 t.n, .int .i64 t.months] 50)).alloc (.cells #[.int .i64 0, .float .f64 0, .float .f64 0, .int .i64 0, .int .i64 0, .int .i64 0, .int .i64 0, .int .i64 0, .int .i64 0] 47)).heap[w.heap.size + 1]? = some (.cells #[.int .i64 0, .float .f64 0, .float .f64 0, .int .i64 0, .int .i64 0, .int .i64 0, .int .i64 0, .int .i64 0, .int .i64 0] 47)) := by
    show _ = _
    rw [al_at, sz_al, if_pos rfl]
  have HB : Hid (Below w.heap.size w ((w.alloc (.cells #[.int .i64 t.kind, .int .i64 t.a, .int .i64 t.b, .float .f64 t.x, .float .f64 t.y, .int .i64 t.day, .int .i64 t.to, .int .i64 t.cur, .int .i64 t.count, .int .i64 t.n, .int .i64 t.months] 50)).alloc (.cells #[.int .i64 0, .float .f64 0, .float .f64 0, .int .i64 0, .int .i64 0, .int .i64 0, .int .i64 0, .int .i64 0, .int .i64 0] 47))) := ((Below.refl _ _).alloc (Nat.le_refl _) _).alloc (by simp) _
  obtain ⟨w2, hw2⟩ : ∃ w2, (w.alloc (.cells #[.int .i64 t.kind, .int .i64 t.a, .int .i64 t.b, .float .f64 t.x, .float .f64 t.y, .int .i64 t.day, .int .i64 t.to, .int .i64 t.cur, .int .i64 t.count, .int .i64 t.n, .int .i64 t.months] 50)).alloc (.cells #[.int .i64 0, .float .f64 0, .float .f64 0, .int .i64 0, .int .i64 0, .int .i64 0, .int .i64 0, .int .i64 0, .int .i64 0] 47) = w2 := ⟨_, rfl⟩
  rw [hw2] at HT HR HB ⊢
  clear hw2
  obtain ⟨R, hR⟩ : ∃ R, w.heap.size + 1 = R := ⟨_, rfl⟩
  obtain ⟨T, hT⟩ : ∃ T, w.heap.size = T := ⟨_, rfl⟩
  have hTR : T ≠ R := by omega
  have hRle : w.heap.size ≤ R := by omega
  rw [hR] at HR ⊢
  rw [hT] at HT ⊢
  clear hR hT
  have HKa := hidD ((HK.out (w2.drewN 1)).mono fun e w' hh => (⟨hh.1, ⟨hh.2.os, hh.2.tape, hh.2.output, hh.2.size, hh.2.block⟩⟩ : _ ∧ Below w2.heap.size w2 w'))
  have c0 := (opx_cells HT.out 0 rfl).1
  have c1 := (opx_cells HT.out 1 rfl).1
  have c2 := (opx_cells HT.out 2 rfl).1
  have c3 := (opx_cells HT.out 3 rfl).1
  have c4 := (opx_cells HT.out 4 rfl).1
  have c5 := (opx_cells HT.out 5 rfl).1
  have c6 := (opx_cells HT.out 6 rfl).1
  have c7 := (opx_cells HT.out 7 rfl).1
  have c8 := (opx_cells HT.out 8 rfl).1
  have c9 := (opx_cells HT.out 9 rfl).1
  have c10 := (opx_cells HT.out 10 rfl).1
  go_region_held3 (fun x => x.cell? ⟨T, 0, none⟩ = some (.int .i64 t.kind) ∧ x.cell? ⟨T, 1, none⟩ = some (.int .i64 t.a) ∧ x.cell? ⟨T, 2, none⟩ = some (.int .i64 t.b) ∧ x.cell? ⟨T, 3, none⟩ = some (.float .f64 t.x) ∧ x.cell? ⟨T, 4, none⟩ = some (.float .f64 t.y) ∧ x.cell? ⟨T, 5, none⟩ = some (.int .i64 t.day) ∧ x.cell? ⟨T, 6, none⟩ = some (.int .i64 t.to) ∧ x.cell? ⟨T, 7, none⟩ = some (.int .i64 t.cur) ∧ x.cell? ⟨T, 8, none⟩ = some (.int .i64 t.count) ∧ x.cell? ⟨T, 9, none⟩ = some (.int .i64 t.n) ∧ x.cell? ⟨T, 10, none⟩ = some (.int .i64 t.months)) (first | go_keep | (with_reducible exact ⟨k0, k1, k2, k3, k4, k5, k6, k7, k8, k9, k10⟩) | (simp [go_sem, *])) ((go_at_call 42; refine HKa.out.mono ?_; rintro e w3 ⟨⟨xt, xb, rfl⟩, hb3⟩; have HT3 := hidD ((hb3.block _ (lt_of_blk HT.out)).trans HT.out); have HR3 := hidD ((hb3.block _ (lt_of_blk HR.out)).trans HR.out); have HB3 := hidD (HB.out.trans (hb3.mono HB.out.size)); have k0 := (opx_cells HT3.out 0 rfl).1; have k1 := (opx_cells HT3.out 1 rfl).1; have k2 := (opx_cells HT3.out 2 rfl).1; have k3 := (opx_cells HT3.out 3 rfl).1; have k4 := (opx_cells HT3.out 4 rfl).1; have k5 := (opx_cells HT3.out 5 rfl).1; have k6 := (opx_cells HT3.out 6 rfl).1; have k7 := (opx_cells HT3.out 7 rfl).1; have k8 := (opx_cells HT3.out 8 rfl).1; have k9 := (opx_cells HT3.out 9 rfl).1; have k10 := (opx_cells HT3.out 10 rfl).1; have r0 := (opx_cells HR3.out 0 rfl).1; have y0 := (opx_cells HR3.out 0 rfl).2; have r1 := (opx_cells HR3.out 1 rfl).1; have y1 := (opx_cells HR3.out 1 rfl).2; have r2 := (opx_cells HR3.out 2 rfl).1; have y2 := (opx_cells HR3.out 2 rfl).2; have r3 := (opx_cells HR3.out 3 rfl).1; have y3 := (opx_cells HR3.out 3 rfl).2; have r4 := (opx_cells HR3.out 4 rfl).1; have y4 := (opx_cells HR3.out 4 rfl).2; have r5 := (opx_cells HR3.out 5 rfl).1; have y5 := (opx_cells HR3.out 5 rfl).2; have r6 := (opx_cells HR3.out 6 rfl).1; have y6 := (opx_cells HR3.out 6 rfl).2; have r7 := (opx_cells HR3.out 7 rfl).1; have y7 := (opx_cells HR3.out 7 rfl).2; have r8 := (opx_cells HR3.out 8 rfl).1; have y8 := (opx_cells HR3.out 8 rfl).2; clear hb3))
  obtain ⟨v0, hv0⟩ : ∃ v, World.setCell w3 ⟨R, 0, none⟩ (.int .i64 (tOp t.kind)) = v := ⟨_, rfl⟩
  have g0 : (World.heap v0)[R]? = some (.cells #[.int .i64 (tOp t.kind), .float .f64 0, .float .f64 0, .int .i64 0, .int .i64 0, .int .i64 0, .int .i64 0, .int .i64 0, .int .i64 0] 47) := by rw [← hv0]; exact (heap_setCell_same _ R 0 _ _ _ HR3.out).trans rfl
  have B0 : Below w.heap.size w v0 := by rw [← hv0]; exact Below.setCell HB3.out (p := ⟨R, 0, none⟩) hRle _
  rw [hv0]
  obtain ⟨v1, hv1⟩ : ∃ v, World.setCell v0 ⟨R, 1, none⟩ (.float .f64 t.x) = v := ⟨_, rfl⟩
  have g1 : (World.heap v1)[R]? = some (.cells #[.int .i64 (tOp t.kind), .float .f64 t.x, .float .f64 0, .int .i64 0, .int .i64 0, .int .i64 0, .int .i64 0, .int .i64 0, .int .i64 0] 47) := by rw [← hv1]; exact (heap_setCell_same _ R 1 _ _ _ g0).trans rfl
  have B1 : Below w.heap.size w v1 := by rw [← hv1]; exact Below.setCell B0 (p := ⟨R, 1, none⟩) hRle _
  rw [hv1]
  obtain ⟨v2, hv2⟩ : ∃ v, World.setCell v1 ⟨R, 2, none⟩ (.float .f64 t.y) = v := ⟨_, rfl⟩
  have g2 : (World.heap v2)[R]? = some (.cells #[.int .i64 (tOp t.kind), .float .f64 t.x, .float .f64 t.y, .int .i64 0, .int .i64 0, .int .i64 0, .int .i64 0, .int .i64 0, .int .i64 0] 47) := by rw [← hv2]; exact (heap_setCell_same _ R 2 _ _ _ g1).trans rfl
  have B2 : Below w.heap.size w v2 := by rw [← hv2]; exact Below.setCell B1 (p := ⟨R, 2, none⟩) hRle _
  rw [hv2]
  obtain ⟨v3, hv3⟩ : ∃ v, World.setCell v2 ⟨R, 3, none⟩ (.int .i64 t.day) = v := ⟨_, rfl⟩
  have g3 : (World.heap v3)[R]? = some (.cells #[.int .i64 (tOp t.kind), .float .f64 t.x, .float .f64 t.y, .int .i64 t.day, .int .i64 0, .int .i64 0, .int .i64 0, .int .i64 0, .int .i64 0] 47) := by rw [← hv3]; exact (heap_setCell_same _ R 3 _ _ _ g2).trans rfl
  have B3 : Below w.heap.size w v3 := by rw [← hv3]; exact Below.setCell B2 (p := ⟨R, 3, none⟩) hRle _
  rw [hv3]
  obtain ⟨v4, hv4⟩ : ∃ v, World.setCell v3 ⟨R, 4, none⟩ (.int .i64 t.to) = v := ⟨_, rfl⟩
  have g4 : (World.heap v4)[R]? = some (.cells #[.int .i64 (tOp t.kind), .float .f64 t.x, .float .f64 t.y, .int .i64 t.day, .int .i64 t.to, .int .i64 0, .int .i64 0, .int .i64 0, .int .i64 0] 47) := by rw [← hv4]; exact (heap_setCell_same _ R 4 _ _ _ g3).trans rfl
  have B4 : Below w.heap.size w v4 := by rw [← hv4]; exact Below.setCell B3 (p := ⟨R, 4, none⟩) hRle _
  rw [hv4]
  obtain ⟨v5, hv5⟩ : ∃ v, World.setCell v4 ⟨R, 5, none⟩ (.int .i64 t.cur) = v := ⟨_, rfl⟩
  have g5 : (World.heap v5)[R]? = some (.cells #[.int .i64 (tOp t.kind), .float .f64 t.x, .float .f64 t.y, .int .i64 t.day, .int .i64 t.to, .int .i64 t.cur, .int .i64 0, .int .i64 0, .int .i64 0] 47) := by rw [← hv5]; exact (heap_setCell_same _ R 5 _ _ _ g4).trans rfl
  have B5 : Below w.heap.size w v5 := by rw [← hv5]; exact Below.setCell B4 (p := ⟨R, 5, none⟩) hRle _
  rw [hv5]
  obtain ⟨v6, hv6⟩ : ∃ v, World.setCell v5 ⟨R, 6, none⟩ (.int .i64 t.count) = v := ⟨_, rfl⟩
  have g6 : (World.heap v6)[R]? = some (.cells #[.int .i64 (tOp t.kind), .float .f64 t.x, .float .f64 t.y, .int .i64 t.day, .int .i64 t.to, .int .i64 t.cur, .int .i64 t.count, .int .i64 0, .int .i64 0] 47) := by rw [← hv6]; exact (heap_setCell_same _ R 6 _ _ _ g5).trans rfl
  have B6 : Below w.heap.size w v6 := by rw [← hv6]; exact Below.setCell B5 (p := ⟨R, 6, none⟩) hRle _
  rw [hv6]
  obtain ⟨v7, hv7⟩ : ∃ v, World.setCell v6 ⟨R, 7, none⟩ (.int .i64 t.n) = v := ⟨_, rfl⟩
  have g7 : (World.heap v7)[R]? = some (.cells #[.int .i64 (tOp t.kind), .float .f64 t.x, .float .f64 t.y, .int .i64 t.day, .int .i64 t.to, .int .i64 t.cur, .int .i64 t.count, .int .i64 t.n, .int .i64 0] 47) := by rw [← hv7]; exact (heap_setCell_same _ R 7 _ _ _ g6).trans rfl
  have B7 : Below w.heap.size w v7 := by rw [← hv7]; exact Below.setCell B6 (p := ⟨R, 7, none⟩) hRle _
  rw [hv7]
  obtain ⟨v8, hv8⟩ : ∃ v, World.setCell v7 ⟨R, 8, none⟩ (.int .i64 t.months) = v := ⟨_, rfl⟩
  have g8 : (World.heap v8)[R]? = some (.cells #[.int .i64 (tOp t.kind), .float .f64 t.x, .float .f64 t.y, .int .i64 t.day, .int .i64 t.to, .int .i64 t.cur, .int .i64 t.count, .int .i64 t.n, .int .i64 t.months] 47) := by rw [← hv8]; exact (heap_setCell_same _ R 8 _ _ _ g7).trans rfl
  have B8 : Below w.heap.size w v8 := by rw [← hv8]; exact Below.setCell B7 (p := ⟨R, 8, none⟩) hRle _
  rw [hv8]
  have HE := hidD (And.intro g8 B8)
  have z0 := (opx_cells g8 0 rfl).1
  have z1 := (opx_cells g8 1 rfl).1
  have z2 := (opx_cells g8 2 rfl).1
  have z3 := (opx_cells g8 3 rfl).1
  have z4 := (opx_cells g8 4 rfl).1
  have z5 := (opx_cells g8 5 rfl).1
  have z6 := (opx_cells g8 6 rfl).1
  have z7 := (opx_cells g8 7 rfl).1
  have z8 := (opx_cells g8 8 rfl).1
  clear hv0 g0 B0 hv1 g1 B1 hv2 g2 B2 hv3 g3 B3 hv4 g4 B4 hv5 g5 B5 hv6 g6 B6 hv7 g7 B7 hv8 g8 B8 k0 c0 k1 c1 k2 c2 k3 c3 k4 c4 k5 c5 k6 c6 k7 c7 k8 c8 k9 c9 k10 c10 r0 y0 r1 y1 r2 y2 r3 y3 r4 y4 r5 y5 r6 y6 r7 y7 r8 y8 HT3 HR3 HB3
  go_wp2_with fail
  exact bodyPost_ret (v := .agg (opC (opT t))) (by simp [results, Tryz.results43, go_sem, opC, opT, *]) rfl ⟨rfl, HE.out.2⟩
end Go.Proofs.YtienedhaogjahaaGreatDoor
namespace Go.Proofs.YtienedhaogjahaaGreatDoor
open Go.RowKit

theorem r17In_any (n lo hi : Int) (w : World) : Calls Tryz.prog 130 #[.int .i64 n, .int .i64 lo, .int .i64 hi] w fun e w' => e = .returned (.bool (decide (lo ≤ n) && decide (n ≤ hi))) ∧ w' = w := by
  by_cases h1 : lo ≤ n <;> by_cases h2 : n ≤ hi
  all_goals
    first | rw [decide_eq_true h1] | rw [decide_eq_false h1]
    first | rw [decide_eq_true h2] | rw [decide_eq_false h2]
    go_enter Tryz.func130, Tryz.ntmps130
    go_wp2
    go_ret
    exact ⟨rfl, rfl⟩
theorem r17Day_any (n : Int) (w : World) : Calls Tryz.prog 129 #[.int .i64 n] w fun e w' => e = .returned (.bool (decide (0 ≤ n) && decide (n ≤ 109572))) ∧ w' = w := by
  obtain ⟨D, hD⟩ : ∃ D, (decide (0 ≤ n) && decide (n ≤ 109572)) = D := ⟨_, rfl⟩
  have H := r17In_any n 0 109572
  rw [hD] at H ⊢
  go_enter Tryz.func129, Tryz.ntmps129
  go_wp2_with (go_at_call 130; refine (H _).mono ?_; rintro e w' ⟨rfl, rfl⟩)
  go_ret
  exact ⟨rfl, rfl⟩
theorem r14Cur_any (n : Int) (w : World) : Calls Tryz.prog 128 #[.int .i64 n] w fun e w' => e = .returned (.bool (decide (1 ≤ n) && decide (n ≤ 8))) ∧ w' = w := by
  by_cases h1 : 1 ≤ n <;> by_cases h2 : n ≤ 8
  all_goals
    first | rw [decide_eq_true h1] | rw [decide_eq_false h1]
    first | rw [decide_eq_true h2] | rw [decide_eq_false h2]
    go_enter Tryz.func128, Tryz.ntmps128
    go_wp2
    go_ret
    exact ⟨rfl, rfl⟩
theorem r18Kind_any (k : Int) (w : World) : Calls Tryz.prog 53 #[.int .i64 k] w fun e w' => e = .returned (.int .i64 (tOp k)) ∧ w' = w := by
  unfold tOp
  by_cases h2 : k = 2
  · subst h2
    go_enter Tryz.func53, Tryz.ntmps53
    go_wp2
    go_ret
    exact ⟨rfl, rfl⟩
  by_cases h3 : k = 3
  · subst h3
    go_enter Tryz.func53, Tryz.ntmps53
    go_wp2
    go_ret
    exact ⟨rfl, rfl⟩
  by_cases h4 : k = 4
  · subst h4
    go_enter Tryz.func53, Tryz.ntmps53
    go_wp2
    go_ret
    exact ⟨rfl, rfl⟩
  by_cases h6 : k = 6
  · subst h6
    go_enter Tryz.func53, Tryz.ntmps53
    go_wp2
    go_ret
    exact ⟨rfl, rfl⟩
  by_cases h7 : k = 7
  · subst h7
    go_enter Tryz.func53, Tryz.ntmps53
    go_wp2
    go_ret
    exact ⟨rfl, rfl⟩
  by_cases h8 : k = 8
  · subst h8
    go_enter Tryz.func53, Tryz.ntmps53
    go_wp2
    go_ret
    exact ⟨rfl, rfl⟩
  rw [if_neg (by omega), if_neg (by omega)]
  go_enter Tryz.func53, Tryz.ntmps53
  go_wp2
  go_ret
  exact ⟨rfl, rfl⟩
def opD (o : Opr) : Array Value := #[.int .i64 o.kind, .int .u64 o.x, .int .u64 o.y, .int .i64 o.day, .int .i64 o.to, .int .i64 o.cur, .int .i64 o.count, .int .i64 o.n, .int .i64 o.months]
theorem r18Takes_any (o : Opr) (w : World) : Calls Tryz.prog 29 #[.agg (opD o)] w fun e w' => e = .returned (.bool (takO o)) ∧ Below w.heap.size w w' := by
  unfold takO opD
  by_cases h1 : 4 ≤ o.kind <;> by_cases h2 : o.kind ≤ 7
  rotate_left 3
  · exact absurd h2 (by omega)
  all_goals
    first | rw [decide_eq_true h1] | rw [decide_eq_false h1]
    first | rw [decide_eq_true h2] | rw [decide_eq_false h2]
    have HB : Hid (Below w.heap.size w (w.alloc (.cells #[.int .i64 o.kind, .int .u64 o.x, .int .u64 o.y, .int .i64 o.day, .int .i64 o.to, .int .i64 o.cur, .int .i64 o.count, .int .i64 o.n, .int .i64 o.months] 66))) := (Below.refl _ _).alloc (Nat.le_refl _) _
    go_enter Tryz.func29, Tryz.ntmps29
    go_wp2_with fail
    go_ret
    exact ⟨rfl, HB.out⟩
def trD (t : Trm) : Array Value := #[.int .i64 t.kind, .int .i64 t.a, .int .i64 t.b, .int .u64 t.x, .int .u64 t.y, .int .i64 t.day, .int .i64 t.to, .int .i64 t.cur, .int .i64 t.count, .int .i64 t.n, .int .i64 t.months]
def oTm (k : Int) : Int := if 2 ≤ k ∧ k ≤ 4 then k else if 5 ≤ k ∧ k ≤ 7 then k + 1 else 0
def tmO (o : Opr) : Trm := { kind := oTm o.kind, a := 0, b := 0, x := o.x, y := o.y, day := o.day, to := o.to, cur := o.cur, count := o.count, n := o.n, months := o.months }
end Go.Proofs.YtienedhaogjahaaGreatDoor
