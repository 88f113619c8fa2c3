/- Package deal: the reader's words, closed; 1 is read as a number. Package deal: the word that begins a term. Package deal: the fields of 'pay 1 1 2030-01-01', read one by one. Package deal: more closed words are read: 3 and 0.5 as numbers, 2 as a whole number, 2031-01-01 as a day. -/
import Derived.Test.YtiiajhomdpfafaaGreatDoorHau
import Derived.Test.YtiiajhomdpfafaaGreatDoorHak
import Derived.Deep.RegionHeld3
import Derived.Test.YtiiajhomdpfafaaGreatDoorHan
namespace Go.Proofs.YtiiajhomdpfafaaGreatDoor
open Go.RowKit

theorem WordR.unique {s : ByteArray} {i a z a' z' : Nat} (h : WordR s i a z) (h' : WordR s i a' z') : a = a' ∧ z = z' := by
  have key : ∀ {a z a' z'}, WordR s i a z → WordR s i a' z' → ¬ a < a' := fun {a z a' z'} h h' hlt => by
    have hs : a < s.size := by have := h'.az; have := h'.zs; omega
    exact h.st hs (h'.bl a hs h.ia hlt)
  have ea : a = a' := by have := key h h'; have := key h' h; omega
  subst ea
  refine ⟨rfl, ?_⟩
  have key2 : ∀ {z z'}, WordR s i a z → WordR s i a z' → ¬ z < z' := fun {z z'} h h' hlt => by
    have hs : z < s.size := by have := h'.zs; omega
    exact h'.nb z hs h.az hlt (h.en hs)
  have := key2 h h'
  have := key2 h' h
  omega
theorem word_at {s : ByteArray} {i a z : Nat} (hw : WordR s i a z) (b : Nat) (kv tv : Value) (a0 g : Int) (x : ByteArray) (hx : s.extract a z = x) (w : World) (h : RdB w b s kv a0 i g tv) (hs : s.size ≤ 9223372036854775806) :
    Calls Tryz.prog 27 #[.pointer (some ⟨b, 0, none⟩)] w fun e w' => e = .returned (.string x) ∧ RdB w' b s kv a z g tv ∧ OneB b w w' :=
  (word_any b s kv tv a0 g i w h (by have := hw.ia; have := hw.az; have := hw.zs; omega) hs).mono fun e w' ⟨a', z', hw', he, hr, ho⟩ => by
    obtain ⟨rfl, rfl⟩ := hw.unique hw'
    rw [← hx]
    exact ⟨he, hr, ho⟩
theorem cell_ltD {w : World} {k j : Nat} {v : Value} (h : w.cell? ⟨k, j, none⟩ = some v) : k < w.heap.size := World.block_lt_of_cell? _ _ h
theorem PfT.below {gi gq gp b o c : Nat} {w w' : World} (h : PfT gi gq gp b o c w) (hb : Below w.heap.size w w') : PfT gi gq gp b o c w' := by
  have k : ∀ {x y : Nat} {v : Value}, w.cell? ⟨x, y, none⟩ = some v → w'.cell? ⟨x, y, none⟩ = some v := fun {x y v} hp => (hb.cell (cell_ltD hp)).trans hp
  exact ⟨k h.mb, k h.op, k h.pw, k h.p1⟩
set_option maxRecDepth 20000 in
set_option maxHeartbeats 1600000 in
theorem readX_1 (f b g bp op cp : Nat) (ha : AcF f 3) (t : Trm) (w : World) (hb : w.heap[b]? = some (.cells #[fnB f] 101)) (ht : TrB w g t) (hp : PfT 7 6 10 bp op cp w) :
    Calls Tryz.prog 69 #[.pointer (some ⟨g, 0, none⟩), .string ⟨#[49]⟩, .pointer (some ⟨b, 0, none⟩)] w fun e w' => e = .returned (.bool true) ∧ w' = w.setCell ⟨g, 3, none⟩ (.float .f64 4607182418800017408) := by
  have H := hidD (tp_1 bp op cp w hp)
  have c0 := cell1_of hb
  have dc := (trm_cells ht).2.2.2.1
  have df := ht.frozen 3
  have HA := hidD ha.at_
  have he := ha.en
  have hst := store_fltD
  unfold fnB at c0
  clear hb ht hp ha
  go_enter Tryz.func69, Tryz.ntmps69
  go_wp2_with fail
  refine H.out.mono ?_
  rintro e w1 ⟨rfl, rfl⟩
  go_wp2_with fail
  refine (HA.out _ _).mono ?_
  rintro e w1 ⟨rfl, rfl⟩
  go_wp2_with fail
  go_ret
  exact ⟨rfl, rfl⟩
end Go.Proofs.YtiiajhomdpfafaaGreatDoor
namespace Go.Proofs.YtiiajhomdpfafaaGreatDoor
open Go.RowKit

structure BelX (b : Nat) (w w' : World) : Prop where
  os : w'.os = w.os
  tape : w'.tape = w.tape
  output : w'.output = w.output
  size : w.heap.size ≤ w'.heap.size
  block : ∀ k, k < w.heap.size → k ≠ b → w'.heap[k]? = w.heap[k]?
theorem BelX.refl (b : Nat) (w : World) : BelX b w w := ⟨rfl, rfl, rfl, Nat.le_refl _, fun _ _ _ => rfl⟩
theorem BelX.trans {b : Nat} {w w1 w2 : World} (h : BelX b w w1) (k : BelX b w1 w2) : BelX b w w2 := ⟨k.os.trans h.os, k.tape.trans h.tape, k.output.trans h.output, Nat.le_trans h.size k.size, fun j hj hn => (k.block j (Nat.lt_of_lt_of_le hj h.size) hn).trans (h.block j hj hn)⟩
theorem BelX.of_below {b : Nat} {w w' : World} (h : Below w.heap.size w w') : BelX b w w' := ⟨h.os, h.tape, h.output, h.size, fun k hk _ => h.block k hk⟩
theorem BelX.of_one {b : Nat} {w w' : World} (h : OneB b w w') : BelX b w w' := ⟨h.os, h.tape, h.output, Nat.le_of_eq h.size.symm, fun k _ hn => h.out k hn⟩
theorem BelX.below {b B : Nat} {w0 w w' : World} (h : BelX b w w') (h0 : Below B w0 w) (hB : B ≤ b) (hw : B ≤ w.heap.size) : Below B w0 w' := ⟨h.os.trans h0.os, h.tape.trans h0.tape, h.output.trans h0.output, Nat.le_trans h0.size h.size, fun k hk => (h.block k (by omega) (by omega)).trans (h0.block k hk)⟩
theorem BelX.drew {b : Nat} {w w' : World} (n : Nat) (h : BelX b (w.drewN n) w') : BelX b w w' := ⟨h.os, h.tape, h.output, h.size, h.block⟩
theorem RdB.stay {w w' : World} {b : Nat} {s : ByteArray} {kv tv : Value} {a n g : Int} (h : RdB w b s kv a n g tv) (hb : Below w.heap.size w w') : RdB w' b s kv a n g tv := (hb.block _ (lt_of_blk h)).trans h
theorem rd_cells {w : World} {b : Nat} {s : ByteArray} {kv tv : Value} {a n g : Int} (h : RdB w b s kv a n g tv) : w.cell? ⟨b, 1, none⟩ = some kv ∧ w.cell? ⟨b, 4, none⟩ = some (.int .i64 g) ∧ w.cell? ⟨b, 5, none⟩ = some tv ∧ ∀ i, w.frozen? ⟨b, i, none⟩ = false := by
  unfold RdB at h
  refine ⟨?_, ?_, ?_, fun i => by simp [World.frozen?, h]⟩ <;>
  · simp only [World.cell?, h, Option.isSome_none, Bool.false_eq_true, if_false]; rfl
theorem fnd_first {u : Nat → Value} {pr : Nat → Bool} {v : Value} {ix : Nat} (h : fndV u pr v) (hix : ix < 8) (hp : pr ix = true) (hf : ∀ j < ix, pr j = false) : v = .tuple #[kV (kdG ix) (u ix), .bool true] := by
  rcases h with ⟨hn, _⟩ | ⟨i, hi, h1, h2, rfl⟩
  · have := hn ix hix; rw [hp] at this; cases this
  · have : i = ix := by
      by_cases a : i < ix
      · have := hf i a; rw [h1] at this; cases this
      · by_cases c : ix < i
        · have := h2 ix c; rw [hp] at this; cases this
        · omega
    rw [this]
structure KdE (b Z D : Nat) (s : ByteArray) (kv : Value) (a z : Nat) (g : Int) (tv : Value) (cs : Array Value) (wS w : World) : Prop where
  kb : w.heap[D]? = some (.cells cs 65)
  rb : RdB w b s kv a z g tv
  zb : w.heap[Z]? = some zeroK
  bl : BelX b wS w
  ne : D ≠ Z
theorem kdE_new {b Z : Nat} {s : ByteArray} {kv : Value} {a z : Nat} {g : Int} {tv : Value} {cs : Array Value} {wS w1 w2 : World} (hz : wS.heap[Z]? = some zeroK) (_hb : b < wS.heap.size) (hbZ : b ≠ Z) (hx : BelX b wS w1) (hr : RdB w1 b s kv a z g tv) (h2 : Below w1.heap.size w1 w2) : KdE b Z w2.heap.size s kv a z g tv cs wS (w2.alloc (.cells cs 65)) := by
  have hZ := lt_of_blk hz
  have s1 := hx.size
  have s2 := h2.size
  have z1 := (hx.block Z hZ (Ne.symm hbZ)).trans hz
  have z2 := (h2.block Z (by omega)).trans z1
  exact ⟨heap_alloc_new _ _, (hr.stay h2).stay (al_bel _ _), ((al_bel w2 _).block Z (by omega)).trans z2, hx.trans (.of_below (h2.trans ((al_bel w2 _).mono h2.size))), by omega⟩
theorem put5K_far {w : World} {g k : Nat} (a b c d e : Value) (h : k ≠ g) : (put5K w g a b c d e).heap[k]? = w.heap[k]? := by
  unfold put5K
  rw [blkF_far _ _ _ _ h, blkF_far _ _ _ _ h, blkF_far _ _ _ _ h, blkF_far _ _ _ _ h, blkF_far _ _ _ _ h]
theorem kdE_mid {b Z : Nat} {s : ByteArray} {kv : Value} {a z : Nat} {g : Int} {tv : Value} {c0 c1 c2 c3 c4 : Value} {wS w1 w2 : World} (hz : wS.heap[Z]? = some zeroK) (hb : b < wS.heap.size) (hbZ : b ≠ Z) (hx : BelX b wS w1) (hr : RdB w1 b s kv a z g tv) (h2 : Below (w1.alloc zeroK).heap.size (w1.alloc zeroK) w2) : KdE b Z w1.heap.size s kv a z g tv #[c0, c1, c2, c3, c4] wS (put5K w2 w1.heap.size c0 c1 c2 c3 c4) := by
  have hZ := lt_of_blk hz
  have s1 := hx.size
  have hb2 := (al_bel w1 zeroK).trans (h2.mono (by simp))
  have z1 := (hx.block Z hZ (Ne.symm hbZ)).trans hz
  have z2 := (hb2.block Z (by omega)).trans z1
  have hk : w2.heap[w1.heap.size]? = some zeroK := (h2.block _ (by simp)).trans (heap_alloc_new _ _)
  exact ⟨put5K_blk hk _ _ _ _ _, (put5K_far _ _ _ _ _ (by omega)).trans (hr.stay hb2), (put5K_far _ _ _ _ _ (by omega)).trans z2, hx.trans (.of_below (hb2.trans (put5K_bel _ _ _ _ _ (Nat.le_refl _)))), by omega⟩
theorem kdE_old {b Z : Nat} {s : ByteArray} {kv : Value} {a z : Nat} {g : Int} {tv : Value} {c0 c1 c2 c3 c4 : Value} {wS w1 w2 : World} (hz : wS.heap[Z]? = some zeroK) (hb : b < wS.heap.size) (hbZ : b ≠ Z) (hx : BelX b wS w1) (hr : RdB w1 b s kv a z g tv) (h2 : Below w1.heap.size w1 w2) (h1 : w1.heap[wS.heap.size]? = some zeroK) : KdE b Z wS.heap.size s kv a z g tv #[c0, c1, c2, c3, c4] wS (put5K w2 wS.heap.size c0 c1 c2 c3 c4) := by
  have hZ := lt_of_blk hz
  have s1 := hx.size
  have z1 := (hx.block Z hZ (Ne.symm hbZ)).trans hz
  have z2 := (h2.block Z (by omega)).trans z1
  have hk : w2.heap[wS.heap.size]? = some zeroK := (h2.block _ (lt_of_blk h1)).trans h1
  have hp := put5K_bel (w := w2) (g := wS.heap.size) (B := wS.heap.size) c0 c1 c2 c3 c4 (Nat.le_refl _)
  refine ⟨put5K_blk hk _ _ _ _ _, (put5K_far _ _ _ _ _ (by omega)).trans (hr.stay h2), (put5K_far _ _ _ _ _ (by omega)).trans z2, ?_, by omega⟩
  have h3 := hx.trans (BelX.of_below (b := b) h2)
  exact ⟨hp.os.trans h3.os, hp.tape.trans h3.tape, hp.output.trans h3.output, Nat.le_trans h3.size hp.size, fun k hk hn => (hp.block k hk).trans (h3.block k hk hn)⟩
set_option maxRecDepth 20000 in
set_option maxHeartbeats 6400000 in
theorem rdKind_ok {s : ByteArray} {i a z : Nat} (hw : WordR s i a z) (b h : Nat) (u : Nat → Value) (tv : Value) (a0 g depth : Int) (ix : Nat) (hix : ix < 8) (hx : s.extract a z = (kdG ix).word) (hf : ∀ j < ix, ((kdG j).word.toList == (kdG ix).word.toList) = false) (w0 w : World) (ht : TabC h u w0) (hb0 : Below w0.heap.size w0 w) (hlb : w0.heap.size ≤ b) (hR : RdB w b s (.slice (some ⟨h, 0, none⟩) 8 8) a0 i g tv) (hs : s.size ≤ 9223372036854775806) (hg : g ≠ 1024) (hd : depth ≤ 64) :
    Calls Tryz.prog 64 #[.pointer (some ⟨b, 0, none⟩), .int .i64 depth] w fun e w' => e = .returned (kV (kdG ix) (u ix)) ∧ RdB w' b s (.slice (some ⟨h, 0, none⟩) 8 8) a z g tv ∧ BelX b w w' := by
  obtain ⟨p, m, hu, hm⟩ := (ht.slc ix hix).shape
  clear hm
  have HU := hidD hu
  have HO : Hid (∀ wx, TabC h u wx → Calls Tryz.prog 102 #[.slice (some ⟨h, 0, none⟩) 8 8, .string (kdG ix).word] wx fun e w' => e = .returned (.tuple #[.agg #[.int .i64 (kdG ix).num, .string (kdG ix).word, .slice p m m, .int .i64 (kdG ix).parts, .func (.func (kdG ix).mean) #[] #[]], .bool true]) ∧ Below wx.heap.size wx w') := fun wx ht => (ofWord_any h u (kdG ix).word wx ht).mono fun e w' ⟨v, he, hv, hb⟩ => ⟨by
    have := fnd_first hv hix (beq_self_eq_true _) hf
    rw [hu] at this
    rw [he, this]; rfl, hb⟩
  have HW : Hid (∀ wx, RdB wx b s (.slice (some ⟨h, 0, none⟩) 8 8) a0 i g tv → Calls Tryz.prog 27 #[.pointer (some ⟨b, 0, none⟩)] wx fun e w' => e = .returned (.string (kdG ix).word) ∧ RdB w' b s (.slice (some ⟨h, 0, none⟩) 8 8) a z g tv ∧ OneB b wx w') := fun wx hr => word_at hw b _ tv a0 g _ hx wx hr hs
  have HT := hidD (And.intro ht (And.intro hb0 hlb))
  have HR := hidD hR
  have HRS := hidD (hR.stay (al_bel w zeroK))
  have HTS := hidD (ht.below (hb0.trans ((al_bel w zeroK).mono hb0.size)))
  have hzb := heap_alloc_new w zeroK
  have HBS := hidD (BelX.of_below (b := b) (al_bel w zeroK))
  have hbw : b < w.heap.size := lt_of_blk hR
  clear ht hb0 hlb hR hf hx hw hs hu
  go_enter Tryz.func64, Tryz.ntmps64
  go_wp2_with fail
  have e0 : w.alloc (.cells #[.int .i64 0, .string ⟨#[]⟩, .slice none 0 0, .int .i64 0, .nilFunc] 65) = w.alloc zeroK := rfl
  rw [e0]
  have hsz : (w.alloc zeroK).heap.size = w.heap.size + 1 := by simp
  obtain ⟨wS, hwS⟩ : ∃ wS, w.alloc zeroK = wS := ⟨_, rfl⟩
  rw [hwS] at HRS HTS hzb HBS hsz ⊢
  have HZB := hidD hzb
  have c1 := (rd_cells HRS.out).1
  clear e0 hwS hzb
  have hb1 : b < wS.heap.size := by omega
  have hb2 : b ≠ wS.heap.size := Nat.ne_of_lt hb1
  have hbZ : b ≠ w.heap.size := by omega
  clear hsz
  have HWa := hidD ((HW.out (wS.drewN 1) HRS.out).mono fun e w' hh => (⟨hh.1, hh.2.1, (BelX.of_one hh.2.2).drew 1⟩ : e = .returned (.string (kdG ix).word) ∧ RdB w' b s (.slice (some ⟨h, 0, none⟩) 8 8) a z g tv ∧ BelX b wS w'))
  have HWb := hidD ((HW.out ((wS.alloc zeroK).drewN 1) (show RdB ((wS.alloc zeroK).drewN 1) b s (.slice (some ⟨h, 0, none⟩) 8 8) a0 i g tv from (HRS.out.stay (al_bel wS zeroK) : RdB (wS.alloc zeroK) b s (.slice (some ⟨h, 0, none⟩) 8 8) a0 i g tv))).mono fun e w' hh => (⟨hh.1, hh.2.1, (BelX.of_below (al_bel wS zeroK)).trans ((BelX.of_one hh.2.2).drew 1), (hh.2.2.out _ (Ne.symm hb2)).trans (heap_alloc_new wS zeroK)⟩ : e = .returned (.string (kdG ix).word) ∧ RdB w' b s (.slice (some ⟨h, 0, none⟩) 8 8) a z g tv ∧ BelX b wS w' ∧ w'.heap[wS.heap.size]? = some zeroK))
  unfold zeroK at HWb
  have HTx : Hid (∀ wx, BelX b wS wx → TabC h u wx) := fun wx hx => HT.out.1.below (hx.below (HBS.out.below HT.out.2.1 HT.out.2.2 HT.out.2.1.size) HT.out.2.2 (Nat.le_trans HT.out.2.1.size HBS.out.size))
  go_region_held3 (fun x => x.cell? ⟨b, 1, none⟩ = some (.slice (some ⟨h, 0, none⟩) 8 8)) (first | go_keep | (with_reducible exact HK1.out) | (with_reducible exact HK2.out) | (simp [go_sem, *])) (first
    | (go_at_call 27; refine HWa.out.mono ?_; rintro e w1 ⟨rfl, hr, hx⟩; have HR1 := hidD hr; have HX1 := hidD hx; have HK1 := hidD (rd_cells hr).1; have k1 := (rd_cells hr).1; have l1 : b < w1.heap.size := lt_of_blk hr; have n1 : b ≠ w1.heap.size := Nat.ne_of_lt l1; clear hr hx)
    | (go_at_call 27; refine HWb.out.mono ?_; rintro e w1 ⟨rfl, hr, hx, hzz⟩; have HR1 := hidD hr; have HX1 := hidD hx; have HK1 := hidD (rd_cells hr).1; have k1 := (rd_cells hr).1; have HZ1 := hidD hzz; clear hr hx hzz)
    | (go_at_call 102; (with_reducible refine (HO.out _ (HTx.out _ HX1.out)).mono ?_); rintro e w2 ⟨rfl, hb⟩; have HZ2 := hidD ((hb.block _ (lt_of_blk HZ1.out)).trans HZ1.out); obtain ⟨z0, z1, z2, z3, z4, zf⟩ := zk_of HZ2.out; have y0 := zf 0; have y1 := zf 1; have y2 := zf 2; have y3 := zf 3; have y4 := zf 4; clear zf; have HB2 := hidD hb; have HR2 := hidD (HR1.out.stay hb); have HK2 := hidD (rd_cells (HR1.out.stay hb)).1; have k2 := (rd_cells (HR1.out.stay hb)).1; have l2 : b < w2.heap.size := lt_of_blk (HR1.out.stay hb); have n2 : b ≠ w2.heap.size := Nat.ne_of_lt l2; clear hb)
    | (go_at_call 102; (with_reducible refine (HO.out _ (HTx.out _ HX1.out)).mono ?_); rintro e w2 ⟨rfl, hb⟩; have HB2 := hidD hb; have HR2 := hidD (HR1.out.stay hb); have HK2 := hidD (rd_cells (HR1.out.stay hb)).1; have k2 := (rd_cells (HR1.out.stay hb)).1; have l2 : b < w2.heap.size := lt_of_blk (HR1.out.stay hb); have n2 : b ≠ w2.heap.size := Nat.ne_of_lt l2; clear hb)
    | (go_at_call 102; (with_reducible refine (HO.out _ ((HTx.out _ HX1.out).below (al_bel _ _))).mono ?_); rintro e w2 ⟨rfl, hb⟩; have HB2 := hidD hb; have HR2 := hidD ((HR1.out.stay (al_bel _ _)).stay hb); have HK2 := hidD (rd_cells ((HR1.out.stay (al_bel _ _)).stay hb)).1; have k2 := (rd_cells ((HR1.out.stay (al_bel _ _)).stay hb)).1; have HZ2 := hidD ((hb.block _ (by simp)).trans (heap_alloc_new w1 _)); obtain ⟨z0, z1, z2, z3, z4, zf⟩ := zk_of HZ2.out; have y0 := zf 0; have y1 := zf 1; have y2 := zf 2; have y3 := zf 3; have y4 := zf 4; clear zf hb))
  obtain ⟨w3, hw3⟩ : ∃ w3, w2.alloc (.cells #[.int .i64 (kdG ix).num, .string (kdG ix).word, .slice p m m, .int .i64 (kdG ix).parts, .func (.func (kdG ix).mean) #[] #[]] 65) = w3 := ⟨_, rfl⟩
  obtain ⟨D, hD⟩ : ∃ D, w2.heap.size = D := ⟨_, rfl⟩
  have HE : Hid (KdE b w.heap.size D s (.slice (some ⟨h, 0, none⟩) 8 8) a z g tv #[.int .i64 (kdG ix).num, .string (kdG ix).word, .slice p m m, .int .i64 (kdG ix).parts, .func (.func (kdG ix).mean) #[] #[]] wS w3) := by
    show KdE b w.heap.size D s (.slice (some ⟨h, 0, none⟩) 8 8) a z g tv #[.int .i64 (kdG ix).num, .string (kdG ix).word, .slice p m m, .int .i64 (kdG ix).parts, .func (.func (kdG ix).mean) #[] #[]] wS w3
    rw [← hw3, ← hD]
    exact kdE_new HZB.out hb1 hbZ HX1.out HR1.out HB2.out
  rw [hw3, hD]
  clear hw3 hD n2 l2
  rotate_left
  obtain ⟨w3, hw3⟩ : ∃ w3, put5K w2 w1.heap.size (.int .i64 (kdG ix).num) (.string (kdG ix).word) (.slice p m m) (.int .i64 (kdG ix).parts) (.func (.func (kdG ix).mean) #[] #[]) = w3 := ⟨_, rfl⟩
  obtain ⟨D, hD⟩ : ∃ D, w1.heap.size = D := ⟨_, rfl⟩
  have HE : Hid (KdE b w.heap.size D s (.slice (some ⟨h, 0, none⟩) 8 8) a z g tv #[.int .i64 (kdG ix).num, .string (kdG ix).word, .slice p m m, .int .i64 (kdG ix).parts, .func (.func (kdG ix).mean) #[] #[]] wS w3) := by
    show KdE b w.heap.size D s (.slice (some ⟨h, 0, none⟩) 8 8) a z g tv #[.int .i64 (kdG ix).num, .string (kdG ix).word, .slice p m m, .int .i64 (kdG ix).parts, .func (.func (kdG ix).mean) #[] #[]] wS w3
    rw [← hw3, ← hD]
    exact kdE_mid HZB.out hb1 hbZ HX1.out HR1.out HB2.out
  unfold put5K at hw3
  rw [hw3, hD]
  clear hw3 hD z0 z1 z2 z3 z4 y0 y1 y2 y3 y4 HZ2
  rotate_left
  obtain ⟨w3, hw3⟩ : ∃ w3, put5K w2 wS.heap.size (.int .i64 (kdG ix).num) (.string (kdG ix).word) (.slice p m m) (.int .i64 (kdG ix).parts) (.func (.func (kdG ix).mean) #[] #[]) = w3 := ⟨_, rfl⟩
  obtain ⟨D, hD⟩ : ∃ D, wS.heap.size = D := ⟨_, rfl⟩
  have HE : Hid (KdE b w.heap.size D s (.slice (some ⟨h, 0, none⟩) 8 8) a z g tv #[.int .i64 (kdG ix).num, .string (kdG ix).word, .slice p m m, .int .i64 (kdG ix).parts, .func (.func (kdG ix).mean) #[] #[]] wS w3) := by
    show KdE b w.heap.size D s (.slice (some ⟨h, 0, none⟩) 8 8) a z g tv #[.int .i64 (kdG ix).num, .string (kdG ix).word, .slice p m m, .int .i64 (kdG ix).parts, .func (.func (kdG ix).mean) #[] #[]] wS w3
    rw [← hw3, ← hD]
    exact kdE_old HZB.out hb1 hbZ HX1.out HR1.out HB2.out HZ1.out
  unfold put5K at hw3
  rw [hw3, hD]
  clear hw3 hD z0 z1 z2 z3 z4 y0 y1 y2 y3 y4 HZ2
  rotate_left
  all_goals
    clear HWa HWb HX1 HR1 HB2 HO HW k1 k2 HK1 HK2
    have q1 := (rd_cells HE.out.rb).2.1
    obtain ⟨e0, e1, e2, e3, e4⟩ := cellK_of HE.out.kb
    obtain ⟨z0, z1, z2, z3, z4, zf⟩ := zk_of HE.out.zb
    have y0 := zf 0
    have y1 := zf 1
    have y2 := zf 2
    have y3 := zf 3
    have y4 := zf 4
    have t1 : (g == 1024) = false := beq_eq_false_iff_ne.2 hg
    have t2 : ¬ (64 < depth) := by omega
    obtain ⟨w4, hw4⟩ : ∃ w4, put5K w3 w.heap.size (.int .i64 (kdG ix).num) (.string (kdG ix).word) (.slice p m m) (.int .i64 (kdG ix).parts) (.func (.func (kdG ix).mean) #[] #[]) = w4 := ⟨_, rfl⟩
    have hr := put5K_blk HE.out.zb (.int .i64 (kdG ix).num) (.string (kdG ix).word) (.slice p m m) (.int .i64 (kdG ix).parts) (.func (.func (kdG ix).mean) #[] #[])
    have HF : Hid (RdB w4 b s (.slice (some ⟨h, 0, none⟩) 8 8) a z g tv ∧ BelX b w w4) := by
      show RdB w4 b s (.slice (some ⟨h, 0, none⟩) 8 8) a z g tv ∧ BelX b w w4
      rw [← hw4]
      have hp := put5K_bel (w := w3) (g := w.heap.size) (B := w.heap.size) (.int .i64 (kdG ix).num) (.string (kdG ix).word) (.slice p m m) (.int .i64 (kdG ix).parts) (.func (.func (kdG ix).mean) #[] #[]) (Nat.le_refl _)
      have h3 := HBS.out.trans HE.out.bl
      exact ⟨(put5K_far _ _ _ _ _ hbZ).trans HE.out.rb, ⟨hp.os.trans h3.os, hp.tape.trans h3.tape, hp.output.trans h3.output, Nat.le_trans h3.size hp.size, fun k hk hn => (hp.block k hk).trans (h3.block k hk hn)⟩⟩
    rw [hw4] at hr
    obtain ⟨q0', q1', q2', q3', q4'⟩ := cellK_of hr
    unfold put5K at hw4
    clear zf HE hg hd
    go_wp2_with fail
    exact bodyPost_ret (v := kV (kdG ix) (u ix)) (by simp [results, Tryz.results64, go_sem, kV, fnB, HU.out, *]) rfl ⟨rfl, HF.out.1, HF.out.2⟩
end Go.Proofs.YtiiajhomdpfafaaGreatDoor
namespace Go.Proofs.YtiiajhomdpfafaaGreatDoor
open Go.RowKit

def ixP (k : Nat) : Nat := if k = 0 then 3 else if k = 1 then 7 else 5
theorem fdI_X : fdI fdX 3 := ⟨acF2, Or.inl rfl⟩
theorem fdI_Cur : fdI fdCur 7 := ⟨acF7, by decide, by decide⟩
theorem fdI_From : fdI fdFrom 5 := ⟨acF5, by decide, by decide⟩
end Go.Proofs.YtiiajhomdpfafaaGreatDoor
namespace Go.Proofs.YtiiajhomdpfafaaGreatDoor
open Go.RowKit

set_option maxRecDepth 20000 in
set_option maxHeartbeats 1600000 in
theorem readX_3 (f b g bp op cp : Nat) (ha : AcF f 3) (t : Trm) (w : World) (hb : w.heap[b]? = some (.cells #[fnB f] 101)) (ht : TrB w g t) (hp : PfT 7 6 10 bp op cp w) :
    Calls Tryz.prog 69 #[.pointer (some ⟨g, 0, none⟩), .string ⟨#[51]⟩, .pointer (some ⟨b, 0, none⟩)] w fun e w' => e = .returned (.bool true) ∧ w' = w.setCell ⟨g, 3, none⟩ (.float .f64 4613937818241073152) := by
  have H := hidD (tp_3 bp op cp w hp)
  have c0 := cell1_of hb
  have dc := (trm_cells ht).2.2.2.1
  have df := ht.frozen 3
  have HA := hidD ha.at_
  have he := ha.en
  have hst := store_fltD
  unfold fnB at c0
  clear hb ht hp ha
  go_enter Tryz.func69, Tryz.ntmps69
  go_wp2_with fail
  refine H.out.mono ?_
  rintro e w1 ⟨rfl, rfl⟩
  go_wp2_with fail
  refine (HA.out _ _).mono ?_
  rintro e w1 ⟨rfl, rfl⟩
  go_wp2_with fail
  go_ret
  exact ⟨rfl, rfl⟩
set_option maxRecDepth 20000 in
set_option maxHeartbeats 1600000 in
theorem readX_05 (f b g bp op cp : Nat) (ha : AcF f 3) (t : Trm) (w : World) (hb : w.heap[b]? = some (.cells #[fnB f] 101)) (ht : TrB w g t) (hp : PfT 7 6 10 bp op cp w) :
    Calls Tryz.prog 69 #[.pointer (some ⟨g, 0, none⟩), .string ⟨#[48, 46, 53]⟩, .pointer (some ⟨b, 0, none⟩)] w fun e w' => e = .returned (.bool true) ∧ w' = w.setCell ⟨g, 3, none⟩ (.float .f64 4602678819172646912) := by
  have H := hidD (tp_05 bp op cp w hp)
  have c0 := cell1_of hb
  have dc := (trm_cells ht).2.2.2.1
  have df := ht.frozen 3
  have HA := hidD ha.at_
  have he := ha.en
  have hst := store_fltD
  unfold fnB at c0
  clear hb ht hp ha
  go_enter Tryz.func69, Tryz.ntmps69
  go_wp2_with fail
  refine H.out.mono ?_
  rintro e w1 ⟨rfl, rfl⟩
  go_wp2_with fail
  refine (HA.out _ _).mono ?_
  rintro e w1 ⟨rfl, rfl⟩
  go_wp2_with fail
  go_ret
  exact ⟨rfl, rfl⟩
theorem conv_2 (w : World) : ∃ C W1, (convert 9 109 (.string ⟨#[50]⟩)).run Tryz.prog w = .ok (.slice (some ⟨w.heap.size, 0, none⟩) 1 C) W1 ∧ W1.cell? ⟨w.heap.size, 0, none⟩ = some (.int .u8 50) ∧ Below w.heap.size w W1 := by
  refine ⟨_, _, Go.Lib.run_convert_string_bytes w 9 109 5 ⟨#[50]⟩ Tryz.underlying9 Tryz.underlying109 Tryz.underlying5, Go.Lib.bytesWorld_cell w _ _ 0 (by decide), ⟨rfl, rfl, rfl, by rw [Go.Lib.bytesWorld_size]; omega, fun k hk => Go.Lib.bytesWorld_at_old w _ _ k hk⟩⟩
set_option maxRecDepth 20000 in
set_option maxHeartbeats 3200000 in
theorem atoi_2 (w : World) : Calls Tryz.prog 159 #[.string ⟨#[50]⟩] w fun e w' => e = .returned (.tuple #[.int .i64 2, .nilIface]) ∧ Below w.heap.size w w' := by
  have hb0 : ∀ h, ({ data := #[50] } : ByteArray)[0]'h = 50 := fun _ => rfl
  obtain ⟨C, W1, hcv, hc0, hbl⟩ := conv_2 w
  have HB := hidD hbl
  clear hbl
  go_enter Tryz.func159, Tryz.ntmps159
  go_wp2
  refine wp_loop_rounds 3 ?_
  rw [rounds_succ]
  go_wp2
  rw [rounds_succ]
  go_wp2
  go_ret2
  exact ⟨rfl, HB.out⟩
def day31 : ByteArray := ⟨#[50, 48, 51, 49, 45, 48, 49, 45, 48, 49]⟩
theorem parse_31 (w : World) : Calls Tryz.prog 119 #[.string day31] w fun e w' => e = .returned (.tuple #[.int .i64 47847, .int .i64 0]) ∧ Below w.heap.size w w' := by
  have h := parse_day day31 w (by unfold txtOk; decide) (by unfold okD; decide)
  rw [show dayI (parseY day31) (parseM day31) (parseD day31) = 47847 by decide] at h
  exact h
theorem whp_2 : WhP ⟨#[50]⟩ := Or.inr ⟨0, by decide, by decide, by decide, by decide, fun j h1 h2 => absurd h2 (by show ¬ j < 1; omega)⟩
set_option maxRecDepth 20000 in
theorem satoi_2 (w : World) : Calls Tryz.prog 122 #[.string ⟨#[50]⟩] w fun e w' => e = .returned (.tuple #[.int .i64 2, .nilIface]) ∧ Below w.heap.size w w' := by
  have H := hidD (atoi_2 w)
  go_enter Tryz.func122, Tryz.ntmps122
  go_wp2_with fail
  refine H.out.mono ?_
  rintro e w1 ⟨rfl, hb⟩
  have HB := hidD hb
  clear hb
  go_wp2_with fail
  go_ret2
  exact ⟨rfl, HB.out⟩
set_option maxRecDepth 20000 in
theorem int_2 (w : World) : Calls Tryz.prog 82 #[.string ⟨#[50]⟩] w fun e w' => e = .returned (.tuple #[.int .i64 2, .bool true]) ∧ Below w.heap.size w w' := by
  have H := hidD (whole_any ⟨#[50]⟩ w (by decide))
  have HA := hidD satoi_2
  go_enter Tryz.func82, Tryz.ntmps82
  go_wp2_with fail
  refine H.out.mono ?_
  rintro e w1 ⟨B, rfl, hB, rfl⟩
  obtain rfl : B = true := hB.2 whp_2
  clear hB
  go_wp2_with fail
  refine (HA.out _).mono ?_
  rintro e w2 ⟨rfl, hb⟩
  have HB := hidD hb
  clear hb
  go_wp2_with fail
  go_ret2
  exact ⟨rfl, HB.out⟩
set_option maxRecDepth 20000 in
theorem readDay_31 (w : World) : Calls Tryz.prog 80 #[.string day31] w fun e w' => e = .returned (.tuple #[.int .i64 47847, .bool true]) ∧ Below w.heap.size w w' := by
  have H := hidD (parse_31 w)
  go_enter Tryz.func80, Tryz.ntmps80
  go_wp2_with fail
  refine H.out.mono ?_
  rintro e w1 ⟨rfl, hb⟩
  have HB := hidD hb
  clear hb
  go_wp2_with fail
  go_ret2
  exact ⟨rfl, HB.out⟩
end Go.Proofs.YtiiajhomdpfafaaGreatDoor
