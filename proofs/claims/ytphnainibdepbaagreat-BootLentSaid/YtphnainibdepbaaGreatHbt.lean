/- The contracts of package boot's cuts and interests. The contract of package boot's interests. -/
import Derived.Test.YtphnainibdepbaaGreatHbe
import Derived.Test.YtphnainibdepbaaGreatHbg
import Derived.Test.YtphnainibdepbaaGreatHba
import Derived.Test.YtphnainibdepbaaGreatHbo
import Derived.Deep.RegionHeld3
namespace Go.Proofs.YtphnainibdepbaaGreat
open Go.RowKit

def CutO (E : Int) (L : List Int) (w : World) (e : Ending) (w' : World) : Prop :=
  (E ≠ 0 ∧ e = .returned (.tuple #[.slice none 0 0, .int .i64 E])) ∨ (E = 0 ∧ ∃ g c, e = .returned (.tuple #[.slice (some ⟨g, 0, none⟩) L.length c, .int .i64 0]) ∧ VSrc w' (some ⟨g, 0, none⟩) g 0 L.length (xV L) ∧ L.length ≤ c ∧ c ≤ maxLen ∧ w.heap.size ≤ g)
set_option maxHeartbeats 1600000 in
theorem bCuts_dep (base : Int) (q : Quo) (w : World) (hk : q.kind = 1) :
    Calls Tryz.prog 27 #[.int .i64 base, .agg #[.int .i64 q.kind, .int .i64 q.fin, .int .i64 q.count, .int .i64 q.n, .float .f32 q.rate]] w fun e w' => CutO 0 [base, q.fin] w e w' ∧ Below w.heap.size w w' := by
  obtain ⟨kind, fin, count, n, r⟩ := q
  have H0 := hideS (qbx_at w ⟨kind, fin, count, n, r⟩)
  dsimp only at *
  subst hk
  go_enter Tryz.func27, Tryz.ntmps27
  go_wp2_with fail
  go_ret2
  refine ⟨Or.inr ⟨rfl, _, 2, rfl, ⟨fun _ => rfl, fun _ => by simp, fun j hj => ?_⟩, Nat.le_refl _, by unfold maxLen; omega, by simp⟩, H0.out.bl.alloc (by simp) _⟩
  rcases (show j = 0 ∨ j = 1 by simp at hj; omega) with rfl | rfl
  · simp; rfl
  · simp; rfl
set_option maxHeartbeats 1600000 in
theorem bCuts_go (base : Int) (q : Quo) (R : Ending → World → Prop) (w : World) (hk : q.kind = 2)
    (HS : Hid (∀ wx, Below w.heap.size w wx → Calls Tryz.prog 42 #[.agg #[.int .i64 base, .int .i64 q.fin, .int .i64 q.n, .int .i64 3, .int .i64 1, .int .i64 0, .int .i64 0, .int .i64 0, .int .i64 0, .slice none 0 0]] wx fun e w' => ∃ v E, e = .returned (.tuple #[v, .int .i64 E]) ∧ R e w')) :
    Calls Tryz.prog 27 #[.int .i64 base, .agg #[.int .i64 q.kind, .int .i64 q.fin, .int .i64 q.count, .int .i64 q.n, .float .f32 q.rate]] w R := by
  obtain ⟨kind, fin, count, n, r⟩ := q
  have H0 := hideS (qbx_at w ⟨kind, fin, count, n, r⟩)
  dsimp only at *
  subst hk
  go_enter Tryz.func27, Tryz.ntmps27
  go_wp2_with fail
  refine (HS.out _ H0.out.bl).mono ?_
  rintro e w1 ⟨v, E, rfl, hR⟩
  have HR := hideS hR
  clear hR
  go_wp2_with fail
  exact HR.out
theorem okC_nil : OkC 0 ([] : List Rul) := ⟨by simp, by omega, by omega, fun r hr => by cases hr⟩
theorem bCuts_any {base : Int} {q : Quo} {E : Int} {L : List Int} (ok : OkQ base q) (h : CutR base q E L) (w : World) :
    Calls Tryz.prog 27 #[.int .i64 base, .agg #[.int .i64 q.kind, .int .i64 q.fin, .int .i64 q.count, .int .i64 q.n, .float .f32 q.rate]] w fun e w' => CutO E L w e w' ∧ Below w.heap.size w w' := by
  have go : ∀ K, q.kind = 2 → DatR (spcQ base q) K → ∀ wx, Below w.heap.size w wx → Calls Tryz.prog 42 #[.agg #[.int .i64 base, .int .i64 q.fin, .int .i64 q.n, .int .i64 3, .int .i64 1, .int .i64 0, .int .i64 0, .int .i64 0, .int .i64 0, .slice none 0 0]] wx fun e w' => DatO (spcQ base q) K wx e w' ∧ Below wx.heap.size wx w' := fun K hk hK wx hb => schDates_yes (spcQ base q) 0 K none 0 0 0 [] wx (okQ_spc ok hk) okC_nil hK ⟨fun hx => by simp at hx, fun hx => by simp at hx, fun j hj => by simp at hj⟩
  cases h with
  | dep hk => exact bCuts_dep base q w hk
  | long K hk hK hl =>
    refine bCuts_go base q _ w hk (fun wx hb => (go K hk hK wx hb).mono fun e w' ⟨hd, hb'⟩ => ?_)
    rcases hd with ⟨_, rfl⟩ | ⟨c, _⟩
    · exact ⟨_, _, rfl, Or.inl ⟨by decide, rfl⟩, hb.trans (hb'.mono hb.size)⟩
    · omega
  | swap K hk hK hl =>
    refine bCuts_go base q _ w hk (fun wx hb => (go K hk hK wx hb).mono fun e w' ⟨hd, hb'⟩ => ?_)
    rcases hd with ⟨c, _⟩ | ⟨_, v, rfl, ho⟩
    · omega
    · have hl2 := dat_len (spcQ base q) (cutN (spcQ base q) K)
      obtain ⟨g, c, rfl, hs, h1, h2, h3⟩ := kown_src (xs := datL (spcQ base q) (cutN (spcQ base q) K)) ho hl2 (by omega)
      refine ⟨_, _, rfl, Or.inr ⟨rfl, g, c, by rw [hl2], by rw [hl2]; exact hs, by rw [hl2]; exact h2, h3, Nat.le_trans hb.size h1⟩, hb.trans (hb'.mono hb.size)⟩
structure IntB (w : World) (W : Int) (v : Value) (q : Quo) (wr : World) : Prop where
  k0 : wr.cell? ⟨w.heap.size, 0, none⟩ = some (.int .i64 W)
  k1 : wr.cell? ⟨w.heap.size, 1, none⟩ = some v
  t0 : wr.cell? ⟨w.heap.size + 1, 0, none⟩ = some (.int .i64 q.kind)
  t1 : wr.cell? ⟨w.heap.size + 1, 1, none⟩ = some (.int .i64 q.fin)
  t2 : wr.cell? ⟨w.heap.size + 1, 2, none⟩ = some (.int .i64 q.count)
  t3 : wr.cell? ⟨w.heap.size + 1, 3, none⟩ = some (.int .i64 q.n)
  t4 : wr.cell? ⟨w.heap.size + 1, 4, none⟩ = some (.float .f32 q.rate)
  bl : Below w.heap.size w wr
  lt : w.heap.size + 1 < wr.heap.size
theorem intB_at (w : World) (W : Int) (v : Value) (q : Quo) : IntB w W v q ((w.alloc (.cells #[.int .i64 W, v] 24)).alloc (.cells #[.int .i64 q.kind, .int .i64 q.fin, .int .i64 q.count, .int .i64 q.n, .float .f32 q.rate] 30)) :=
  ⟨by simp, by simp, by simp, by simp, by simp, by simp, by simp, ((Below.refl _ _).alloc (Nat.le_refl _) _).alloc (by simp) _, by simp⟩
theorem IntB.stay {w wr w' : World} {W : Int} {v : Value} {q : Quo} {B : Nat} (h : IntB w W v q wr) (hb : Below B wr w') (hB : w.heap.size + 1 < B) : IntB w W v q w' :=
  ⟨(hb.cell (p := ⟨w.heap.size, 0, none⟩) (show w.heap.size < B by omega)).trans h.k0, (hb.cell (p := ⟨w.heap.size, 1, none⟩) (show w.heap.size < B by omega)).trans h.k1, (hb.cell (p := ⟨w.heap.size + 1, 0, none⟩) hB).trans h.t0, (hb.cell (p := ⟨w.heap.size + 1, 1, none⟩) hB).trans h.t1, (hb.cell (p := ⟨w.heap.size + 1, 2, none⟩) hB).trans h.t2, (hb.cell (p := ⟨w.heap.size + 1, 3, none⟩) hB).trans h.t3, (hb.cell (p := ⟨w.heap.size + 1, 4, none⟩) hB).trans h.t4, h.bl.trans (hb.mono (by omega)), Nat.lt_of_lt_of_le h.lt hb.size⟩
theorem IntB.step {w wr w' : World} {W : Int} {v : Value} {q : Quo} (h : IntB w W v q wr) (hb : Below wr.heap.size wr w') : IntB w W v q w' := h.stay hb h.lt

set_option maxHeartbeats 1600000 in
theorem bInts_bad {base W E : Int} {q : Quo} {L : List Int} (ok : OkQ base q) (h : CutR base q E L) (hE : E ≠ 0) (v : Value) (w : World) :
    Calls Tryz.prog 16 #[.int .i64 base, .agg #[.int .i64 W, v], .agg #[.int .i64 q.kind, .int .i64 q.fin, .int .i64 q.count, .int .i64 q.n, .float .f32 q.rate]] w fun e w' => e = .returned (.tuple #[.slice none 0 0, .int .i64 E]) ∧ Below w.heap.size w w' := by
  have H0 := hideS (intB_at w W v q)
  have HC := hideS fun wx => bCuts_any ok h wx
  have d1 : (E != 0) = true := bne_iff_ne.2 hE
  have HE := hideS hE
  clear ok h hE
  obtain ⟨kind, fin, count, n, r⟩ := q
  dsimp only at *
  go_enter Tryz.func16, Tryz.ntmps16
  go_wp2_with fail
  refine (HC.out _).mono ?_
  rintro e w1 ⟨⟨_, rfl⟩ | ⟨c, _⟩, hb⟩
  · have H1 := hideS (H0.out.step hb)
    clear hb
    go_wp2_with fail
    go_ret2
    exact ⟨rfl, H1.out.bl⟩
  · exact absurd c HE.out

end Go.Proofs.YtphnainibdepbaaGreat
namespace Go.Proofs.YtphnainibdepbaaGreat
open Go.RowKit

set_option maxRecDepth 20000 in
set_option maxHeartbeats 3200000 in
theorem bInts_ok {base W : Int} {q : Quo} {L : List Int} {n : Nat} (ok : OkQ base q) (hc : CutR base q 0 L) (hF : CutF base q n L) (p : Option Addr) (b off c : Nat) (rs : List Rul) (w : World) (hC : OkC W rs) (hs : RSrc w p b off rs) :
    Calls Tryz.prog 16 #[.int .i64 base, .agg #[.int .i64 W, .slice p rs.length c], .agg #[.int .i64 q.kind, .int .i64 q.fin, .int .i64 q.count, .int .i64 q.n, .float .f32 q.rate]] w fun e w' => ∃ g c, e = .returned (.tuple #[.slice (some ⟨g, 0, none⟩) n c, .int .i64 0]) ∧ TSrcI w' (some ⟨g, 0, none⟩) g 0 n (intF W rs q L) ∧ n ≤ c ∧ c ≤ maxLen ∧ w.heap.size ≤ g ∧ Below w.heap.size w w' := by
  have H0 := hideS (intB_at w W (.slice p rs.length c) q)
  have HC := hideS fun wx => bCuts_any ok hc wx
  have hlr : rs.length ≤ 9223372036854775807 := by have := hC.len; omega
  have HY := hideS fun a b' (ha : isDayP a) (hb' : isDayP b') wx hb => (yea_frac (a := a) (b := b') ok hC ha hb').year p b off c w hs hlr wx hb
  have HM := hideS fun a b' (ha : isDayP a) (hb' : isDayP b') => amt_is W rs (q := q) (a := a) (b := b') ok.fn ha hb'
  have HFr := hideS hF
  have hcv : ∀ w, (convert 28 42 (.float .f32 q.rate)).run Tryz.prog w = .ok (.float .f64 (dblW q.rate)) w := fun w => run_convert_float_float (P := Tryz.prog) (w := w) 28 42 .f32 .f64 q.rate (dblW q.rate) (by rw [und32]; rfl) und64 (conv_dblW (by
    have := ok.fn
    rw [dblW_fin] at this
    have := of_decide_eq_true this
    omega))
  have hn1 := hF.lo
  have hn2 := hF.hi
  have hL := hF.len
  clear hF ok hc hC hs
  have HQ : Hid (∀ a b', yeaV W rs q a b' = yW (fracS (opB W rs) q.count a b') (fracQ q.count)) := fun _ _ => rfl
  go_enter Tryz.func16, Tryz.ntmps16
  go_wp2_with fail
  refine (HC.out _).mono ?_
  rintro e w1 ⟨⟨c, _⟩ | ⟨_, g, cd, rfl, hsd, hcd, hcm, hg⟩, hb⟩
  · exact absurd rfl c
  have H1 := hideS (H0.out.step hb)
  have HD := hideS hsd
  have hgl : g < w1.heap.size := hsd.lt (by omega)
  have hgw := H1.out.lt
  rw [hL] at HD hcd ⊢
  clear hb H0 HC hsd
  go_wp2_with fail
  go_loopw [10, 27] (fun l i wr => ∃ (k : Nat) (lv : Value), k ≤ n ∧ i = .int .i64 k ∧ lv = l ∧ Hid (wr.ownsRow w1.heap.size 74 2 lv k (rowT (intL W rs q L k))) ∧ Hid (Below w1.heap.size w1 wr)) (fun _ i _ => n - (intOf i).toNat)
  case atStart => exact ⟨0, _, Nat.zero_le _, rfl, rfl, town_nil _ _, Below.refl _ _⟩
  case round =>
    obtain ⟨k, lv, hk, rfl, rfl, HO, HB⟩ := hrel
    by_cases hlt : k < n
    · have HW := hideS (H1.out.stay HB.out hgw)
      have t2 := HW.out.t2
      have t4 := HW.out.t4
      have k0 := HW.out.k0
      have k1 := HW.out.k1
      have a0 : wr.cell? ⟨g, k, none⟩ = some (.int .i64 (L.getD k 0)) := by
        have := (HD.out.below HB.out).cell k (by omega)
        rw [Nat.zero_add] at this; exact this
      have a1 : wr.cell? ⟨g, 1 + k, none⟩ = some (.int .i64 (L.getD (k + 1) 0)) := by
        have := (HD.out.below HB.out).cell (k + 1) (by omega)
        rw [Nat.zero_add, Nat.add_comm k 1] at this
        rw [show 1 + k = k + 1 by omega] at this ⊢
        exact this
      have ha := HFr.out.day k (by omega)
      have hb' := HFr.out.day (k + 1) (by omega)
      have HYk := hideS (HY.out _ _ ha hb' (wr.drewN 1) ⟨HW.out.bl.os, HW.out.bl.tape, HW.out.bl.output, HW.out.bl.size, HW.out.bl.block⟩)
      have hmk := HM.out _ _ ha hb'
      have HNx := hideS (intL_succ W rs q L k)
      have HIk := hideS (show intF W rs q L k = ⟨L.getD (k + 1) 0, amtV W rs q (L.getD k 0) (L.getD (k + 1) 0)⟩ from rfl)
      rw [HQ.out] at hmk
      generalize L.getD k 0 = da at *
      generalize L.getD (k + 1) 0 = db at *
      generalize amtV W rs q da db = am at *
      generalize yW (fracS (opB W rs) q.count da db) (fracQ q.count) = y at *
      clear ha hb'
      have HA0 := hideS a0
      have hk1 : k < n + 1 := by omega
      have hk2 : (0 : Int) ≤ (k : Int) := by omega
      have hk3 : (k : Int) < ((n + 1 : Nat) : Int) := by omega
      have hk4 : (k : Int) < (n : Int) + 1 := by omega
      have HGl : Hid (g < wr.heap.size) := Nat.lt_of_lt_of_le hgl HB.out.size
      go_wp2_with fail
      go_region_held3 (fun w' => w'.cell? ⟨w.heap.size + 1, 2, none⟩ = some (.int .i64 q.count) ∧ w'.cell? ⟨w.heap.size, 0, none⟩ = some (.int .i64 W) ∧ w'.cell? ⟨w.heap.size, 1, none⟩ = some (.slice p rs.length c) ∧ w'.cell? ⟨g, k, none⟩ = some (.int .i64 da)) (first | go_keep | exact ⟨HW2.out.t2, HW2.out.k0, HW2.out.k1, HG2.out⟩) ((go_at_call 28; refine HYk.out.mono ?_; rintro e w2 ⟨rfl, hb2⟩; have HB2 : Hid (Below wr.heap.size wr w2) := ⟨hb2.os, hb2.tape, hb2.output, hb2.size, hb2.block⟩; have HW2 := hideS (HW.out.step HB2.out); have HG2 := hideS ((HB2.out.cell (p := ⟨g, k, none⟩) HGl.out).trans HA0.out); clear hb2))
      all_goals
        have HO2 := hideS (town_below HO.out HB2.out)
        have HB3 := hideS (HB.out.trans (HB2.out.mono HB.out.size))
        have t4 := HW2.out.t4
        have rm : ∀ w, (binOp .mul 42 (.float .f64 (dblW q.rate)) (.float .f64 y)).run Tryz.prog w = .ok (.float .f64 am) w := fun w => run_float_arith (P := Tryz.prog) w .mul 42 .f64 _ _ _ hmk
        clear t2 k0 k1 a0 a1 HW HYk
        have hal : Below w2.heap.size w2 (w2.alloc (.cells #[.int .i64 db, .float .f64 am] 74)) := (Below.refl _ _).alloc (Nat.le_refl _) _
        have HO3 := hideS (town_below HO2.out hal)
        have HC3 : Hid (ItrAt (w2.alloc (.cells #[.int .i64 db, .float .f64 am] 74)) w2.heap.size 0 ⟨db, am⟩) := ⟨by simp, by simp⟩
        have HB4 := hideS (HB3.out.trans (hal.mono HB3.out.size))
        have HN4 := hideS HB4.out.size
        clear hal HO HO2
        go_wp2_with (at_builtin; refine wpList_append_itr _ rfl (.tmp 47) (.tmp 55) rfl w1.heap.size lv k (intL W rs q L k) rfl HO3.out w2.heap.size ⟨db, am⟩ rfl HC3.out (by omega) HN4.out ?_; intro v5 w5 ho5 hg5)
        have HO5 : Hid (w5.ownsRow w1.heap.size 74 2 v5 (k + 1) (rowT (intL W rs q L (k + 1)))) := by show _; rw [HNx.out, HIk.out]; exact ho5
        have HB5 := hideS (HB4.out.trans (tgrown_below HO3.out hg5 HN4.out))
        clear ho5 hg5 HO3 HC3
        go_wp2_with fail
        go_roundw
        case rel => exact ⟨k + 1, _, by omega, by simp, rfl, HO5, HB5⟩
        case measure => simp [intOf]; omega
    · obtain rfl : k = n := by omega
      obtain ⟨p', g', c', hl', hs', h1', h2', h3'⟩ := town_src (rs := intL W rs q L k) HO.out (intL_len _ _ _ _ _)
      subst hl'
      have hp' := hs'.at_ (by omega)
      subst hp'
      have HT := hideS hs'
      have HX := hideS (And.intro h1' (And.intro h2' h3'))
      clear hs' h1' h2' h3' HO
      go_wp2_with fail
      go_ret2
      refine ⟨g', c', rfl, ⟨fun _ => rfl, HT.out.lt, fun j hj => ?_⟩, HX.out.2.1, HX.out.2.2, Nat.le_trans H1.out.bl.size HX.out.1, H1.out.bl.trans (HB.out.mono H1.out.bl.size)⟩
      have := HT.out.cell j hj
      rw [intL_at W rs q L hj] at this
      exact this
end Go.Proofs.YtphnainibdepbaaGreat
