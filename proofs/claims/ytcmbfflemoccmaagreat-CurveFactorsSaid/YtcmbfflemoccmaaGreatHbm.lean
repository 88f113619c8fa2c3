/- The contract of the document's between: a weighted sum, divided and rounded once. The contract of the document's At: nodes, flat and linear pieces. Weighted sums in plain words: what between tells is one rounding of a quotient. No word of the program. The document's At in plain words: nodes, flat, linear and cubic pieces. Between nodes nothing falls out, and what rises rises: linear pieces, and cubic ones by their points. No word of the program. No NaN among a table's slopes and points; so points lie between the nodes. No word of the program. -/
import Derived.Test.YtcmbfflemoccmaaGreatHbe
import Derived.Test.YtcmbfflemoccmaaGreatHbk
import Derived.Test.YtcmbfflemoccmaaGreatHbl
import Derived.Test.YtcmbfflemoccmaaGreatHba
namespace Go.Proofs.YtcmbfflemoccmaaGreat
open Go.RowKit

def wAt (ws : List Int) (ys : List Nat) : Nat → A.St
  | 0 => ⟨0, 0⟩
  | k + 1 => (wAt ws ys k).merge (A.prodG (fi (ws.getD k 0)) (ys.getD k 0))
set_option maxHeartbeats 3200000 in
theorem between_any (bx ox cx b2 oy cy n d : Nat) (ws : List Int) (ys : List Nat) (w : World) (hX : VSrc w (some ⟨bx, ox, none⟩) bx ox n (xV ws)) (hY : VSrc w (some ⟨b2, oy, none⟩) b2 oy n (yV ys)) (hn : 1 ≤ n) (hn' : n ≤ 10) (hw : ∀ i < n, -9007199254740992 ≤ ws.getD i 0 ∧ ws.getD i 0 ≤ 9007199254740992) (hy : ∀ i < n, ys.getD i 0 < 18446744073709551616) (hd : 1 ≤ d) (hd' : d ≤ 9223372036854775807) :
    Calls Tryz.prog 59 #[.slice (some ⟨bx, ox, none⟩) n cx, .slice (some ⟨b2, oy, none⟩) n cy, .int .i64 (d : Int)] w fun e w' => e = .returned (.int .u64 (overSt (wAt ws ys n) d : Int)) ∧ Below w.heap.size w w' := by
  have HX := hideS hX
  have HY := hideS hY
  have HW := hideS hw
  have HYl := hideS hy
  have H0 := hideS (held_new w)
  obtain ⟨res, hres⟩ : ∃ res : Int, (overSt (wAt ws ys n) d : Int) = res := ⟨_, rfl⟩
  have HRes := hideS hres
  rw [hres]
  clear hX hY hw hy hres
  go_enter Tryz.func59, Tryz.ntmps59
  go_wp2_with fail
  go_loopw [8] (fun i wr => ∃ k : Nat, k ≤ n ∧ i = .int .i64 k ∧ Hid (Held w wr w.heap.size (wAt ws ys k) k)) (fun i _ => n - (intOf i).toNat)
  case atStart => exact ⟨0, Nat.zero_le _, rfl, H0⟩
  case round =>
    clear H0
    obtain ⟨k, hk, rfl, HH⟩ := hrel
    obtain ⟨⟨neg, va, M, ee, hb, hdn, hfr, hdv⟩, hbl, hlo, hlt0⟩ := HH.out
    have h4 := held4_of hb
    by_cases hlt : k < n
    · have hcx : wr.cell? ⟨bx, ox + k, none⟩ = some (.int .i64 (ws.getD k 0)) := (hbl.cell (p := ⟨bx, ox + k, none⟩) (HX.out.lt (by omega))).trans (HX.out.cell k hlt)
      have hcy : wr.cell? ⟨b2, oy + k, none⟩ = some (.int .u64 ((ys.getD k 0 : Nat) : Int)) := (hbl.cell (p := ⟨b2, oy + k, none⟩) (HY.out.lt (by omega))).trans (HY.out.cell k hlt)
      have hb2 : b2 < wr.heap.size := Nat.lt_of_lt_of_le (HY.out.lt (by omega)) hbl.size
      have hbx : bx < wr.heap.size := Nat.lt_of_lt_of_le (HX.out.lt (by omega)) hbl.size
      have hwk := HW.out k hlt
      have hyk := HYl.out k hlt
      have HI := hideS fun wx => refInt_any (ws.getD k 0) wx (by omega) (by omega)
      have hfk := fi_lt hwk.1 hwk.2
      obtain ⟨x, hxx⟩ : ∃ x, fi (ws.getD k 0) = x := ⟨_, rfl⟩
      obtain ⟨xi, hxi⟩ : ∃ xi : Int, xi = (x : Int) := ⟨_, rfl⟩
      obtain ⟨y, hyy⟩ : ∃ y, ys.getD k 0 = y := ⟨_, rfl⟩
      obtain ⟨yi, hyi⟩ : ∃ yi : Int, yi = (y : Int) := ⟨_, rfl⟩
      have HNx : Hid (wAt ws ys (k + 1) = (wAt ws ys k).merge (A.prodG x y)) := by show _ = _; rw [← hxx, ← hyy]; rfl
      rw [hxx] at HI hfk
      rw [hyy] at hyk
      rw [hyy, ← hyi] at hcy
      rw [← hxi] at HI
      have HXI := hideS hxi
      have HYI := hideS hyi
      have HU : Hid (U64 xi) := by show U64 _; rw [hxi]; exact u64N hfk
      have HU2 : Hid (U64 yi) := by show U64 _; rw [hyi]; exact u64N hyk
      generalize ws.getD k 0 = wk at *
      obtain ⟨a, haa⟩ : ∃ a, wAt ws ys k = a := ⟨_, rfl⟩
      rw [haa] at hdv h4 hb HNx
      obtain ⟨pa, la, ca, rfl⟩ := hdn.shape
      have HAd : Hid (∀ w1, Below wr.heap.size wr w1 → Calls Tryz.prog 96 #[AV (a.s : Int) neg (.slice pa la ca) ee, .int .u64 xi, .int .u64 yi] w1 (AddEnd w1 (.slice pa la ca) M (wAt ws ys (k + 1)) (k + 1))) := fun w1 hb1 => by
        have := dProd a.s neg (.slice pa la ca) M ee a.N k x y xi yi w1 (hdn.below hb1) hdv (fewK_of (by omega)) HU.out HU2.out HXI HYI
        rw [st_eta, ← HNx.out] at this
        exact this
      have HPut : Hid (∀ w1, Below wr.heap.size wr w1 → ∀ w2 r, AddEnd w1 (.slice pa la ca) M (wAt ws ys (k + 1)) (k + 1) r w2 → ∃ neg' p l c e', r = .returned (AV ((wAt ws ys (k + 1)).s : Int) neg' (.slice p l c) e') ∧ Held4 w2 w.heap.size (a.s : Int) neg (.slice pa la ca) ee ∧ Held w (put4 w2 w.heap.size ((wAt ws ys (k + 1)).s : Int) neg' (.slice p l c) e') w.heap.size (wAt ws ys (k + 1)) (k + 1)) := fun w1 hb1 w2 r hend =>
        held_put (wr := w1) (by rw [hb1.block w.heap.size hlt0]; exact hb) hfr (hbl.trans (hb1.mono hbl.size)) hlo (Nat.lt_of_lt_of_le hlt0 hb1.size) hend
      have q0 := h4.c0
      have q1 := h4.c1
      have q2 := h4.c2
      have q3 := h4.c3
      have HZ := hideS (And.intro hlt0 (And.intro hbx hb2))
      have g3 : (0 : Int) ≤ (k : Int) := by omega
      have g4 : (k : Int) < (n : Int) := by omega
      clear hxx hxi haa hdn hdv hb hfr hlo hlt0 h4 HH hyy hyi hwk hyk hfk hb2 hbx hbl
      go_wp2_with fail
      go_region_with (first | ((go_at_call 72; refine (HI.out _).mono ?_; rintro r w1 ⟨rfl, hb1⟩; have hb1' : Below wr.heap.size wr w1 := ((Below.refl wr.heap.size wr).drew.trans hb1); have HB1 := hideS hb1'; have c0 := (hb1'.cell (p := ⟨w.heap.size, 0, none⟩) HZ.out.1).trans q0; have c1 := (hb1'.cell (p := ⟨w.heap.size, 1, none⟩) HZ.out.1).trans q1; have c2 := (hb1'.cell (p := ⟨w.heap.size, 2, none⟩) HZ.out.1).trans q2; have c3 := (hb1'.cell (p := ⟨w.heap.size, 3, none⟩) HZ.out.1).trans q3; have cy1 := (hb1'.cell (p := ⟨b2, oy + k, none⟩) HZ.out.2.2).trans hcy; have HAd1 := hideS (HAd.out w1 hb1'); clear hb1 hb1')) | ((go_at_call 96; refine HAd1.out.mono ?_; intro r w2 hend; obtain ⟨neg', p4, l4, c4, e4, rfl, K4, hH⟩ := HPut.out w1 HB1.out w2 r hend; have HH := hideS hH; have k0 := K4.c0; have k1 := K4.c1; have k2 := K4.c2; have k3 := K4.c3; have l0 := K4.f0; have l1 := K4.f1; have l2 := K4.f2; have l3 := K4.f3; clear hend hH K4)))
      all_goals
        go_wp2_with fail
        go_roundw
        case rel => exact ⟨k + 1, by omega, by simp, HH⟩
        case measure => simp [intOf]; omega
    · obtain rfl : k = n := by omega
      obtain ⟨pa, la, ca, rfl⟩ := hdn.shape
      have q0 := h4.c0
      have q1 := h4.c1
      have q2 := h4.c2
      have q3 := h4.c3
      have HV := hideS (dOverN _ neg _ M ee _ k d wr hdn hdv (fewK_of (by omega)) hd hd')
      rw [st_eta, HRes.out] at HV
      have HBl := hideS hbl
      have hge : ¬ (k : Int) < (k : Int) := by omega
      clear hdn hdv hb hfr hbl hlo hlt0 h4 HH
      go_wp2_with fail
      refine HV.out.mono ?_
      rintro r w1 ⟨rfl, hb⟩
      have HB1 := hideS (HBl.out.trans (hb.mono HBl.out.size))
      clear hb
      go_wp2_with fail
      go_ret
      exact ⟨rfl, HB1.out⟩
end Go.Proofs.YtcmbfflemoccmaaGreat
namespace Go.Proofs.YtcmbfflemoccmaaGreat
open Go.RowKit

def FndH (w : World) (kind : Int) (v1 v2 : Value) (x k E : Int) : Prop := ∀ wx, Below w.heap.size w wx → Calls Tryz.prog 58 #[.agg #[.int .i64 kind, v1, v2], .int .i64 x] wx fun e w' => e = .returned (.tuple #[.int .i64 k, .int .i64 E]) ∧ Below wx.heap.size wx w'
set_option maxHeartbeats 800000 in
theorem at_err (kind x k E : Int) (v1 v2 : Value) (w : World) (hE : E ≠ 0) (H : Hid (FndH w kind v1 v2 x k E)) :
    Calls Tryz.prog 40 #[.agg #[.int .i64 kind, v1, v2], .int .i64 x] w fun e w' => e = .returned (.tuple #[.int .u64 0, .int .i64 E]) ∧ Below w.heap.size w w' := by
  have HB := hideS (tbox_at w kind v1 v2)
  have hE' : (E != 0) = true := bne_iff_ne.2 hE
  unfold FndH at H
  clear hE
  go_enter Tryz.func40, Tryz.ntmps40
  go_wp2_with (go_at_call 58; refine (H.out _ HB.out.bl).mono ?_; rintro e w1 ⟨rfl, hb1⟩)
  go_ret2
  exact ⟨rfl, (HB.out.step hb1).bl⟩
set_option maxHeartbeats 1600000 in
theorem at_node (kind x : Int) (bx ox cx b2 oy cy n k : Nat) (x0 : Int) (y0 : Nat) (w : World)
    (hR : ∀ w', Below w.heap.size w w' → w'.cell? ⟨bx, ox + k, none⟩ = some (.int .i64 x0) ∧ w'.cell? ⟨b2, oy + k, none⟩ = some (.int .u64 (y0 : Int)))
    (hk : k < n) (_ : n ≤ 256) (h : x0 = x ∨ (x0 ≠ x ∧ kind = 1)) (H : Hid (FndH w kind (.slice (some ⟨bx, ox, none⟩) n cx) (.slice (some ⟨b2, oy, none⟩) n cy) x (k : Int) 0)) :
    Calls Tryz.prog 40 #[.agg #[.int .i64 kind, .slice (some ⟨bx, ox, none⟩) n cx, .slice (some ⟨b2, oy, none⟩) n cy], .int .i64 x] w fun e w' => e = .returned (.tuple #[.int .u64 (y0 : Int), .int .i64 0]) ∧ Below w.heap.size w w' := by
  have HB := hideS (tbox_at w kind (.slice (some ⟨bx, ox, none⟩) n cx) (.slice (some ⟨b2, oy, none⟩) n cy))
  unfold FndH at H
  have HR := hideS hR
  have g3 : (0 : Int) ≤ (k : Int) := by omega
  have g4 : (k : Int) < (n : Int) := by omega
  clear hR
  rcases h with h | ⟨h, h'⟩
  · subst h
    go_enter Tryz.func40, Tryz.ntmps40
    go_wp2_with fail
    refine (H.out _ HB.out.bl).mono ?_
    rintro e w1 ⟨rfl, hb1⟩
    have HB1 := hideS (HB.out.step hb1)
    clear hb1
    obtain ⟨t0, t1, t2, _, _⟩ := HB1.out
    obtain ⟨c0, c1⟩ := HR.out w1 HB1.out.bl
    go_wp2_with fail
    go_ret2
    exact ⟨rfl, HB1.out.bl⟩
  · subst h'
    have hx : (x0 == x) = false := beq_false_of_ne h
    go_enter Tryz.func40, Tryz.ntmps40
    go_wp2_with fail
    refine (H.out _ HB.out.bl).mono ?_
    rintro e w1 ⟨rfl, hb1⟩
    have HB1 := hideS (HB.out.step hb1)
    clear hb1
    obtain ⟨t0, t1, t2, _, _⟩ := HB1.out
    obtain ⟨c0, c1⟩ := HR.out w1 HB1.out.bl
    go_wp2_with fail
    go_ret2
    exact ⟨rfl, HB1.out.bl⟩
theorem two_src (w : World) (a b : Int) : VSrc (w.alloc (.cells #[.int .i64 a, .int .i64 b] 3)) (some ⟨w.heap.size, 0, none⟩) w.heap.size 0 2 (xV [a, b]) :=
  ⟨fun _ => rfl, fun _ => by simp, fun j hj => by
    rcases (show j = 0 ∨ j = 1 by omega) with rfl | rfl
    · simp [xV]
    · simp [xV]⟩
structure ARd (w : World) (B : Nat) (kind : Int) (vx vy : Value) (bx ox b2 oy k : Nat) (x0 x1 : Int) (y0 y1 : Nat) : Prop where
  t0 : w.cell? ⟨B, 0, none⟩ = some (.int .i64 kind)
  t1 : w.cell? ⟨B, 1, none⟩ = some vx
  t2 : w.cell? ⟨B, 2, none⟩ = some vy
  a0 : w.cell? ⟨bx, ox + k, none⟩ = some (.int .i64 x0)
  a1 : w.cell? ⟨bx, ox + (k + 1), none⟩ = some (.int .i64 x1)
  b0 : w.cell? ⟨b2, oy + k, none⟩ = some (.int .u64 (y0 : Int))
  b1 : w.cell? ⟨b2, oy + (k + 1), none⟩ = some (.int .u64 (y1 : Int))
  ly : b2 < w.heap.size
theorem TBox.drewN {w wr : World} {kind : Int} {vx vy : Value} (h : TBox w kind vx vy wr) (m : Nat) : TBox w kind vx vy (wr.drewN m) := ⟨h.t0, h.t1, h.t2, ⟨h.bl.os, h.bl.tape, h.bl.output, h.bl.size, h.bl.block⟩, h.lt⟩
set_option maxHeartbeats 3200000 in
theorem at_lin (x : Int) (bx ox cx b2 oy cy n k D : Nat) (x0 x1 i : Int) (y0 y1 : Nat) (w : World)
    (hR : ∀ w', TBox w 2 (.slice (some ⟨bx, ox, none⟩) n cx) (.slice (some ⟨b2, oy, none⟩) n cy) w' → ARd w' w.heap.size 2 (.slice (some ⟨bx, ox, none⟩) n cx) (.slice (some ⟨b2, oy, none⟩) n cy) bx ox b2 oy k x0 x1 y0 y1)
    (hk : k + 1 < n) (hn : n ≤ 256) (hcy : n ≤ cy) (hcy' : cy ≤ 9223372036854775807) (h0 : 0 ≤ x0) (h1 : x1 ≤ 109572) (hD : x1 - x0 = (D : Int)) (hi : x - x0 = i) (hi0 : 0 < i) (hi1 : i < (D : Int)) (hy0 : y0 < 18446744073709551616) (hy1 : y1 < 18446744073709551616) (H : Hid (FndH w 2 (.slice (some ⟨bx, ox, none⟩) n cx) (.slice (some ⟨b2, oy, none⟩) n cy) x (k : Int) 0)) :
    Calls Tryz.prog 40 #[.agg #[.int .i64 2, .slice (some ⟨bx, ox, none⟩) n cx, .slice (some ⟨b2, oy, none⟩) n cy], .int .i64 x] w fun e w' => e = .returned (.tuple #[.int .u64 (overSt (wAt [(D : Int) - i, i] [y0, y1] 2) D : Int), .int .i64 0]) ∧ Below w.heap.size w w' := by
  have HB := hideS (tbox_at w 2 (.slice (some ⟨bx, ox, none⟩) n cx) (.slice (some ⟨b2, oy, none⟩) n cy))
  unfold FndH at H
  have HR := hideS hR
  have HBt : Hid (∀ wx, b2 < wx.heap.size → wx.cell? ⟨b2, oy + k, none⟩ = some (.int .u64 (y0 : Int)) → wx.cell? ⟨b2, oy + (k + 1), none⟩ = some (.int .u64 (y1 : Int)) → Calls Tryz.prog 59 #[.slice (some ⟨wx.heap.size, 0, none⟩) 2 2, .slice (some ⟨b2, oy + k, none⟩) 2 (cy - k), .int .i64 (D : Int)] (wx.alloc (.cells #[.int .i64 ((D : Int) - i), .int .i64 i] 3)) fun e w' => e = .returned (.int .u64 (overSt (wAt [(D : Int) - i, i] [y0, y1] 2) D : Int)) ∧ Below wx.heap.size wx w') := fun wx hl c0 c1 => by
    have hbl : Below wx.heap.size wx (wx.alloc (.cells #[.int .i64 ((D : Int) - i), .int .i64 i] 3)) := (Below.refl _ _).alloc (Nat.le_refl _) _
    refine (between_any wx.heap.size 0 2 b2 (oy + k) (cy - k) 2 D [(D : Int) - i, i] [y0, y1] _ (two_src wx _ _) ⟨fun _ => rfl, fun _ => Nat.lt_of_lt_of_le hl hbl.size, fun j hj => ?_⟩ (by omega) (by omega) (fun j hj => ?_) (fun j hj => ?_) (by omega) (by omega)).mono ?_
    · rcases (show j = 0 ∨ j = 1 by omega) with rfl | rfl
      · exact (hbl.cell (p := ⟨b2, oy + k, none⟩) hl).trans c0
      · rw [show oy + k + 1 = oy + (k + 1) by omega]; exact (hbl.cell (p := ⟨b2, oy + (k + 1), none⟩) hl).trans c1
    · rcases (show j = 0 ∨ j = 1 by omega) with rfl | rfl
      · show -9007199254740992 ≤ (D : Int) - i ∧ _; exact ⟨by omega, by show (D : Int) - i ≤ _; omega⟩
      · show -9007199254740992 ≤ i ∧ i ≤ _; omega
    · rcases (show j = 0 ∨ j = 1 by omega) with rfl | rfl
      · exact hy0
      · exact hy1
    · rintro e w' ⟨rfl, hb⟩
      exact ⟨rfl, hbl.trans (hb.mono hbl.size)⟩
  generalize overSt (wAt [(D : Int) - i, i] [y0, y1] 2) D = R at *
  have f1 : IntKind.i64.wrap ((k : Int) + 1) = (k : Int) + 1 := by rw [IntKind.wrap_i64]; omega
  have f2 : IntKind.i64.wrap (x1 - x0) = x1 - x0 := by rw [IntKind.wrap_i64]; omega
  have g1 : (0 : Int) ≤ (k : Int) + 1 := by omega
  have g2 : (k : Int) + 1 < (n : Int) := by omega
  have g3 : (0 : Int) ≤ (k : Int) := by omega
  have g4 : (k : Int) < (n : Int) := by omega
  have hx : (x0 == x) = false := beq_false_of_ne (by omega)
  have hDl : (D : Int) ≤ 109572 := by omega
  clear hR hy0 hy1
  go_enter Tryz.func40, Tryz.ntmps40
  go_wp2_with fail
  refine (H.out _ HB.out.bl).mono ?_
  rintro e w1 ⟨rfl, hb1⟩
  have HB1 := hideS (HB.out.step hb1)
  clear hb1
  have hA := HR.out w1 HB1.out
  obtain ⟨t0, t1, t2, a0, a1, b0, b1, ly⟩ := hA
  go_wp2_with fail
  go_quiet (fail)
  obtain ⟨wq, hwq⟩ : ∃ wq, w1.drewN nq = wq := ⟨_, rfl⟩
  rw [hwq]
  have HBq : Hid (TBox w 2 (.slice (some ⟨bx, ox, none⟩) n cx) (.slice (some ⟨b2, oy, none⟩) n cy) wq) := by show TBox _ _ _ _ _; rw [← hwq]; exact HB1.out.drewN nq
  clear hwq t0 t1 t2 a0 a1 b0 b1 ly HB1
  obtain ⟨t0, t1, t2, a0, a1, b0, b1, ly⟩ := HR.out wq HBq.out
  have hz : w.heap.size < wq.heap.size := HBq.out.lt
  have c2 : ∀ o, (wq.alloc o).cell? ⟨w.heap.size, 2, none⟩ = some (.slice (some ⟨b2, oy, none⟩) n cy) := fun o => (((Below.refl wq.heap.size wq).alloc (Nat.le_refl _) o).cell (p := ⟨w.heap.size, 2, none⟩) hz).trans t2
  have HBw := hideS (HBt.out wq ly b0 b1)
  have f3 : IntKind.i64.wrap (x - x0) = x - x0 := by rw [IntKind.wrap_i64]; omega
  have f4 : IntKind.i64.wrap ((k : Int) + 2) = (k : Int) + 2 := by rw [IntKind.wrap_i64]; omega
  have g7 : (k : Int) + 2 ≤ (n : Int) := by omega
  have g8 : (k : Int) ≤ (k : Int) + 2 := by omega
  have g9 : (k : Int) + 2 ≤ (cy : Int) := by omega
  go_wp2_with fail
  refine HBw.out.mono ?_
  rintro e w2 ⟨rfl, hb2⟩
  have HB2 := hideS (HBq.out.step hb2)
  clear hb2
  go_wp2_with fail
  go_ret2
  exact ⟨rfl, HB2.out.bl⟩
theorem mulB {a b A B : Int} (ha : 0 ≤ a) (hA : a ≤ A) (hb : 0 ≤ b) (hB : b ≤ B) : 0 ≤ a * b ∧ a * b ≤ A * B := ⟨Int.mul_nonneg ha hb, Int.mul_le_mul hA hB hb (by omega)⟩
theorem four_src (w : World) (a b c d : Int) : VSrc (w.alloc (.cells #[.int .i64 a, .int .i64 b, .int .i64 c, .int .i64 d] 3)) (some ⟨w.heap.size, 0, none⟩) w.heap.size 0 4 (xV [a, b, c, d]) :=
  ⟨fun _ => rfl, fun _ => by simp, fun j hj => by
    rcases (show j = 0 ∨ j = 1 ∨ j = 2 ∨ j = 3 by omega) with rfl | rfl | rfl | rfl
    · simp [xV]
    · simp [xV]
    · simp [xV]
    · simp [xV]⟩
structure CubW (D i e q1 q2 r1 r2 r3 s2 s3 t1 t2 n1 n2 : Int) : Prop where
  hq1 : e * e = q1
  hq2 : q1 * e = q2
  hr1 : 3 * e = r1
  hr2 : r1 * e = r2
  hr3 : r2 * i = r3
  hs2 : r1 * i = s2
  hs3 : s2 * i = s3
  ht1 : i * i = t1
  ht2 : t1 * i = t2
  hn1 : D * D = n1
  hn2 : n1 * D = n2
  b : (0 ≤ q1 ∧ q1 ≤ 12006023184) ∧ (0 ≤ q2 ∧ q2 ≤ 1315523972317248) ∧ (0 ≤ r1 ∧ r1 ≤ 328716) ∧ (0 ≤ r2 ∧ r2 ≤ 36018069552) ∧ (0 ≤ r3 ∧ r3 ≤ 3946571916951744) ∧ (0 ≤ s2 ∧ s2 ≤ 36018069552) ∧ (0 ≤ s3 ∧ s3 ≤ 3946571916951744) ∧ (0 ≤ t1 ∧ t1 ≤ 12006023184) ∧ (0 ≤ t2 ∧ t2 ≤ 1315523972317248) ∧ (0 ≤ n1 ∧ n1 ≤ 12006023184) ∧ (0 ≤ n2 ∧ n2 ≤ 1315523972317248)
theorem cubW_ex {D i e : Int} (h0 : 0 ≤ i) (hi : i ≤ 109572) (he0 : 0 ≤ e) (he : e ≤ 109572) (hD0 : 0 ≤ D) (hD : D ≤ 109572) : ∃ q1 q2 r1 r2 r3 s2 s3 t1 t2 n1 n2, CubW D i e q1 q2 r1 r2 r3 s2 s3 t1 t2 n1 n2 := by
  have m1 := mulB he0 he he0 he
  have m2 := mulB m1.1 m1.2 he0 he
  have m4 := mulB (show 0 ≤ 3 * e by omega) (show 3 * e ≤ 328716 by omega) he0 he
  have m5 := mulB m4.1 m4.2 h0 hi
  have m6 := mulB (show 0 ≤ 3 * e by omega) (show 3 * e ≤ 328716 by omega) h0 hi
  have m7 := mulB m6.1 m6.2 h0 hi
  have m8 := mulB h0 hi h0 hi
  have m9 := mulB m8.1 m8.2 h0 hi
  have m10 := mulB hD0 hD hD0 hD
  have m11 := mulB m10.1 m10.2 hD0 hD
  exact ⟨_, _, _, _, _, _, _, _, _, _, _, rfl, rfl, rfl, rfl, rfl, rfl, rfl, rfl, rfl, rfl, rfl, m1, m2, ⟨by omega, by omega⟩, m4, m5, m6, m7, m8, m9, m10, m11⟩
set_option maxHeartbeats 6400000 in
theorem at_cub (x : Int) (bx ox cx b2 oy cy n k D D3 : Nat) (x0 x1 i e q1 q2 r1 r2 r3 s2 s3 t1' t2' n1 : Int) (ps : List Nat) (w : World)
    (hR : ∀ w', TBox w 3 (.slice (some ⟨bx, ox, none⟩) n cx) (.slice (some ⟨b2, oy, none⟩) n cy) w' → w'.cell? ⟨bx, ox + k, none⟩ = some (.int .i64 x0) ∧ w'.cell? ⟨bx, ox + (k + 1), none⟩ = some (.int .i64 x1))
    (hk : k + 1 < n) (hn : n ≤ 256) (h0 : 0 ≤ x0) (h1 : x1 ≤ 109572) (hD : x1 - x0 = (D : Int)) (hi : x - x0 = i) (he : (D : Int) - i = e) (hi0 : 0 < i) (hi1 : i < (D : Int)) (hC : CubW (D : Int) i e q1 q2 r1 r2 r3 s2 s3 t1' t2' n1 (D3 : Int)) (hD3 : 1 ≤ D3) (hps : ps.length = 4) (hpl : ∀ j < 4, ps.getD j 0 < 18446744073709551616)
    (H : Hid (FndH w 3 (.slice (some ⟨bx, ox, none⟩) n cx) (.slice (some ⟨b2, oy, none⟩) n cy) x (k : Int) 0))
    (HPt : Hid (∀ wx, Below w.heap.size w wx → Calls Tryz.prog 60 #[.agg #[.int .i64 3, .slice (some ⟨bx, ox, none⟩) n cx, .slice (some ⟨b2, oy, none⟩) n cy], .int .i64 (k : Int)] wx fun e w' => ∃ v, e = .returned (.tuple #[v, .int .i64 0]) ∧ w'.ownsRow wx.heap.size 51 1 v 4 (ps.map uV) ∧ Below wx.heap.size wx w')) :
    Calls Tryz.prog 40 #[.agg #[.int .i64 3, .slice (some ⟨bx, ox, none⟩) n cx, .slice (some ⟨b2, oy, none⟩) n cy], .int .i64 x] w fun e w' => e = .returned (.tuple #[.int .u64 (overSt (wAt [q2, r3, s3, t2'] ps 4) D3 : Int), .int .i64 0]) ∧ Below w.heap.size w w' := by
  have HB := hideS (tbox_at w 3 (.slice (some ⟨bx, ox, none⟩) n cx) (.slice (some ⟨b2, oy, none⟩) n cy))
  unfold FndH at H
  have HR := hideS hR
  obtain ⟨hq1, hq2, hr1, hr2, hr3, hs2, hs3, ht1, ht2, hn1, hn2, ⟨p1, p1'⟩, ⟨p2, p2'⟩, ⟨p3, p3'⟩, ⟨p4, p4'⟩, ⟨p5, p5'⟩, ⟨p6, p6'⟩, ⟨p7, p7'⟩, ⟨p8, p8'⟩, ⟨p9, p9'⟩, ⟨p10, p10'⟩, ⟨p11, p11'⟩⟩ := hC
  have HBt : Hid (∀ wx g c, g < wx.heap.size → (∀ j < 4, wx.cell? ⟨g, j, none⟩ = some (.int .u64 (ps.getD j 0 : Nat))) → Calls Tryz.prog 59 #[.slice (some ⟨wx.heap.size, 0, none⟩) 4 4, .slice (some ⟨g, 0, none⟩) 4 c, .int .i64 (D3 : Int)] (wx.alloc (.cells #[.int .i64 q2, .int .i64 r3, .int .i64 s3, .int .i64 t2'] 3)) fun e w' => e = .returned (.int .u64 (overSt (wAt [q2, r3, s3, t2'] ps 4) D3 : Int)) ∧ Below wx.heap.size wx w') := fun wx g c hl hc => by
    have hbl : Below wx.heap.size wx (wx.alloc (.cells #[.int .i64 q2, .int .i64 r3, .int .i64 s3, .int .i64 t2'] 3)) := (Below.refl _ _).alloc (Nat.le_refl _) _
    refine (between_any wx.heap.size 0 4 g 0 c 4 D3 [q2, r3, s3, t2'] ps _ (four_src wx _ _ _ _) ⟨fun _ => rfl, fun _ => Nat.lt_of_lt_of_le hl hbl.size, fun j hj => ?_⟩ (by omega) (by omega) (fun j hj => ?_) hpl hD3 (by omega)).mono ?_
    · rw [Nat.zero_add]; exact (hbl.cell (p := ⟨g, j, none⟩) hl).trans (hc j hj)
    · rcases (show j = 0 ∨ j = 1 ∨ j = 2 ∨ j = 3 by omega) with rfl | rfl | rfl | rfl
      · show -9007199254740992 ≤ q2 ∧ q2 ≤ _; omega
      · show -9007199254740992 ≤ r3 ∧ r3 ≤ _; omega
      · show -9007199254740992 ≤ s3 ∧ s3 ≤ _; omega
      · show -9007199254740992 ≤ t2' ∧ t2' ≤ _; omega
    · rintro e w' ⟨rfl, hb⟩
      exact ⟨rfl, hbl.trans (hb.mono hbl.size)⟩
  generalize overSt (wAt [q2, r3, s3, t2'] ps 4) D3 = R at *
  have HPS := hideS (And.intro hps hpl)
  have f1 : IntKind.i64.wrap ((k : Int) + 1) = (k : Int) + 1 := by rw [IntKind.wrap_i64]; omega
  have f2 : IntKind.i64.wrap (x1 - x0) = x1 - x0 := by rw [IntKind.wrap_i64]; omega
  have f3 : IntKind.i64.wrap (x - x0) = x - x0 := by rw [IntKind.wrap_i64]; omega
  have g1 : (0 : Int) ≤ (k : Int) + 1 := by omega
  have g2 : (k : Int) + 1 < (n : Int) := by omega
  have g3 : (0 : Int) ≤ (k : Int) := by omega
  have g4 : (k : Int) < (n : Int) := by omega
  have hx : (x0 == x) = false := beq_false_of_ne (by omega)
  have hDl : (D : Int) ≤ 109572 := by omega
  have he0 : 0 ≤ e := by omega
  have he1 : e ≤ 109572 := by omega
  clear hR hps hpl
  go_enter Tryz.func40, Tryz.ntmps40
  go_wp2_with fail
  refine (H.out _ HB.out.bl).mono ?_
  rintro e w1 ⟨rfl, hb1⟩
  have HB1 := hideS (HB.out.step hb1)
  clear hb1
  obtain ⟨a0, a1⟩ := HR.out w1 HB1.out
  obtain ⟨t0, t1, t2, _, _⟩ := HB1.out
  go_wp2_with fail
  go_quiet (fail)
  obtain ⟨wq, hwq⟩ : ∃ wq, w1.drewN nq = wq := ⟨_, rfl⟩
  rw [hwq]
  have HBq : Hid (TBox w 3 (.slice (some ⟨bx, ox, none⟩) n cx) (.slice (some ⟨b2, oy, none⟩) n cy) wq) := by show TBox _ _ _ _ _; rw [← hwq]; exact HB1.out.drewN nq
  clear hwq t0 t1 t2 a0 a1 HB1
  obtain ⟨a0, a1⟩ := HR.out wq HBq.out
  obtain ⟨t0, t1, t2, _, _⟩ := HBq.out
  go_wp2_with fail
  refine (HPt.out _ HBq.out.bl).mono ?_
  rintro e w2 ⟨v, rfl, ho, hb2⟩
  obtain ⟨pp, g, c, rfl, hu, _, _, _⟩ := uown_src ho HPS.out.1
  obtain rfl := hu.at_ (by rw [HPS.out.1]; omega)
  have HB2 := hideS (HBq.out.step hb2)
  have HBw := hideS (HBt.out w2 g c (hu.lt (by rw [HPS.out.1]; omega)) (fun j hj => by have := hu.cell j (by rw [HPS.out.1]; exact hj); rw [Nat.zero_add] at this; exact this))
  clear hb2 ho hu t0 t1 t2 a0 a1 HBq HBt HPt
  go_wp2_with fail
  refine HBw.out.mono ?_
  rintro e w3 ⟨rfl, hb3⟩
  have HB3 := hideS (HB2.out.step hb3)
  clear hb3
  go_wp2_with fail
  go_ret2
  exact ⟨rfl, HB3.out.bl⟩
end Go.Proofs.YtcmbfflemoccmaaGreat
namespace Go.Proofs.YtcmbfflemoccmaaGreat
open Go.RowKit

theorem spl_vI {b : Nat} (hb : b < 18446744073709551616) (h : NumB b) : splOk (b : Int) = true ∧ ∃ q : Nat, splM (b : Int) * ((2 ^ q : Nat) : Int) = vI b ∧ (splM (b : Int) ≠ 0 → splE (b : Int) + 1074 = (q : Int)) := by
  unfold NumB at h
  obtain ⟨r, hr⟩ : ∃ r, b % 9223372036854775808 = r := ⟨_, rfl⟩
  have hsz : szI (b : Int) = (r : Int) := by unfold szI; omega
  have hok : splOk (b : Int) = true := by unfold splOk; rw [hsz, decide_eq_true_eq]; omega
  have hsg : sgB (b : Int) = (b / 9223372036854775808 % 2 == 1) := by
    have e : sgB (b : Int) = decide (b / 9223372036854775808 % 2 = 1) := by
      unfold sgB; apply decide_eq_decide.2; omega
    rw [e]
    by_cases h1 : b / 9223372036854775808 % 2 = 1 <;> simp [h1]
  have hmg : magI (r : Int) = (mg r : Int) := by
    unfold magI mg
    by_cases h1 : r < 4503599627370496
    · rw [if_pos (by omega), if_pos h1]
    · rw [if_neg (by omega), if_neg h1]; omega
  have hM : splM (b : Int) = sgZ (b / 9223372036854775808 % 2 == 1) (mg r) := by
    unfold splM sgZ
    rw [hok, hsz, hmg, hsg]; rfl
  refine ⟨hok, pl r, ?_, fun h0 => ?_⟩
  · rw [vI_eq, hr, sgZ_mul, hM]
  · have hr0 : r ≠ 0 := fun c => h0 (by
      rw [hM, c]
      have : mg 0 = 0 := rfl
      rw [this]; unfold sgZ; simp)
    unfold splE plcI pl
    rw [hok, hsz]
    have h1 : ((true && decide ((r : Int) ≠ 0)) = true) := by simp; omega
    rw [if_pos h1]
    by_cases h2 : r < 4503599627370496
    · rw [if_pos (by omega)]; omega
    · rw [if_neg (by omega)]; omega
theorem toNat_sum {a b : Int} {p q : Nat} (h1 : a + 1074 = (p : Int)) (h2 : b + 1074 = (q : Int)) : (a + b + 2148).toNat = p + q := by omega
theorem prodG_num {x y : Nat} (hx : x < 18446744073709551616) (hxn : NumB x) (hy : y < 18446744073709551616) (hyn : NumB y) : A.prodG x y = ⟨0, vI x * vI y⟩ := by
  obtain ⟨o1, q1, e1, f1⟩ := spl_vI hx hxn
  obtain ⟨o2, q2, e2, f2⟩ := spl_vI hy hyn
  have e0 : A.prodG x y = A.prodS (x : Int) (y : Int) := by unfold A.prodG; rw [o1, o2]; rfl
  have key : splM (x : Int) * splM (y : Int) * 2 ^ (splE (x : Int) + splE (y : Int) + 2148).toNat = vI x * vI y := by
    rw [← e1, ← e2]
    by_cases h1 : splM (x : Int) = 0
    · rw [h1, Int.zero_mul, Int.zero_mul, Int.zero_mul, Int.zero_mul]
    · by_cases h2 : splM (y : Int) = 0
      · rw [h2, Int.zero_mul, Int.mul_zero, Int.zero_mul, Int.mul_zero]
      · have a := f1 h1
        have b := f2 h2
        rw [toNat_sum a b, Int.pow_add, Int.natCast_pow, Int.natCast_pow]
        clear e0 e1 e2 f1 f2 a b h1 h2 o1 o2
        generalize splM (x : Int) = m
        generalize splM (y : Int) = k
        show m * k * (2 ^ q1 * 2 ^ q2) = m * 2 ^ q1 * (k * 2 ^ q2)
        generalize (2 : Int) ^ q1 = s
        generalize (2 : Int) ^ q2 = t
        simp only [Int.mul_assoc, Int.mul_left_comm k]
  rw [e0]
  exact congrArg (A.St.mk 0) key
theorem prodG_fi {m : Int} {y K : Nat} (hK : K = 1074) (h1 : -9007199254740992 ≤ m) (h2 : m ≤ 9007199254740992) (hy : y < 18446744073709551616) (hyn : NumB y) : A.prodG (fi m) y = ⟨0, m * uI K y⟩ := by
  obtain ⟨a, b, c, d⟩ := vI_fi (m := m) hK h1 h2
  rw [prodG_num d b hy hyn, a]
  unfold uI
  congr 1
  rw [Int.mul_assoc, Int.mul_comm (((2 ^ K : Nat)) : Int)]
theorem merge0 (a b : Int) : A.St.merge ⟨0, a⟩ ⟨0, b⟩ = ⟨0, a + b⟩ := rfl
theorem wAt_two {a b : Int} {y0 y1 K : Nat} (hK : K = 1074) (ha : -9007199254740992 ≤ a ∧ a ≤ 9007199254740992) (hb : -9007199254740992 ≤ b ∧ b ≤ 9007199254740992) (h0 : y0 < 18446744073709551616) (n0 : NumB y0) (h1 : y1 < 18446744073709551616) (n1 : NumB y1) : wAt [a, b] [y0, y1] 2 = ⟨0, a * uI K y0 + b * uI K y1⟩ := by
  show ((⟨0, 0⟩ : A.St).merge (A.prodG (fi a) y0)).merge (A.prodG (fi b) y1) = _
  rw [prodG_fi hK ha.1 ha.2 h0 n0, prodG_fi hK hb.1 hb.2 h1 n1, merge0, merge0, Int.zero_add]
theorem wAt_four {a b c d : Int} {y0 y1 y2 y3 K : Nat} (hK : K = 1074) (ha : -9007199254740992 ≤ a ∧ a ≤ 9007199254740992) (hb : -9007199254740992 ≤ b ∧ b ≤ 9007199254740992) (hc : -9007199254740992 ≤ c ∧ c ≤ 9007199254740992) (hd : -9007199254740992 ≤ d ∧ d ≤ 9007199254740992) (h0 : y0 < 18446744073709551616) (n0 : NumB y0) (h1 : y1 < 18446744073709551616) (n1 : NumB y1) (h2 : y2 < 18446744073709551616) (n2 : NumB y2) (h3 : y3 < 18446744073709551616) (n3 : NumB y3) : wAt [a, b, c, d] [y0, y1, y2, y3] 4 = ⟨0, a * uI K y0 + b * uI K y1 + c * uI K y2 + d * uI K y3⟩ := by
  show ((((⟨0, 0⟩ : A.St).merge (A.prodG (fi a) y0)).merge (A.prodG (fi b) y1)).merge (A.prodG (fi c) y2)).merge (A.prodG (fi d) y3) = _
  rw [prodG_fi hK ha.1 ha.2 h0 n0, prodG_fi hK hb.1 hb.2 h1 n1, prodG_fi hK hc.1 hc.2 h2 n2, prodG_fi hK hd.1 hd.2 h3 n3, merge0, merge0, merge0, merge0, Int.zero_add]
theorem overSt_val (N : Int) (d : Nat) : overSt ⟨0, N⟩ d = overG N d := by
  unfold overSt overG
  rw [if_pos rfl, overF_val]
end Go.Proofs.YtcmbfflemoccmaaGreat
namespace Go.Proofs.YtcmbfflemoccmaaGreat
open Go.RowKit

structure Inside (xs : List Int) (x : Int) (k D : Nat) (i : Int) : Prop where
  lt : k + 1 < xs.length
  hD : xs.getD (k + 1) 0 - xs.getD k 0 = (D : Int)
  hi : x - xs.getD k 0 = i
  lo : 0 < i
  hi' : i < (D : Int)
theorem inside_ex {xs : List Int} {x : Int} {k : Nat} (hhi : x ≤ xs.getD (xs.length - 1) 0) (hk : FindR xs x k) (hne : xs.getD k 0 ≠ x) : ∃ D i, Inside xs x k D i := by
  have hle := hk.le
  have hl : k + 1 < xs.length := Classical.byContradiction fun c => by
    have hkl := hk.lt
    rw [show xs.length - 1 = k by omega] at hhi
    omega
  have hg := hk.gt hl
  exact ⟨(xs.getD (k + 1) 0 - xs.getD k 0).toNat, _, hl, by omega, rfl, by omega, by omega⟩
def linV (ys : List Nat) (k D : Nat) (i : Int) : Nat := overSt (wAt [(D : Int) - i, i] [ys.getD k 0, ys.getD (k + 1) 0] 2) D
theorem ref10At_err (kind x k E : Int) (px py : Option Addr) (bx ox cx b2 oy cy : Nat) (xs : List Int) (ys : List Nat) (w : World) (h : FindO kind xs ys x k E) (hE : E ≠ 0) (hs : TSrc w px py bx ox b2 oy xs ys) :
    Calls Tryz.prog 40 #[.agg #[.int .i64 kind, .slice px xs.length cx, .slice py ys.length cy], .int .i64 x] w fun e w' => e = .returned (.tuple #[.int .u64 0, .int .i64 E]) ∧ Below w.heap.size w w' :=
  at_err kind x k E _ _ w hE (fun wx hb => ref10Find_any kind x k E px py bx ox cx b2 oy cy xs ys wx h (hs.below hb))
theorem ref10At_node (kind x : Int) (px py : Option Addr) (bx ox cx b2 oy cy n k : Nat) (xs : List Int) (ys : List Nat) (w : World) (h : OkT kind xs ys) (hn : xs.length = n) (hf : FindO kind xs ys x (k : Int) 0) (hk : k < n) (hne : xs.getD k 0 = x ∨ (xs.getD k 0 ≠ x ∧ kind = 1)) (hs : TSrc w px py bx ox b2 oy xs ys) :
    Calls Tryz.prog 40 #[.agg #[.int .i64 kind, .slice px n cx, .slice py n cy], .int .i64 x] w fun e w' => e = .returned (.tuple #[.int .u64 (ys.getD k 0 : Nat), .int .i64 0]) ∧ Below w.heap.size w w' := by
  have hyl := h.len
  have hhi := h.hi
  have H : FndH w kind (.slice px n cx) (.slice py n cy) x (k : Int) 0 := fun wx hb => by
    have := ref10Find_any kind x k 0 px py bx ox cx b2 oy cy xs ys wx hf (hs.below hb)
    rw [hyl, hn] at this
    exact this
  obtain rfl := hs.x.at_ (by omega)
  obtain rfl := hs.y.at_ (by omega)
  exact at_node kind x bx ox cx b2 oy cy n k (xs.getD k 0) (ys.getD k 0) w (fun w' hb => ⟨(hs.below hb).x.cell k (by omega), (hs.below hb).y.cell k (by omega)⟩) hk (by omega) hne H
theorem ref10At_lin (x : Int) (px py : Option Addr) (bx ox cx b2 oy cy n k D : Nat) (i : Int) (xs : List Int) (ys : List Nat) (w : World) (h : OkT 2 xs ys) (hn : xs.length = n) (hf : FindO 2 xs ys x (k : Int) 0) (hI : Inside xs x k D i) (hcy : n ≤ cy) (hcy' : cy ≤ 9223372036854775807) (hs : TSrc w px py bx ox b2 oy xs ys) :
    Calls Tryz.prog 40 #[.agg #[.int .i64 2, .slice px n cx, .slice py n cy], .int .i64 x] w fun e w' => e = .returned (.tuple #[.int .u64 (linV ys k D i : Int), .int .i64 0]) ∧ Below w.heap.size w w' := by
  have hyl := h.len
  have hhi := h.hi
  have hlt := hI.lt
  have H : FndH w 2 (.slice px n cx) (.slice py n cy) x (k : Int) 0 := fun wx hb => by
    have := ref10Find_any 2 x k 0 px py bx ox cx b2 oy cy xs ys wx hf (hs.below hb)
    rw [hyl, hn] at this
    exact this
  obtain rfl := hs.x.at_ (by omega)
  obtain rfl := hs.y.at_ (by omega)
  have n0 := node_fine (h.node k (by omega))
  have n1 := node_fine (h.node (k + 1) (by omega))
  exact at_lin x bx ox cx b2 oy cy n k D (xs.getD k 0) (xs.getD (k + 1) 0) i (ys.getD k 0) (ys.getD (k + 1) 0) w (fun w' ht => by
      have hs' := hs.below ht.bl
      exact ⟨ht.t0, ht.t1, ht.t2, hs'.x.cell k (by omega), hs'.x.cell (k + 1) (by omega), hs'.y.cell k (by omega), hs'.y.cell (k + 1) (by omega), hs'.y.lt (by omega)⟩)
    (by omega) (by omega) hcy hcy' n0.1 n1.2.1 hI.hD hI.hi hI.lo hI.hi' (by have := (hs.f k (by omega)).2; omega) (by have := (hs.f (k + 1) (by omega)).2; omega) H
def cubV (ps : List Nat) (D : Nat) (i : Int) : Nat := overSt (wAt [((D : Int) - i) * ((D : Int) - i) * ((D : Int) - i), 3 * ((D : Int) - i) * ((D : Int) - i) * i, 3 * ((D : Int) - i) * i * i, i * i * i] ps 4) (D * D * D)
theorem ptL_lt {xs : List Int} {ys : List Nat} {k : Nat} (h0 : ys.getD k 0 < 18446744073709551616) (h1 : ys.getD (k + 1) 0 < 18446744073709551616) : ∀ j < 4, (ptL xs ys k).getD j 0 < 18446744073709551616 := fun j hj => by
  rcases (show j = 0 ∨ j = 1 ∨ j = 2 ∨ j = 3 by omega) with rfl | rfl | rfl | rfl
  · exact h0
  · exact ptP_lt h0 h1
  · exact ptQ_lt h1 (ptP_lt h0 h1)
  · exact h1
theorem ref10At_cub (x : Int) (px py : Option Addr) (bx ox cx b2 oy cy n k D : Nat) (i : Int) (xs : List Int) (ys : List Nat) (w : World) (h : OkT 3 xs ys) (hn : xs.length = n) (hf : FindO 3 xs ys x (k : Int) 0) (hI : Inside xs x k D i) (hs : TSrc w px py bx ox b2 oy xs ys) :
    Calls Tryz.prog 40 #[.agg #[.int .i64 3, .slice px n cx, .slice py n cy], .int .i64 x] w fun e w' => e = .returned (.tuple #[.int .u64 (cubV (ptL xs ys k) D i : Int), .int .i64 0]) ∧ Below w.heap.size w w' := by
  have hyl := h.len
  have hhi := h.hi
  have hlt := hI.lt
  have H : FndH w 3 (.slice px n cx) (.slice py n cy) x (k : Int) 0 := fun wx hb => by
    have := ref10Find_any 3 x k 0 px py bx ox cx b2 oy cy xs ys wx hf (hs.below hb)
    rw [hyl, hn] at this
    exact this
  have HP : ∀ wx, Below w.heap.size w wx → Calls Tryz.prog 60 #[.agg #[.int .i64 3, .slice px n cx, .slice py n cy], .int .i64 (k : Int)] wx fun e w' => ∃ v, e = .returned (.tuple #[v, .int .i64 0]) ∧ w'.ownsRow wx.heap.size 51 1 v 4 ((ptL xs ys k).map uV) ∧ Below wx.heap.size wx w' := fun wx hb => ref10Points_ok 3 px py bx ox cx b2 oy cy n k xs ys wx h hn (hs.below hb) (by omega)
  obtain rfl := hs.x.at_ (by omega)
  obtain rfl := hs.y.at_ (by omega)
  have n0 := node_fine (h.node k (by omega))
  have n1 := node_fine (h.node (k + 1) (by omega))
  have hD := hI.hD
  have hlo := hI.lo
  have hi' := hI.hi'
  have hy0 : ys.getD k 0 < 18446744073709551616 := by have := (hs.f k (by omega)).2; omega
  have hy1 : ys.getD (k + 1) 0 < 18446744073709551616 := by have := (hs.f (k + 1) (by omega)).2; omega
  obtain ⟨q1, q2, r1, r2, r3, s2, s3, t1, t2, m1, m2, hC⟩ := cubW_ex (D := (D : Int)) (i := i) (e := (D : Int) - i) (by omega) (by omega) (by omega) (by omega) (by omega) (by omega)
  have e3 : m2 = ((D * D * D : Nat) : Int) := by rw [← hC.hn2, ← hC.hn1, Int.natCast_mul, Int.natCast_mul]
  rw [e3] at hC
  have hD3 : 1 ≤ D * D * D := Nat.mul_pos (Nat.mul_pos (by omega) (by omega)) (by omega)
  unfold cubV
  rw [hC.hq1, hC.hq2, hC.hr1, hC.hr2, hC.hr3, hC.hs2, hC.hs3, hC.ht1, hC.ht2]
  exact at_cub x bx ox cx b2 oy cy n k D (D * D * D) (xs.getD k 0) (xs.getD (k + 1) 0) i ((D : Int) - i) q1 q2 r1 r2 r3 s2 s3 t1 t2 m1 (ptL xs ys k) w (fun w' ht => by
      have hs' := hs.below ht.bl
      exact ⟨hs'.x.cell k (by omega), hs'.x.cell (k + 1) (by omega)⟩)
    (by omega) (by omega) n0.1 n1.2.1 hD hI.hi rfl hlo hi' hC hD3 rfl (ptL_lt hy0 hy1) H HP
end Go.Proofs.YtcmbfflemoccmaaGreat
namespace Go.Proofs.YtcmbfflemoccmaaGreat
open Go.RowKit

structure NumW (y : Nat) : Prop where
  lt : y < 18446744073709551616
  nb : NumB y
theorem lin_plain {y0 y1 D K : Nat} {i : Int} (hK : K = 1074) (h0 : NumW y0) (h1 : NumW y1) (hi : 0 ≤ i) (hi' : i ≤ (D : Int)) (hD : (D : Int) ≤ 109572) : overSt (wAt [(D : Int) - i, i] [y0, y1] 2) D = overG (linN (D : Int) i (uI K y0) (uI K y1)) D := by
  rw [wAt_two hK ⟨by omega, by omega⟩ ⟨by omega, by omega⟩ h0.lt h0.nb h1.lt h1.nb, overSt_val]
  rfl
theorem cub_plain {p0 p1 p2 p3 D K : Nat} {i : Int} (hK : K = 1074) (h0 : NumW p0) (h1 : NumW p1) (h2 : NumW p2) (h3 : NumW p3) (hi : 0 ≤ i) (hi' : i ≤ (D : Int)) (hD : (D : Int) ≤ 109572) : cubV [p0, p1, p2, p3] D i = overG (cubN (D : Int) i (uI K p0) (uI K p1) (uI K p2) (uI K p3)) (D * D * D) := by
  obtain ⟨q1, q2, r1, r2, r3, s2, s3, t1, t2, m1, m2, hC⟩ := cubW_ex (D := (D : Int)) (i := i) (e := (D : Int) - i) (by omega) (by omega) (by omega) (by omega) (by omega) (by omega)
  unfold cubV cubN
  rw [hC.hq1, hC.hq2, hC.hr1, hC.hr2, hC.hr3, hC.hs2, hC.hs3, hC.ht1, hC.ht2]
  obtain ⟨⟨_, _⟩, ⟨b1, b1'⟩, ⟨_, _⟩, ⟨_, _⟩, ⟨b2, b2'⟩, ⟨_, _⟩, ⟨b3, b3'⟩, ⟨_, _⟩, ⟨b4, b4'⟩, _, _⟩ := hC.b
  rw [wAt_four hK ⟨by omega, by omega⟩ ⟨by omega, by omega⟩ ⟨by omega, by omega⟩ ⟨by omega, by omega⟩ h0.lt h0.nb h1.lt h1.nb h2.lt h2.nb h3.lt h3.nb, overSt_val]
theorem natD3 (D : Nat) : ((D * D * D : Nat) : Int) = (D : Int) * (D : Int) * (D : Int) := by rw [Int.natCast_mul, Int.natCast_mul]
theorem lin_held_up {y0 y1 D K : Nat} {i : Int} (hK : K = 1074) (h0 : NumW y0) (h1 : NumW y1) (hi : 0 ≤ i) (hi' : i ≤ (D : Int)) (hD0 : 0 < D) (h : rankI (y0 : Nat) ≤ rankI (y1 : Nat)) :
    rankI (y0 : Nat) ≤ ovRk (linN (D : Int) i (uI K y0) (uI K y1)) D ∧ ovRk (linN (D : Int) i (uI K y0) (uI K y1)) D ≤ rankI (y1 : Nat) := by
  have hu := uI_le K h0.lt h0.nb h1.lt h1.nb h
  have hl := lin_lo (n := (D : Int)) hi hi' hu
  exact ⟨ov_ge hK h0.lt h0.nb hD0 hl.1, ov_le hK h1.lt h1.nb hD0 hl.2⟩
theorem lin_held_down {y0 y1 D K : Nat} {i : Int} (hK : K = 1074) (h0 : NumW y0) (h1 : NumW y1) (hi : 0 ≤ i) (hi' : i ≤ (D : Int)) (hD0 : 0 < D) (h : rankI (y1 : Nat) ≤ rankI (y0 : Nat)) :
    rankI (y1 : Nat) ≤ ovRk (linN (D : Int) i (uI K y0) (uI K y1)) D ∧ ovRk (linN (D : Int) i (uI K y0) (uI K y1)) D ≤ rankI (y0 : Nat) := by
  have hu := uI_le K h1.lt h1.nb h0.lt h0.nb h
  have hl := lin_hi (n := (D : Int)) hi hi' hu
  exact ⟨ov_ge hK h1.lt h1.nb hD0 hl.1, ov_le hK h0.lt h0.nb hD0 hl.2⟩
theorem lin_rise {y0 y1 D : Nat} (K : Nat) {i j : Int} (h0 : NumW y0) (h1 : NumW y1) (hij : i ≤ j) (h : rankI (y0 : Nat) ≤ rankI (y1 : Nat)) : ovRk (linN (D : Int) i (uI K y0) (uI K y1)) D ≤ ovRk (linN (D : Int) j (uI K y0) (uI K y1)) D :=
  ovRk_mono D (lin_mono (uI_le K h0.lt h0.nb h1.lt h1.nb h) hij)
theorem lin_sink {y0 y1 D : Nat} (K : Nat) {i j : Int} (h0 : NumW y0) (h1 : NumW y1) (hij : i ≤ j) (h : rankI (y1 : Nat) ≤ rankI (y0 : Nat)) : ovRk (linN (D : Int) j (uI K y0) (uI K y1)) D ≤ ovRk (linN (D : Int) i (uI K y0) (uI K y1)) D :=
  ovRk_mono D (lin_fall (uI_le K h1.lt h1.nb h0.lt h0.nb h) hij)
structure Up4 (p0 p1 p2 p3 : Nat) : Prop where
  n0 : NumW p0
  n1 : NumW p1
  n2 : NumW p2
  n3 : NumW p3
  r1 : rankI (p0 : Nat) ≤ rankI (p1 : Nat)
  r2 : rankI (p1 : Nat) ≤ rankI (p2 : Nat)
  r3 : rankI (p2 : Nat) ≤ rankI (p3 : Nat)
theorem cub_held_up {p0 p1 p2 p3 D K : Nat} {i : Int} (hK : K = 1074) (h : Up4 p0 p1 p2 p3) (hi : 0 ≤ i) (hi' : i ≤ (D : Int)) (hD0 : 0 < D) :
    rankI (p0 : Nat) ≤ ovRk (cubN (D : Int) i (uI K p0) (uI K p1) (uI K p2) (uI K p3)) (D * D * D) ∧ ovRk (cubN (D : Int) i (uI K p0) (uI K p1) (uI K p2) (uI K p3)) (D * D * D) ≤ rankI (p3 : Nat) := by
  have u1 := uI_le K h.n0.lt h.n0.nb h.n1.lt h.n1.nb h.r1
  have u2 := uI_le K h.n1.lt h.n1.nb h.n2.lt h.n2.nb h.r2
  have u3 := uI_le K h.n2.lt h.n2.nb h.n3.lt h.n3.nb h.r3
  have hl := cub_lo (n := (D : Int)) hi hi' u1 u2 u3
  have hp : 0 < D * D * D := Nat.mul_pos (Nat.mul_pos hD0 hD0) hD0
  rw [← natD3] at hl
  exact ⟨ov_ge hK h.n0.lt h.n0.nb hp hl.1, ov_le hK h.n3.lt h.n3.nb hp hl.2⟩
theorem cub_rise {p0 p1 p2 p3 D : Nat} (K : Nat) {i j : Int} (h : Up4 p0 p1 p2 p3) (hi : 0 ≤ i) (hij : i ≤ j) (hj : j ≤ (D : Int)) : ovRk (cubN (D : Int) i (uI K p0) (uI K p1) (uI K p2) (uI K p3)) (D * D * D) ≤ ovRk (cubN (D : Int) j (uI K p0) (uI K p1) (uI K p2) (uI K p3)) (D * D * D) :=
  ovRk_mono _ (cub_mono hi hij hj (uI_le K h.n0.lt h.n0.nb h.n1.lt h.n1.nb h.r1) (uI_le K h.n1.lt h.n1.nb h.n2.lt h.n2.nb h.r2) (uI_le K h.n2.lt h.n2.nb h.n3.lt h.n3.nb h.r3))
structure Down4 (p0 p1 p2 p3 : Nat) : Prop where
  n0 : NumW p0
  n1 : NumW p1
  n2 : NumW p2
  n3 : NumW p3
  r1 : rankI (p1 : Nat) ≤ rankI (p0 : Nat)
  r2 : rankI (p2 : Nat) ≤ rankI (p1 : Nat)
  r3 : rankI (p3 : Nat) ≤ rankI (p2 : Nat)
theorem cub_held_down {p0 p1 p2 p3 D K : Nat} {i : Int} (hK : K = 1074) (h : Down4 p0 p1 p2 p3) (hi : 0 ≤ i) (hi' : i ≤ (D : Int)) (hD0 : 0 < D) :
    rankI (p3 : Nat) ≤ ovRk (cubN (D : Int) i (uI K p0) (uI K p1) (uI K p2) (uI K p3)) (D * D * D) ∧ ovRk (cubN (D : Int) i (uI K p0) (uI K p1) (uI K p2) (uI K p3)) (D * D * D) ≤ rankI (p0 : Nat) := by
  have u1 := uI_le K h.n1.lt h.n1.nb h.n0.lt h.n0.nb h.r1
  have u2 := uI_le K h.n2.lt h.n2.nb h.n1.lt h.n1.nb h.r2
  have u3 := uI_le K h.n3.lt h.n3.nb h.n2.lt h.n2.nb h.r3
  have hl := cub_hi (n := (D : Int)) hi hi' u1 u2 u3
  have hp : 0 < D * D * D := Nat.mul_pos (Nat.mul_pos hD0 hD0) hD0
  rw [← natD3] at hl
  exact ⟨ov_ge hK h.n3.lt h.n3.nb hp hl.1, ov_le hK h.n0.lt h.n0.nb hp hl.2⟩
theorem cub_sink {p0 p1 p2 p3 D : Nat} (K : Nat) {i j : Int} (h : Down4 p0 p1 p2 p3) (hi : 0 ≤ i) (hij : i ≤ j) (hj : j ≤ (D : Int)) : ovRk (cubN (D : Int) j (uI K p0) (uI K p1) (uI K p2) (uI K p3)) (D * D * D) ≤ ovRk (cubN (D : Int) i (uI K p0) (uI K p1) (uI K p2) (uI K p3)) (D * D * D) :=
  ovRk_mono _ (cub_fall hi hij hj (uI_le K h.n1.lt h.n1.nb h.n0.lt h.n0.nb h.r1) (uI_le K h.n2.lt h.n2.nb h.n1.lt h.n1.nb h.r2) (uI_le K h.n3.lt h.n3.nb h.n2.lt h.n2.nb h.r3))
end Go.Proofs.YtcmbfflemoccmaaGreat
namespace Go.Proofs.YtcmbfflemoccmaaGreat
open Go.RowKit

structure NN (x : Nat) : Prop where
  lt : x < 18446744073709551616
  le : x % 9223372036854775808 ≤ 9218868437227405312
theorem NN.cases {x : Nat} (h : NN x) : NumB x ∨ x % 9223372036854775808 = 9218868437227405312 := by
  unfold NumB; have := h.le; omega
theorem NN.nan {x : Nat} (h : NN x) : nanB (x : Nat) = false := by
  unfold nanB szI; rw [decide_eq_false_iff_not]; have := h.le; omega
theorem nn_of {x : Nat} (hlt : x < 18446744073709551616) (h : nanB (x : Nat) = false) : NN x := by
  unfold nanB szI at h; rw [decide_eq_false_iff_not] at h; exact ⟨hlt, by omega⟩
theorem NumW.nn {x : Nat} (h : NumW x) : NN x := ⟨h.lt, by have := h.nb; unfold NumB at this; omega⟩
theorem nn_wrd {s : Bool} {r : Nat} (h : r ≤ 9218868437227405312) : NN (wrd s r) ∧ sB (wrd s r) = s := by
  unfold wrd sB
  cases s
  · exact ⟨⟨by simp; omega, by simp; omega⟩, by simp; omega⟩
  · refine ⟨⟨by simp; omega, by simp; omega⟩, ?_⟩
    rw [if_pos rfl, show (9223372036854775808 + r) / 9223372036854775808 % 2 = 1 by omega]; rfl
theorem rkw_nn {r : Nat} {k : Int} (h : RkW r k) : NN r := nn_of h.2.1 h.2.2
theorem sSub_nn {x y : Nat} (hx : NumW x) (hy : NumW y) : NN (sSub x y) := by
  obtain ⟨r, e, h⟩ := sub_rank hx.nb hy.nb
  unfold sSub; rw [e, cn_some]; exact rkw_nn h
theorem sDiv_nn {x y : Nat} (hx : NN x) (hy : NumW y) (h0 : y % 9223372036854775808 ≠ 0) : NN (sDiv x y) := by
  unfold sDiv
  rcases hx.cases with h | h
  · obtain ⟨r, e, hr⟩ := quo_rank h hy.nb h0
    rw [e, cn_some]; exact rkw_nn hr
  · rw [quo_inf h hy.nb, cn_some]; exact (nn_wrd (by omega)).1
theorem sMul_nn {x y : Nat} (hx : NN x) (hy : NumW y) (h0 : y % 9223372036854775808 ≠ 0) : NN (sMul x y) := by
  unfold sMul
  rcases hx.cases with h | h
  · obtain ⟨r, e, hr⟩ := mul_rank h hy.nb
    rw [e, cn_some]; exact rkw_nn hr
  · rw [(mul_inf_num h hy.nb h0).1, cn_some]; exact (nn_wrd (by omega)).1
theorem sAdd_nn {x y : Nat} (hx : NumW x) (hy : NN y) : NN (sAdd x y) := by
  unfold sAdd
  rcases hy.cases with h | h
  · obtain ⟨r, e, hr⟩ := add_rank hx.nb h
    rw [e, cn_some]; exact rkw_nn hr
  · rw [(add_inf h hx.nb hy.lt).2, cn_some]; exact hy
theorem sAdd_same {x y : Nat} (hx : NN x) (hy : NN y) (hs : sB x = sB y) : NN (sAdd x y) := by
  unfold sAdd
  rcases hx.cases with h | h <;> rcases hy.cases with h' | h'
  · obtain ⟨r, e, hr⟩ := add_rank h h'
    rw [e, cn_some]; exact rkw_nn hr
  · rw [(add_inf h' h hy.lt).2, cn_some]; exact hy
  · rw [(add_inf h h' hx.lt).1, cn_some]; exact hx
  · have e : x = y := by
      have a := hx.lt
      have b := hy.lt
      unfold sB at hs
      have c : (x / 9223372036854775808 % 2 == 1) = (y / 9223372036854775808 % 2 == 1) := hs
      have d : x / 9223372036854775808 % 2 = y / 9223372036854775808 % 2 := by
        rcases Nat.mod_two_eq_zero_or_one (x / 9223372036854775808) with p | p <;> rcases Nat.mod_two_eq_zero_or_one (y / 9223372036854775808) with q | q <;> rw [p, q] at c <;> simp_all
      omega
    rw [add_infs h h' hx.lt hy.lt, if_pos e, cn_some]; exact hx
theorem inv_nn {c a : Nat} (hc : NumB c) (hc0 : c % 9223372036854775808 ≠ 0) (hcs : sB c = false) (ha : NN a) (h0 : a % 9223372036854775808 ≠ 0) : NN (sDiv c a) ∧ sB (sDiv c a) = sB a := by
  unfold sDiv
  rcases ha.cases with h | h
  · have hl : (mg (a % 9223372036854775808)).log2 < 53 := (Nat.log2_lt (mg_pos h0)).2 (by have := mg_lt (a % 9223372036854775808); omega)
    rw [quo_num hc h hc0 h0 rfl rfl rfl rfl (k := 300) (by omega), cn_some, hcs, Bool.false_xor]
    exact nn_wrd (nearR_topI _ _)
  · rw [quo_by_inf hc h, cn_some, hcs, Bool.false_xor]
    exact nn_wrd (by omega)
theorem two_nn {s : Nat} (hs : NN s) : NN (sDiv 4611686018427387904 s) := by
  by_cases h0 : s % 9223372036854775808 = 0
  · unfold sDiv
    rw [quo_by_zero (by unfold NumB; decide) (by decide) h0, cn_some]
    exact (nn_wrd (by omega)).1
  · exact (inv_nn (by unfold NumB; decide) (by decide) (by decide) hs h0).1
theorem ltB_pos {a : Nat} (hl : a < 18446744073709551616) (h : ltB 0 (a : Nat) = true) : a % 9223372036854775808 ≠ 0 ∧ sB a = false := by
  unfold ltB at h
  simp only [Bool.and_eq_true, Bool.not_eq_true', decide_eq_true_eq] at h
  obtain ⟨⟨_, hn⟩, hr⟩ := h
  have r0 : rankI 0 = 0 := by decide
  rw [r0] at hr
  unfold rankI at hr
  rw [hn, if_neg (by decide)] at hr
  unfold sgB szI at hr
  by_cases hs : (9223372036854775808 : Int) ≤ (a : Int)
  · simp [hs] at hr; omega
  · simp [hs] at hr
    refine ⟨by omega, ?_⟩
    unfold sB
    rw [show a / 9223372036854775808 % 2 = 0 by omega]; rfl
theorem ltB_neg {a : Nat} (hl : a < 18446744073709551616) (h : ltB (a : Nat) 0 = true) : a % 9223372036854775808 ≠ 0 ∧ sB a = true := by
  unfold ltB at h
  simp only [Bool.and_eq_true, Bool.not_eq_true', decide_eq_true_eq] at h
  obtain ⟨⟨hn, _⟩, hr⟩ := h
  have r0 : rankI 0 = 0 := by decide
  rw [r0] at hr
  unfold rankI at hr
  rw [hn, if_neg (by decide)] at hr
  unfold sgB szI at hr
  by_cases hs : (9223372036854775808 : Int) ≤ (a : Int)
  · simp [hs] at hr
    refine ⟨by omega, ?_⟩
    unfold sB
    rw [show a / 9223372036854775808 % 2 = 1 by omega]; rfl
  · simp [hs] at hr; omega
theorem slB_nn {a b : Nat} (ha : NN a) (hb : NN b) : NN (slB a b) := by
  have one : NumB 4607182418800017408 := by unfold NumB; decide
  have key : a % 9223372036854775808 ≠ 0 → b % 9223372036854775808 ≠ 0 → sB a = sB b → NN (sDiv 4611686018427387904 (sAdd (sDiv 4607182418800017408 a) (sDiv 4607182418800017408 b))) := fun h1 h2 hs => by
    obtain ⟨n1, s1⟩ := inv_nn one (by decide) (by decide) ha h1
    obtain ⟨n2, s2⟩ := inv_nn one (by decide) (by decide) hb h2
    exact two_nn (sAdd_same n1 n2 (by rw [s1, s2, hs]))
  have h := slO_of a b
  generalize slB a b = z at *
  cases h with
  | up h1 h2 =>
    obtain ⟨x1, x2⟩ := ltB_pos ha.lt h1
    obtain ⟨y1, y2⟩ := ltB_pos hb.lt h2
    exact key x1 y1 (by rw [x2, y2])
  | down1 h1 h3 h4 =>
    obtain ⟨x1, x2⟩ := ltB_neg ha.lt h3
    obtain ⟨y1, y2⟩ := ltB_neg hb.lt h4
    exact key x1 y1 (by rw [x2, y2])
  | flat1 => exact ⟨by decide, by decide⟩
  | flat2 => exact ⟨by decide, by decide⟩
  | flat3 => exact ⟨by decide, by decide⟩
theorem subR_nn {x y : Nat} (hx : NumW x) (hy : NN y) : NN (sSub x y) := by
  have e : sSub x y = sAdd x (flipN y) := by unfold sSub sAdd; rw [sub_flip hy.lt hy.nan]
  obtain ⟨f1, f2, _⟩ := flip_parts hy.lt
  rw [e]
  exact sAdd_nn hx ⟨f1, by rw [f2]; exact hy.le⟩
theorem fi_numW {m : Int} (h0 : 0 < m) (h1 : m ≤ 9007199254740992) : NumW (fi m) ∧ fi m % 9223372036854775808 ≠ 0 := by
  obtain ⟨a, b, c, d⟩ := vI_fi (m := m) rfl (by omega) h1
  refine ⟨⟨d, b⟩, fun e => ?_⟩
  have hv : vI (fi m) = 0 := by unfold vI; rw [e, V_zero]; split <;> rfl
  rw [hv] at a
  have hp : (0 : Int) < ((2 ^ 1074 : Nat) : Int) := by have := Nat.two_pow_pos 1074; omega
  have := Int.mul_pos h0 hp
  omega
theorem node_num {kind : Int} {xs : List Int} {ys : List Nat} (h : OkT kind xs ys) (hf : ∀ i < ys.length, U64 (ys.getD i 0 : Nat)) {i : Nat} (hi : i < xs.length) : NumW (ys.getD i 0) := by
  have h1 := (node_fine (h.node i hi)).2.2.2.1
  have h2 := hf i (by rw [h.len]; exact hi)
  unfold finB szI at h1
  rw [decide_eq_true_eq] at h1
  exact ⟨by have := h2.2; omega, by unfold NumB; omega⟩
theorem steep_nn {kind : Int} {xs : List Int} {ys : List Nat} (h : OkT kind xs ys) (hf : ∀ i < ys.length, U64 (ys.getD i 0 : Nat)) {k : Nat} (hk : k + 1 < xs.length) : NN (steepB xs ys k) := by
  have hs := h.step hk
  have n0 := node_fine (h.node k (by omega))
  have n1 := node_fine (h.node (k + 1) hk)
  obtain ⟨a, b⟩ := fi_numW (m := xs.getD (k + 1) 0 - xs.getD k 0) (by omega) (by omega)
  exact sDiv_nn (sSub_nn (node_num h hf hk) (node_num h hf (by omega))) a b
theorem slopP_nn {kind : Int} {xs : List Int} {ys : List Nat} (h : OkT kind xs ys) (hf : ∀ i < ys.length, U64 (ys.getD i 0 : Nat)) : ∀ k, k + 1 < xs.length → ∀ d ∈ slopP xs ys k, NN d
  | 0, hk, d, hd => by
    have : d = steepB xs ys 0 := by simpa [slopP] using hd
    rw [this]; exact steep_nn h hf hk
  | k + 1, hk, d, hd => by
    rw [slopP_next, List.mem_append] at hd
    rcases hd with hd | hd
    · exact slopP_nn h hf k (by omega) d hd
    · have : d = slB (steepB xs ys k) (steepB xs ys (k + 1)) := by simpa using hd
      rw [this]; exact slB_nn (steep_nn h hf (by omega)) (steep_nn h hf hk)
theorem slopL_nn {kind : Int} {xs : List Int} {ys : List Nat} (h : OkT kind xs ys) (hf : ∀ i < ys.length, U64 (ys.getD i 0 : Nat)) (i : Nat) : NN ((slopL xs ys xs.length).getD i 0) := by
  have z : NN 0 := ⟨by decide, by decide⟩
  by_cases hi : i < (slopL xs ys xs.length).length
  · have e : (slopL xs ys xs.length).getD i 0 = (slopL xs ys xs.length)[i] := by simp [List.getD, List.getElem?_eq_getElem hi]
    rw [e]
    have hm := List.getElem_mem hi
    generalize (slopL xs ys xs.length)[i] = d at *
    unfold slopL at hm
    have hlo := h.lo
    split at hm
    · have : d = 0 := by simpa using hm
      rw [this]; exact z
    · rw [List.mem_append] at hm
      rcases hm with hm | hm
      · exact slopP_nn h hf _ (by omega) d hm
      · have : d = steepB xs ys (xs.length - 2) := by simpa using hm
        rw [this]; exact steep_nn h hf (by omega)
  · have e : (slopL xs ys xs.length).getD i 0 = 0 := by simp [List.getD, List.getElem?_eq_none (show (slopL xs ys xs.length).length ≤ i by omega)]
    rw [e]; exact z
theorem num_mid {x a b : Nat} (hx : x < 18446744073709551616) (hn : nanB (x : Nat) = false) (ha : NumW a) (hb : NumW b) (h1 : rankI (a : Nat) ≤ rankI (x : Nat)) (h2 : rankI (x : Nat) ≤ rankI (b : Nat)) : NumW x := by
  have ra : -9218868437227405312 < rankI (a : Nat) := by
    rcases vI_rank ha.lt ha.nb with ⟨p, _, q⟩ | ⟨p, _, q⟩
    · omega
    · have := ha.nb; unfold NumB at this; omega
  have rb : rankI (b : Nat) < 9218868437227405312 := by
    rcases vI_rank hb.lt hb.nb with ⟨p, _, q⟩ | ⟨p, _, q⟩
    · have := hb.nb; unfold NumB at this; omega
    · omega
  exact ⟨hx, num_rank (k := rankI (x : Nat)) ⟨rfl, hx, hn⟩ (by omega) (by omega)⟩
theorem held_numU {v a b : Nat} (hv : NN v) (ha : NumW a) (hb : NumW b) (h : rankI (a : Nat) ≤ rankI (b : Nat)) : NumW (heldN v a b) ∧ rankI (a : Nat) ≤ rankI (heldN v a b : Nat) ∧ rankI (heldN v a b : Nat) ≤ rankI (b : Nat) := by
  obtain ⟨x, y, z⟩ := held_up hv.nan ha.nn.nan hb.nn.nan h
  rw [← heldN_cast hv.lt ha.lt hb.lt] at x y z
  exact ⟨num_mid (heldN_lt hv.lt ha.lt hb.lt) x ha hb y z, y, z⟩
theorem held_numD {v a b : Nat} (hv : NN v) (ha : NumW a) (hb : NumW b) (h : rankI (b : Nat) ≤ rankI (a : Nat)) : NumW (heldN v a b) ∧ rankI (b : Nat) ≤ rankI (heldN v a b : Nat) ∧ rankI (heldN v a b : Nat) ≤ rankI (a : Nat) := by
  obtain ⟨x, y, z⟩ := held_down hv.nan ha.nn.nan hb.nn.nan h
  rw [← heldN_cast hv.lt ha.lt hb.lt] at x y z
  exact ⟨num_mid (heldN_lt hv.lt ha.lt hb.lt) x hb ha y z, y, z⟩
theorem pts_up {h d e a b : Nat} (hh : NumW h) (h0 : h % 9223372036854775808 ≠ 0) (hd : NN d) (he : NN e) (ha : NumW a) (hb : NumW b) (hr : rankI (a : Nat) ≤ rankI (b : Nat)) : Up4 a (ptP h d a b) (ptQ h e b (ptP h d a b)) b := by
  obtain ⟨t3, t30⟩ := fi_numW (m := 3) (by decide) (by decide)
  obtain ⟨p1, p2, p3⟩ := held_numU (v := sAdd a (sDiv (sMul d h) (fi 3))) (sAdd_nn ha (sDiv_nn (sMul_nn hd hh h0) t3 t30)) ha hb hr
  obtain ⟨q1, q2, q3⟩ := held_numU (v := sSub b (sDiv (sMul e h) (fi 3))) (subR_nn hb (sDiv_nn (sMul_nn he hh h0) t3 t30)) p1 hb p3
  exact ⟨ha, p1, q1, hb, p2, q2, q3⟩
theorem pts_down {h d e a b : Nat} (hh : NumW h) (h0 : h % 9223372036854775808 ≠ 0) (hd : NN d) (he : NN e) (ha : NumW a) (hb : NumW b) (hr : rankI (b : Nat) ≤ rankI (a : Nat)) : Down4 a (ptP h d a b) (ptQ h e b (ptP h d a b)) b := by
  obtain ⟨t3, t30⟩ := fi_numW (m := 3) (by decide) (by decide)
  obtain ⟨p1, p2, p3⟩ := held_numD (v := sAdd a (sDiv (sMul d h) (fi 3))) (sAdd_nn ha (sDiv_nn (sMul_nn hd hh h0) t3 t30)) ha hb hr
  obtain ⟨q1, q2, q3⟩ := held_numD (v := sSub b (sDiv (sMul e h) (fi 3))) (subR_nn hb (sDiv_nn (sMul_nn he hh h0) t3 t30)) p1 hb p2
  exact ⟨ha, p1, q1, hb, p3, q3, q2⟩
end Go.Proofs.YtcmbfflemoccmaaGreat
