/- The walk of CurveHalf. -/
import Derived.Test.YtcmbfflemoccmaaGreatHbm
import Derived.Test.YtcmbfflemoccmaaGreatHbq
import Derived.Test.YtcmbfflemoccmaaGreatHat
import Derived.BigQuiet
namespace Go.Proofs.YtcmbfflemoccmaaGreat
open Go.RowKit

theorem half_conv {f g : Nat} (h : SgR f g) : floatToFloatBits .f64 g .f32 = some (sgl g) ∧ floatToFloatBits .f32 (sgl g) .f64 = some g := by
  obtain ⟨s0, s1, s2⟩ := sgR_sgl h
  obtain ⟨p0, p1⟩ := sgR_fin h
  have hc := conv_down p0 p1
  rw [if_pos s1] at hc
  refine ⟨hc, ?_⟩
  have e1 : sgl g % 2147483648 = sgl g := Nat.mod_eq_of_lt (by omega)
  have e2 : (sgl g / 2147483648 % 2 == 1) = false := by rw [Nat.div_eq_of_lt (by omega)]; rfl
  have hu := conv_up_num (b := sgl g) (by rw [e1]; exact s0) (by rw [e1]; exact s1)
  rw [e1, e2, wrdF, ← s2] at hu
  exact hu
structure HfB (w : World) (S T : Nat) (base kind : Int) (vd vf vX vY vV : Value) (wr : World) : Prop where
  c : VBox w base kind vd vf wr
  s0 : wr.cell? ⟨S, 0, none⟩ = some (.int .i64 base)
  s1 : wr.cell? ⟨S, 1, none⟩ = some (.int .i64 kind)
  s2 : wr.cell? ⟨S, 2, none⟩ = some vX
  s3 : wr.cell? ⟨S, 3, none⟩ = some vY
  u3 : wr.cell? ⟨T, 3, none⟩ = some vV
  lS : S < wr.heap.size
  lT : T < wr.heap.size
theorem HfB.step {w : World} {S T : Nat} {base kind : Int} {vd vf vX vY vV : Value} {wr w' : World} (h : HfB w S T base kind vd vf vX vY vV wr) (hb : Below wr.heap.size wr w') : HfB w S T base kind vd vf vX vY vV w' :=
  ⟨h.c.step hb, (hb.cell (p := ⟨S, 0, none⟩) h.lS).trans h.s0, (hb.cell (p := ⟨S, 1, none⟩) h.lS).trans h.s1, (hb.cell (p := ⟨S, 2, none⟩) h.lS).trans h.s2, (hb.cell (p := ⟨S, 3, none⟩) h.lS).trans h.s3, (hb.cell (p := ⟨T, 3, none⟩) h.lT).trans h.u3, Nat.lt_of_lt_of_le h.lS hb.size, Nat.lt_of_lt_of_le h.lT hb.size⟩
theorem VBox.allocH {w wr : World} {base kind : Int} {vd vf : Value} (h : VBox w base kind vd vf wr) (o : Obj) : VBox w base kind vd vf (wr.alloc o) := h.step ((Below.refl _ _).alloc (Nat.le_refl _) o)

theorem hfB_at {w w1 w2 : World} {base kind : Int} {vd vf : Value} (h : VBox w base kind vd vf w1) (vX vY vU vV : Value) (hb : Below (w1.alloc (.cells #[.int .i64 base, .int .i64 kind, vX, vY] 25)).heap.size (w1.alloc (.cells #[.int .i64 base, .int .i64 kind, vX, vY] 25)) w2) : HfB w w1.heap.size w2.heap.size base kind vd vf vX vY vV (w2.alloc (.cells #[.int .i64 base, .int .i64 kind, vU, vV] 25)) := by
  have z : (w1.alloc (.cells #[.int .i64 base, .int .i64 kind, vX, vY] 25)).heap.size = w1.heap.size + 1 := by simp
  have hl : w1.heap.size < w2.heap.size := by have := hb.size; omega
  have b2 : Below w2.heap.size w2 (w2.alloc (.cells #[.int .i64 base, .int .i64 kind, vU, vV] 25)) := (Below.refl _ _).alloc (Nat.le_refl _) _
  refine ⟨((h.allocH _).step hb).step b2, ?_, ?_, ?_, ?_, by simp, Nat.lt_of_lt_of_le hl b2.size, by simp⟩
  · exact (b2.cell (p := ⟨w1.heap.size, 0, none⟩) hl).trans ((hb.cell (p := ⟨w1.heap.size, 0, none⟩) (by rw [z]; exact Nat.lt_succ_self _)).trans (by simp))
  · exact (b2.cell (p := ⟨w1.heap.size, 1, none⟩) hl).trans ((hb.cell (p := ⟨w1.heap.size, 1, none⟩) (by rw [z]; exact Nat.lt_succ_self _)).trans (by simp))
  · exact (b2.cell (p := ⟨w1.heap.size, 2, none⟩) hl).trans ((hb.cell (p := ⟨w1.heap.size, 2, none⟩) (by rw [z]; exact Nat.lt_succ_self _)).trans (by simp))
  · exact (b2.cell (p := ⟨w1.heap.size, 3, none⟩) hl).trans ((hb.cell (p := ⟨w1.heap.size, 3, none⟩) (by rw [z]; exact Nat.lt_succ_self _)).trans (by simp))
theorem run_half_down {f g : Nat} (h : SgR f g) (w : World) : (convert 38 66 (.float .f64 g)).run Tryz.prog w = .ok (.float .f32 (sgl g)) w :=
  run_convert_float_float (P := Tryz.prog) (w := w) 38 66 .f64 .f32 g (sgl g) (by rw [und64]; rfl) und32 (half_conv h).1
theorem run_half_up {f g : Nat} (h : SgR f g) (w : World) : (convert 66 38 (.float .f32 (sgl g))).run Tryz.prog w = .ok (.float .f64 g) w :=
  run_convert_float_float (P := Tryz.prog) (w := w) 66 38 .f32 .f64 (sgl g) g (by rw [und32]; rfl) und64 (half_conv h).2
set_option maxRecDepth 20000 in
set_option maxHeartbeats 1600000 in
theorem curveHalf_bad (base ck E : Int) (vd vf : Value) (w : World) (hE : E ≠ 0)
    (HS : Hid (∀ wx, Below w.heap.size w wx → Calls Tryz.prog 19 #[.agg #[.int .i64 base, .int .i64 ck, vd, vf]] wx fun e w' => e = .returned (.tuple #[.agg #[.int .i64 0, .int .i64 0, .slice none 0 0, .slice none 0 0], .int .i64 E]) ∧ Below wx.heap.size wx w')) :
    Calls Tryz.prog 8 #[.agg #[.int .i64 base, .int .i64 ck, vd, vf]] w fun e w' => e = .returned (.bool true) ∧ Below w.heap.size w w' := by
  have HB0 := hideS (vboxA_at w base ck vd vf)
  have d1 : (E != 0) = true := bne_iff_ne.2 hE
  clear hE
  go_enter Tryz.func8, Tryz.ntmps8
  go_wp2_with fail
  refine (HS.out _ HB0.out.bl).mono ?_
  rintro e w1 ⟨rfl, hb1⟩
  have HB1 := hideS (HB0.out.step hb1).allocH
  clear hb1 HB0
  go_wp2_with fail
  refine (awake11 _).mono ?_
  rintro e w99 ⟨rfl, hb99⟩
  go_wp2_with fail
  go_ret
  exact ⟨rfl, ((HB1.out _).step hb99).bl⟩

set_option maxRecDepth 20000 in
set_option maxHeartbeats 6400000 in
theorem curveHalf_go (base ck : Int) (n bx ox cx b2 oy cy : Nat) (ds : List Int) (fs : List Nat) (w : World) (hn : 1 ≤ n) (hn' : n ≤ 255) (hlf : fs.length = n) (hp : ∀ i < n, 0 < fs.getD i 0 ∧ fs.getD i 0 < 9218868437227405312)
    (HD : Hid (VSrc w (some ⟨bx, ox, none⟩) bx ox n (xV ds)))
    (HSc : Hid (∀ wx, Below w.heap.size w wx → Calls Tryz.prog 19 #[.agg #[.int .i64 base, .int .i64 ck, .slice (some ⟨bx, ox, none⟩) n cx, .slice (some ⟨b2, oy, none⟩) n cy]] wx fun e w' => SgO wx base ck n ds fs e w' ∧ Below wx.heap.size wx w'))
    (HFc : Hid (∀ wx, Below w.heap.size w wx → Calls Tryz.prog 18 #[.agg #[.int .i64 base, .int .i64 ck, .slice (some ⟨bx, ox, none⟩) n cx, .slice (some ⟨b2, oy, none⟩) n cy]] wx fun e w' => e = .returned (.tuple #[.bool (fallB fs), .int .i64 0]) ∧ Below wx.heap.size wx w'))
    (HSs : Hid (∀ wx gx c1 gy c2 gs, VSrc wx (some ⟨gx, 0, none⟩) gx 0 n (xV ds) → VSrc wx (some ⟨gy, 0, none⟩) gy 0 n (flV gs) → gs.length = n → (∀ j < n, SgR (fs.getD j 0) (gs.getD j 0)) → Calls Tryz.prog 19 #[.agg #[.int .i64 base, .int .i64 ck, .slice (some ⟨gx, 0, none⟩) n c1, .slice (some ⟨gy, 0, none⟩) n c2]] wx fun e w' => SgO wx base ck n ds gs e w' ∧ Below wx.heap.size wx w'))
    (HFs : Hid (∀ wx gx c1 gy c2 gs, VSrc wx (some ⟨gx, 0, none⟩) gx 0 n (xV ds) → VSrc wx (some ⟨gy, 0, none⟩) gy 0 n (flV gs) → gs.length = n → (∀ j < n, SgR (fs.getD j 0) (gs.getD j 0)) → Calls Tryz.prog 18 #[.agg #[.int .i64 base, .int .i64 ck, .slice (some ⟨gx, 0, none⟩) n c1, .slice (some ⟨gy, 0, none⟩) n c2]] wx fun e w' => e = .returned (.tuple #[.bool (fallB gs), .int .i64 0]) ∧ Below wx.heap.size wx w'))
    (hdl : ds.length = n) :
    Calls Tryz.prog 8 #[.agg #[.int .i64 base, .int .i64 ck, .slice (some ⟨bx, ox, none⟩) n cx, .slice (some ⟨b2, oy, none⟩) n cy]] w fun e w' => e = .returned (.bool true) ∧ Below w.heap.size w w' := by
  have HB0 := hideS (vboxA_at w base ck (.slice (some ⟨bx, ox, none⟩) n cx) (.slice (some ⟨b2, oy, none⟩) n cy))
  have d1 : decide ((255 : Int) < (n : Int)) = false := decide_eq_false (by omega)
  have d2 : ((n : Int) != (n : Int)) = false := by simp
  have HFall : Hid (∀ gs : List Nat, gs.length = n → (∀ j < n, SgR (fs.getD j 0) (gs.getD j 0)) → fallB fs = true → fallB gs = true) := fun gs h1 h2 => half_fall hlf h1 hp h2
  have HDl := hideS hdl
  clear hlf hp hdl
  go_enter Tryz.func8, Tryz.ntmps8
  go_wp2_with fail
  refine (HSc.out _ HB0.out.bl).mono ?_
  rintro e w1 ⟨hO, hb1⟩
  have HB1 := hideS (HB0.out.step hb1)
  clear hb1 HB0 HSc
  rcases hO with ⟨rfl, _⟩ | ⟨gx, c1, gy, c2, gs, hgn, hgr, rfl, ox1, oy1⟩
  · clear HFc HSs HFs HFall
    go_wp2_with fail
    refine (awake11 _).mono ?_
    rintro e w99 ⟨rfl, hb99⟩
    go_wp2_with fail
    go_ret
    exact ⟨rfl, ((HB1.out.allocH _).step hb99).bl⟩
  · have HG := hideS (And.intro hgn hgr)
    obtain ⟨_, _, e1, hx1, _, _, _⟩ := kown_src ox1 HDl.out (by omega)
    obtain ⟨_, _, e2, hy1, _, _, _⟩ := kfown_src oy1 hgn (by omega)
    injection e1 with e1a _ e1b
    injection e1a with e1a
    injection e1a with e1a
    injection e2 with e2a _ e2b
    injection e2a with e2a
    injection e2a with e2a
    subst e1a e1b e2a e2b
    have HX1 := hideS hx1
    have HY1 := hideS hy1
    have t0 := HB1.out.t0
    have t1 := HB1.out.t1
    have t2 := HB1.out.t2
    have t3 := HB1.out.t3
    have l1 : w.heap.size < w1.heap.size := HB1.out.lt
    have l2 : w.heap.size ≠ w1.heap.size := Nat.ne_of_lt l1
    have HSn := hideS fun o => HSs.out (w1.alloc o) gx c1 gy c2 gs (HX1.out.below ((Below.refl _ _).alloc (Nat.le_refl _) o)) (HY1.out.below ((Below.refl _ _).alloc (Nat.le_refl _) o)) HG.out.1 HG.out.2
    clear hx1 hy1 ox1 oy1 hgn hgr HSs
    go_wp2_with fail
    refine (HSn.out _).mono ?_
    rintro e w2 ⟨hO2, hb2⟩
    rcases hO2 with ⟨_, j, hj, hbad⟩ | ⟨gx2, c3, gy2, c4, gs2, hgn2, hgr2, rfl, ox2, oy2⟩
    · obtain ⟨s0, s1, _⟩ := sgR_sgl (HG.out.2 j hj)
      exact absurd ⟨s0, s1⟩ hbad
    · have hgs : gs2 = gs := by
        apply List.ext_getElem (by rw [hgn2, HG.out.1])
        intro j h1 h2
        have := sgR_again (HG.out.2 j (by omega)) (hgr2 j (by omega))
        rw [List.getD_eq_getElem?_getD, List.getD_eq_getElem?_getD, List.getElem?_eq_getElem h1, List.getElem?_eq_getElem h2] at this
        exact this
      subst hgs
      obtain ⟨_, _, e2, hy2, _, _, _⟩ := kfown_src oy2 hgn2 (by omega)
      injection e2 with e2a _ e2b
      injection e2a with e2a
      injection e2a with e2a
      subst e2a e2b
      have HZ2 := hideS hy2
      have B1 : ∀ o, Below w1.heap.size w1 (w1.alloc o) := fun o => (Below.refl _ _).alloc (Nat.le_refl _) o
      have hb1 : Below w1.heap.size w1 w2 := (B1 _).trans (hb2.mono (B1 _).size)
      have b2 : Below w2.heap.size w2 (w2.alloc (.cells #[.int .i64 base, .int .i64 ck, .slice (some ⟨gx2, 0, none⟩) n c3, .slice (some ⟨gy2, 0, none⟩) n c4] 25)) := (Below.refl _ _).alloc (Nat.le_refl _) _
      have HB3 := hideS (hfB_at HB1.out (.slice (some ⟨gx, 0, none⟩) n c1) (.slice (some ⟨gy, 0, none⟩) n c2) (.slice (some ⟨gx2, 0, none⟩) n c3) (.slice (some ⟨gy2, 0, none⟩) n c4) hb2)
      have HX3 := hideS ((HX1.out.below hb1).below b2)
      have HY3 := hideS ((HY1.out.below hb1).below b2)
      have HZ3 := hideS (HZ2.out.below b2)
      have HSf := hideS fun wx hx hy => HFs.out wx gx c1 gy c2 gs2 hx hy HG.out.1 HG.out.2
      have HFl := hideS (HFall.out gs2 HG.out.1 HG.out.2)
      have HV2 := hideS ((HB1.out.allocH _).step hb2)
      clear hb1 b2 HZ2 hb2 B1 HX1 HY1 HB1 HSn oy2 ox2 hy2 HFs HFall t0 t1 t2 t3 l1 l2 hgr2 hgn2
      have t0 := HV2.out.t0
      have t1 := HV2.out.t1
      have t2 := HV2.out.t2
      have t3 := HV2.out.t3
      have l1 : w.heap.size < w2.heap.size := HV2.out.lt
      have l2 : w.heap.size ≠ w2.heap.size := Nat.ne_of_lt l1
      clear HV2
      go_wp2_with fail
      refine (HFc.out _ HB3.out.c.bl).mono ?_
      rintro e w3 ⟨rfl, hb3⟩
      clear t0 t1 t2 t3 l1 l2 HFc
      have HB4 := hideS (HB3.out.step hb3)
      have HX4 := hideS (HX3.out.below hb3)
      have HY4 := hideS (HY3.out.below hb3)
      have HZ4 := hideS (HZ3.out.below hb3)
      clear hb3 HB3 HX3 HY3 HZ3
      have s0 := HB4.out.s0
      have s1 := HB4.out.s1
      have s2 := HB4.out.s2
      have s3 := HB4.out.s3
      generalize w1.heap.size = S at *
      generalize w2.heap.size = T at *
      go_wp2_with fail
      refine (HSf.out _ HX4.out HY4.out).mono ?_
      rintro e w4 ⟨rfl, hb4⟩
      have HB5 := hideS (HB4.out.step hb4)
      have HX5 := hideS (HX4.out.below hb4)
      have HY5 := hideS (HY4.out.below hb4)
      have HZ5 := hideS (HZ4.out.below hb4)
      have HD5 := hideS (HD.out.below HB5.out.c.bl)
      clear hb4 HB4 HX4 HY4 HZ4 HSf s0 s1 s2 s3 HD
      have t3 := HB5.out.c.t3
      have s3 := HB5.out.s3
      have u3 := HB5.out.u3
      have hab : fallB fs = true → fallB gs2 = true := HFl.out
      clear HFl
      have key : Hid (Below w4.heap.size w4 w4) := Below.refl _ _
      generalize fallB fs = a at hab ⊢
      generalize fallB gs2 = b at hab ⊢
      have hcase : a = false ∨ (a = true ∧ b = true) := by cases a with | false => exact Or.inl rfl | true => exact Or.inr ⟨rfl, hab rfl⟩
      clear hab
      rcases hcase with rfl | ⟨rfl, rfl⟩
      · go_wp2_with fail
        clear t3 s3 u3
        go_loopw [11, 12] (fun i _ wr => ∃ k : Nat, k ≤ n ∧ i = .int .i64 k ∧ Hid (Below w4.heap.size w4 wr)) (fun i _ _ => n - (intOf i).toNat)
        case atStart => exact ⟨0, Nat.zero_le _, rfl, key⟩
        case round =>
          obtain ⟨k, hk, rfl, HR⟩ := hrel
          have HBr := hideS (HB5.out.step HR.out)
          have s3 := HBr.out.s3
          by_cases hlt : k < n
          · have c1 := (HY5.out.below HR.out).cell k hlt
            have c2 := (HZ5.out.below HR.out).cell k hlt
            have c3 := (HX5.out.below HR.out).cell k hlt
            have c4 := (HD5.out.below HR.out).cell k hlt
            have hg := HG.out.2 k hlt
            have s2 := HBr.out.s2
            have u3 := HBr.out.u3
            have t2 := HBr.out.c.t2
            have r1 := run_half_down hg
            have r2 := run_half_up hg
            have o1 : (FloatKind.f64.format.order (gs2.getD k 0) (gs2.getD k 0) == some .eq) = true := by
              obtain ⟨p0, p1⟩ := sgR_fin hg
              rw [eq_self (u64N (by omega))]; unfold nanB szI; rw [decide_eq_false (by omega)]; rfl
            have o2 : (FloatKind.f64.format.order (gs2.getD k 0) (gs2.getD k 0) != some .eq) = false := by rw [bne, o1]; rfl
            have g1 : (0 : Int) ≤ (k : Int) := by omega
            have g2 : (k : Int) < (n : Int) := by omega
            have n2 : ((gs2.getD k 0 : Int) != (gs2.getD k 0 : Int)) = false := by simp
            have n3 : (ds.getD k 0 != ds.getD k 0) = false := by simp
            simp only [flV, xV, Nat.zero_add] at c1 c2 c3 c4
            clear hg
            generalize gs2.getD k 0 = g at *
            generalize ds.getD k 0 = D at *
            go_wp2_with fail
            go_quiet ((go_at_call 28; exact Calls.quiet_of_same (bits_any _ _)))
            go_wp2_with fail
            go_roundw
            case rel => exact ⟨k + 1, by omega, by simp, below_drN11 HR.out _⟩
            case measure => simp [intOf]; omega
          · obtain rfl : k = n := by omega
            have hge : ¬ (k : Int) < (k : Int) := by omega
            have s0 := HBr.out.s0
            have s1 := HBr.out.s1
            have t0 := HBr.out.c.t0
            have t1 := HBr.out.c.t1
            go_wp2_with fail
            refine (awake11 _).mono ?_
            rintro e w99 ⟨rfl, hb99⟩
            go_wp2_with fail
            go_ret
            exact ⟨rfl, (HBr.out.c.step hb99).bl⟩
      · go_wp2_with fail
        clear t3 s3 u3
        go_loopw [11, 12] (fun i _ wr => ∃ k : Nat, k ≤ n ∧ i = .int .i64 k ∧ Hid (Below w4.heap.size w4 wr)) (fun i _ _ => n - (intOf i).toNat)
        case atStart => exact ⟨0, Nat.zero_le _, rfl, key⟩
        case round =>
          obtain ⟨k, hk, rfl, HR⟩ := hrel
          have HBr := hideS (HB5.out.step HR.out)
          have s3 := HBr.out.s3
          by_cases hlt : k < n
          · have c1 := (HY5.out.below HR.out).cell k hlt
            have c2 := (HZ5.out.below HR.out).cell k hlt
            have c3 := (HX5.out.below HR.out).cell k hlt
            have c4 := (HD5.out.below HR.out).cell k hlt
            have hg := HG.out.2 k hlt
            have s2 := HBr.out.s2
            have u3 := HBr.out.u3
            have t2 := HBr.out.c.t2
            have r1 := run_half_down hg
            have r2 := run_half_up hg
            have o1 : (FloatKind.f64.format.order (gs2.getD k 0) (gs2.getD k 0) == some .eq) = true := by
              obtain ⟨p0, p1⟩ := sgR_fin hg
              rw [eq_self (u64N (by omega))]; unfold nanB szI; rw [decide_eq_false (by omega)]; rfl
            have o2 : (FloatKind.f64.format.order (gs2.getD k 0) (gs2.getD k 0) != some .eq) = false := by rw [bne, o1]; rfl
            have g1 : (0 : Int) ≤ (k : Int) := by omega
            have g2 : (k : Int) < (n : Int) := by omega
            have n2 : ((gs2.getD k 0 : Int) != (gs2.getD k 0 : Int)) = false := by simp
            have n3 : (ds.getD k 0 != ds.getD k 0) = false := by simp
            simp only [flV, xV, Nat.zero_add] at c1 c2 c3 c4
            clear hg
            generalize gs2.getD k 0 = g at *
            generalize ds.getD k 0 = D at *
            go_wp2_with fail
            go_quiet ((go_at_call 28; exact Calls.quiet_of_same (bits_any _ _)))
            go_wp2_with fail
            go_roundw
            case rel => exact ⟨k + 1, by omega, by simp, below_drN11 HR.out _⟩
            case measure => simp [intOf]; omega
          · obtain rfl : k = n := by omega
            have hge : ¬ (k : Int) < (k : Int) := by omega
            have s0 := HBr.out.s0
            have s1 := HBr.out.s1
            have t0 := HBr.out.c.t0
            have t1 := HBr.out.c.t1
            go_wp2_with fail
            refine (awake11 _).mono ?_
            rintro e w99 ⟨rfl, hb99⟩
            go_wp2_with fail
            go_ret
            exact ⟨rfl, (HBr.out.c.step hb99).bl⟩
theorem ok_pos {base kind : Int} {ds : List Int} {fs : List Nat} (h : OkV base kind ds fs) (hf : ∀ i < fs.length, fs.getD i 0 < 18446744073709551616) : ∀ i < ds.length, 0 < fs.getD i 0 ∧ fs.getD i 0 < 9218868437227405312 := fun i hi => by
  refine facB_pos (hf i (by rw [h.len]; exact hi)) ?_
  have hi' := h.node i hi
  unfold nodC at hi'
  simp only [Bool.or_eq_false_iff, Bool.not_eq_false'] at hi'
  unfold facB
  rw [Bool.and_eq_true]
  exact ⟨hi'.1.2, hi'.2⟩
theorem curveHalf_walk (base kind : Int) (px py : Option Addr) (bx ox cx b2 oy cy : Nat) (xs : List Int) (ys : List Nat) (w : World) (hs : TFl w px py bx ox b2 oy xs ys) (_hxI : ∀ i < xs.length, TI64 (xs.getD i 0)) (_hx : xs.length ≤ 17592186043904) (_hy : ys.length ≤ 17592186043904) (_hlx : xs.length ≤ cx) (_hly : ys.length ≤ cy) :
    Calls Tryz.prog 8 #[.agg #[.int .i64 base, .int .i64 kind, .slice px xs.length cx, .slice py ys.length cy]] w fun e w' => e = .returned (.bool true) ∧ Below w.heap.size w w' := by
  obtain ⟨E, hE⟩ := curR_ex base kind xs ys
  by_cases h0 : E = 0
  · subst h0
    have ok := curR_ok hE
    have hl := ok.len
    have lo := ok.lo
    have hp := ok_pos ok hs.f
    obtain rfl := hs.x.at_ (by omega)
    obtain rfl := hs.y.at_ (by omega)
    have one : ∀ (wx : World) (gx o1 c1 gy o2 c2 : Nat) (gs : List Nat), OkV base kind xs gs → TFl wx (some ⟨gx, o1, none⟩) (some ⟨gy, o2, none⟩) gx o1 gy o2 xs gs → Calls Tryz.prog 19 #[.agg #[.int .i64 base, .int .i64 kind, .slice (some ⟨gx, o1, none⟩) xs.length c1, .slice (some ⟨gy, o2, none⟩) xs.length c2]] wx fun e w' => SgO wx base kind xs.length xs gs e w' ∧ Below wx.heap.size wx w' := fun wx gx o1 c1 gy o2 c2 gs ok' h => by
      have hp := ok_pos ok' h.f
      have hl := ok'.len
      refine curSingle_ok base kind gx o1 c1 gy o2 c2 xs.length xs gs wx h.x (by have := h.y; rw [hl] at this; exact this) rfl ok'.lo ok'.hi hp (fun wy hb => ?_)
      have := curCheck_any base kind _ _ gx o1 c1 gy o2 c2 xs gs wy (h.below hb) (.ok ok')
      rw [hl] at this; exact this
    have two : ∀ (wx : World) (gx o1 c1 gy o2 c2 : Nat) (gs : List Nat), OkV base kind xs gs → TFl wx (some ⟨gx, o1, none⟩) (some ⟨gy, o2, none⟩) gx o1 gy o2 xs gs → Calls Tryz.prog 18 #[.agg #[.int .i64 base, .int .i64 kind, .slice (some ⟨gx, o1, none⟩) xs.length c1, .slice (some ⟨gy, o2, none⟩) xs.length c2]] wx fun e w' => e = .returned (.tuple #[.bool (fallB gs), .int .i64 0]) ∧ Below wx.heap.size wx w' := fun wx gx o1 c1 gy o2 c2 gs ok' h => by
      have := curFalls_any base kind _ _ gx o1 c1 gy o2 c2 xs gs wx h (.ok ok')
      rw [decide_eq_true rfl, Bool.true_and, ok'.len] at this; exact this
    have src : ∀ (wx : World) (gx gy : Nat) (gs : List Nat), VSrc wx (some ⟨gx, 0, none⟩) gx 0 xs.length (xV xs) → VSrc wx (some ⟨gy, 0, none⟩) gy 0 xs.length (flV gs) → gs.length = xs.length → (∀ j < xs.length, SgR (ys.getD j 0) (gs.getD j 0)) → OkV base kind xs gs ∧ TFl wx (some ⟨gx, 0, none⟩) (some ⟨gy, 0, none⟩) gx 0 gy 0 xs gs := fun wx gx gy gs h1 h2 h3 h4 => ⟨half_ok ok h3 h4, ⟨h1, by rw [h3]; exact h2, fun i hi => by have := (sgR_fin (h4 i (by omega))).2; omega⟩⟩
    have a1 := fun wx (hb : Below w.heap.size w wx) => one wx bx ox cx b2 oy cy ys ok (hs.below hb)
    have a2 := fun wx (hb : Below w.heap.size w wx) => two wx bx ox cx b2 oy cy ys ok (hs.below hb)
    rw [hl]
    exact curveHalf_go base kind xs.length bx ox cx b2 oy cy xs ys w lo ok.hi hl hp hs.x a1 a2 (fun wx gx c1 gy c2 gs h1 h2 h3 h4 => one wx gx 0 c1 gy 0 c2 gs (src wx gx gy gs h1 h2 h3 h4).1 (src wx gx gy gs h1 h2 h3 h4).2) (fun wx gx c1 gy c2 gs h1 h2 h3 h4 => two wx gx 0 c1 gy 0 c2 gs (src wx gx gy gs h1 h2 h3 h4).1 (src wx gx gy gs h1 h2 h3 h4).2) rfl
  · exact curveHalf_bad base kind E _ _ w h0 (fun wx hb => curSingle_bad base kind E _ _ wx h0 (fun wy hb' => curCheck_any base kind px py bx ox cx b2 oy cy xs ys wy ((hs.below hb).below hb') hE))
end Go.Proofs.YtcmbfflemoccmaaGreat
