/- The walk of CurveFalls. -/
import Derived.Test.YtcmbfflemoccmaaGreatHbt
import Derived.Test.YtcmbfflemoccmaaGreatHau
import Derived.Deep.RegionHeld3
import Derived.BigQuiet
namespace Go.Proofs.YtcmbfflemoccmaaGreat
open Go.RowKit

set_option maxRecDepth 20000 in
set_option maxHeartbeats 1600000 in
theorem curveFalls_bad (base ck x y E : Int) (B : Bool) (vd vf : Value) (w : World) (hE : E ≠ 0)
    (HF : Hid (∀ wx, Below w.heap.size w wx → Calls Tryz.prog 18 #[.agg #[.int .i64 base, .int .i64 ck, vd, vf]] wx fun e w' => e = .returned (.tuple #[.bool B, .int .i64 E]) ∧ Below wx.heap.size wx w')) (HW : Hid (∀ wx, Calls Tryz.prog 9 #[] wx fun e w' => e = .returned (.bool true) ∧ Below wx.heap.size wx w')) :
    Calls Tryz.prog 7 #[.agg #[.int .i64 base, .int .i64 ck, vd, vf], .int .i64 x, .int .i64 y] w fun e w' => e = .returned (.bool true) ∧ Below w.heap.size w w' := by
  have HB0 := hideS (vboxA_at w base ck vd vf)
  have d1 : (E != 0) = true := bne_iff_ne.2 hE
  clear hE
  go_enter Tryz.func7, Tryz.ntmps7
  go_wp2_with fail
  refine (HF.out _ HB0.out.bl).mono ?_
  rintro e w1 ⟨rfl, hb1⟩
  have HB1 := hideS (HB0.out.step hb1)
  clear hb1 HB0
  go_wp2_with fail
  refine (HW.out _).mono ?_
  rintro e w99 ⟨rfl, hb99⟩
  go_wp2_with fail
  go_ret
  exact ⟨rfl, (HB1.out.step hb99).bl⟩

def fallE (ck : Int) (B : Bool) (V W : Nat) : Prop := (FloatKind.f64.format.order V 0 == some .gt) = true ∧ (FloatKind.f64.format.order W 0 == some .gt) = true ∧ (B = true → (FloatKind.f64.format.order V 4607182418800017408 == some .gt) = false ∧ (FloatKind.f64.format.order W 4607182418800017408 == some .gt) = false ∧ (ck ≠ 4 → ((FloatKind.f64.format.order V W == some .gt) || (FloatKind.f64.format.order V W == some .eq)) = true))
set_option maxRecDepth 20000 in
set_option maxHeartbeats 6400000 in
theorem curveFalls_go (base ck x y E F : Int) (V W n : Nat) (B : Bool) (bx ox cx b2 oy cy : Nat) (xs : List Int) (ys : List Nat) (w : World) (hn : 1 ≤ n) (hn' : n ≤ 255) (hq : E = 0 → F = 0 → x ≤ y → fallE ck B V W)
    (HF : Hid (∀ wx, Below w.heap.size w wx → Calls Tryz.prog 18 #[.agg #[.int .i64 base, .int .i64 ck, .slice (some ⟨bx, ox, none⟩) n cx, .slice (some ⟨b2, oy, none⟩) n cy]] wx fun e w' => e = .returned (.tuple #[.bool B, .int .i64 0]) ∧ Below wx.heap.size wx w'))
    (HO : Hid (∀ wx, Below w.heap.size w wx → Calls Tryz.prog 15 #[.agg #[.int .i64 base, .int .i64 ck, .slice (some ⟨bx, ox, none⟩) n cx, .slice (some ⟨b2, oy, none⟩) n cy], .int .i64 base] wx fun e w' => e = .returned (.tuple #[.float .f64 4607182418800017408, .int .i64 0]) ∧ Below wx.heap.size wx w'))
    (HN : Hid (∀ wx, Below w.heap.size w wx → ∀ k, k < n → Calls Tryz.prog 15 #[.agg #[.int .i64 base, .int .i64 ck, .slice (some ⟨bx, ox, none⟩) n cx, .slice (some ⟨b2, oy, none⟩) n cy], .int .i64 (xs.getD k 0)] wx fun e w' => e = .returned (.tuple #[.float .f64 (ys.getD k 0), .int .i64 0]) ∧ Below wx.heap.size wx w'))
    (HX : Hid (∀ wx, Below w.heap.size w wx → Calls Tryz.prog 15 #[.agg #[.int .i64 base, .int .i64 ck, .slice (some ⟨bx, ox, none⟩) n cx, .slice (some ⟨b2, oy, none⟩) n cy], .int .i64 x] wx fun e w' => e = .returned (.tuple #[.float .f64 V, .int .i64 E]) ∧ Below wx.heap.size wx w'))
    (HY : Hid (∀ wx, Below w.heap.size w wx → Calls Tryz.prog 15 #[.agg #[.int .i64 base, .int .i64 ck, .slice (some ⟨bx, ox, none⟩) n cx, .slice (some ⟨b2, oy, none⟩) n cy], .int .i64 y] wx fun e w' => e = .returned (.tuple #[.float .f64 W, .int .i64 F]) ∧ Below wx.heap.size wx w'))
    (HS : Hid (∀ wx, Below w.heap.size w wx → ∀ k, k < n → wx.cell? ⟨bx, ox + k, none⟩ = some (.int .i64 (xs.getD k 0)) ∧ wx.cell? ⟨b2, oy + k, none⟩ = some (.float .f64 (ys.getD k 0))))
    (HW : Hid (∀ wx, Calls Tryz.prog 9 #[] wx fun e w' => e = .returned (.bool true) ∧ Below wx.heap.size wx w')) :
    Calls Tryz.prog 7 #[.agg #[.int .i64 base, .int .i64 ck, .slice (some ⟨bx, ox, none⟩) n cx, .slice (some ⟨b2, oy, none⟩) n cy], .int .i64 x, .int .i64 y] w fun e w' => e = .returned (.bool true) ∧ Below w.heap.size w w' := by
  have HB0 := hideS (vboxA_at w base ck (.slice (some ⟨bx, ox, none⟩) n cx) (.slice (some ⟨b2, oy, none⟩) n cy))
  have d1 : decide ((255 : Int) < (n : Int)) = false := decide_eq_false (by omega)
  have d2 : ((n : Int) != (n : Int)) = false := by simp
  have HQ := hideS hq
  clear hq
  go_enter Tryz.func7, Tryz.ntmps7
  go_wp2_with fail
  refine (HF.out _ HB0.out.bl).mono ?_
  rintro e w1 ⟨rfl, hb1⟩
  have HB1 := hideS (HB0.out.step hb1)
  clear hb1 HB0 HF
  have t0 := HB1.out.t0
  have t1 := HB1.out.t1
  have t2 := HB1.out.t2
  have t3 := HB1.out.t3
  go_wp2_with fail
  refine (HO.out _ HB1.out.bl).mono ?_
  rintro e w2 ⟨rfl, hb2⟩
  have HB2 := hideS (HB1.out.step hb2)
  clear hb2 HB1 HO t0 t1 t2 t3 d1 d2
  go_wp2_with (go_at_call 28; refine (turned (bits_any _ _)).mono ?_; rintro e wb ⟨rfl, rfl⟩)
  go_loopw [11] (fun i wr => ∃ k : Nat, k ≤ n ∧ i = .int .i64 k ∧ Hid (VBox w base ck (.slice (some ⟨bx, ox, none⟩) n cx) (.slice (some ⟨b2, oy, none⟩) n cy) wr)) (fun i _ => n - (intOf i).toNat)
  case atStart => exact ⟨0, Nat.zero_le _, rfl, HB2⟩
  case round =>
    clear HB2
    obtain ⟨k, hk, rfl, HBr⟩ := hrel
    have t0 := HBr.out.t0
    have t1 := HBr.out.t1
    have t2 := HBr.out.t2
    have t3 := HBr.out.t3
    by_cases hlt : k < n
    · have c1 := (HS.out _ HBr.out.bl k hlt).1
      have HNk := hideS (fun wx hb => HN.out wx hb k hlt)
      have HSk := hideS (fun wx hb => (HS.out wx hb k hlt).2)
      have HBd := hideS (HBr.out.drewN 1)
      have g1 : (0 : Int) ≤ (k : Int) := by omega
      have g2 : (k : Int) < (n : Int) := by omega
      generalize xs.getD k 0 = d at *
      generalize ys.getD k 0 = f at *
      go_wp2_with fail
      go_region_held3 (fun w' => w'.cell? ⟨w.heap.size, 0, none⟩ = some (.int .i64 base) ∧ w'.cell? ⟨w.heap.size, 1, none⟩ = some (.int .i64 ck) ∧ w'.cell? ⟨w.heap.size, 2, none⟩ = some (.slice (some ⟨bx, ox, none⟩) n cx) ∧ w'.cell? ⟨w.heap.size, 3, none⟩ = some (.slice (some ⟨b2, oy, none⟩) n cy) ∧ w'.cell? ⟨bx, ox + k, none⟩ = some (.int .i64 d)) (first | go_keep | exact ⟨HB5.out.t0, HB5.out.t1, HB5.out.t2, HB5.out.t3, HD5.out⟩)
        ((go_at_call 15; refine (HNk.out _ HBd.out.bl).mono ?_; rintro e w5 ⟨rfl, hb5⟩; have HB5 := hideS (HBd.out.step hb5); have HD5 := hideS ((hb5.cell (p := ⟨bx, ox + k, none⟩) (World.block_lt_of_cell? _ _ c1)).trans c1); clear hb5))
      clear t0 t1 t2 t3 c1
      have c2 := HSk.out _ HB5.out.bl
      have t3 := HB5.out.t3
      have d3 : ((f : Int) != (f : Int)) = false := by simp
      go_wp2_with fail
      go_quiet ((go_at_call 28; exact Calls.quiet_of_same (bits_any _ _)))
      go_wp2_with fail
      go_roundw
      case rel => exact ⟨k + 1, by omega, by simp, hideS (HB5.out.drewN _)⟩
      case measure => simp [intOf]; omega
    · obtain rfl : k = n := by omega
      have hge : ¬ (k : Int) < (k : Int) := by omega
      go_wp2_with fail
      refine (HX.out _ HBr.out.bl).mono ?_
      rintro e w5 ⟨rfl, hb5⟩
      have HB5 := hideS (HBr.out.step hb5)
      clear hb5 HBr t0 t1 t2 t3
      have t0 := HB5.out.t0
      have t1 := HB5.out.t1
      have t2 := HB5.out.t2
      have t3 := HB5.out.t3
      go_wp2_with fail
      refine (HY.out _ HB5.out.bl).mono ?_
      rintro e w6 ⟨rfl, hb6⟩
      have HB6 := hideS (HB5.out.step hb6)
      clear hb6 HB5 t0 t1 t2 t3
      have t1 := HB6.out.t1
      by_cases hE : E = 0
      · subst hE
        by_cases hF : F = 0
        · subst hF
          by_cases hxy : x ≤ y
          · have d3 : decide (y < x) = false := decide_eq_false (by omega)
            obtain ⟨q1, q2, q3⟩ := HQ.out rfl rfl hxy
            clear HQ hxy
            cases B with
            | false =>
              clear q3
              go_wp2_with fail
              refine (HW.out _).mono ?_
              rintro e w99 ⟨rfl, hb99⟩
              go_wp2_with fail
              go_ret
              exact ⟨rfl, (HB6.out.step hb99).bl⟩
            | true =>
              obtain ⟨q4, q5, q6⟩ := q3 rfl
              by_cases h4 : ck = 4
              · have d4 : (ck == 4) = true := beq_iff_eq.2 h4
                clear q3 q6 h4
                go_wp2_with fail
                refine (HW.out _).mono ?_
                rintro e w99 ⟨rfl, hb99⟩
                go_wp2_with fail
                go_ret
                exact ⟨rfl, (HB6.out.step hb99).bl⟩
              · have d4 : (ck == 4) = false := beq_eq_false_iff_ne.2 h4
                have q7 := q6 h4
                clear q3 q6 h4
                go_wp2_with fail
                refine (HW.out _).mono ?_
                rintro e w99 ⟨rfl, hb99⟩
                go_wp2_with fail
                go_ret
                exact ⟨rfl, (HB6.out.step hb99).bl⟩
          · have d3 : decide (y < x) = true := decide_eq_true (by omega)
            clear HQ hxy
            go_wp2_with fail
            refine (HW.out _).mono ?_
            rintro e w99 ⟨rfl, hb99⟩
            go_wp2_with fail
            go_ret
            exact ⟨rfl, (HB6.out.step hb99).bl⟩
        · have d3 : (F != 0) = true := bne_iff_ne.2 hF
          clear HQ hF
          go_wp2_with fail
          refine (HW.out _).mono ?_
          rintro e w99 ⟨rfl, hb99⟩
          go_wp2_with fail
          go_ret
          exact ⟨rfl, (HB6.out.step hb99).bl⟩
      · have d3 : (E != 0) = true := bne_iff_ne.2 hE
        clear HQ hE
        go_wp2_with fail
        refine (HW.out _).mono ?_
        rintro e w99 ⟨rfl, hb99⟩
        go_wp2_with fail
        go_ret
        exact ⟨rfl, (HB6.out.step hb99).bl⟩

theorem curveFalls_walk (base kind x y : Int) (px py : Option Addr) (bx ox cx b2 oy cy : Nat) (xs : List Int) (ys : List Nat) (w : World) (hs : TFl w px py bx ox b2 oy xs ys) (_hxI : ∀ i < xs.length, TI64 (xs.getD i 0)) (_hx : xs.length ≤ 17592186043904) (_hy : ys.length ≤ 17592186043904) (_hlx : xs.length ≤ cx) (_hly : ys.length ≤ cy) (_hxx : TI64 x) (_hyy : TI64 y) :
    Calls Tryz.prog 7 #[.agg #[.int .i64 base, .int .i64 kind, .slice px xs.length cx, .slice py ys.length cy], .int .i64 x, .int .i64 y] w fun e w' => e = .returned (.bool true) ∧ Below w.heap.size w w' := by
  obtain ⟨E, hE⟩ := curR_ex base kind xs ys
  have hF : ∀ wx, Below w.heap.size w wx → Calls Tryz.prog 18 #[.agg #[.int .i64 base, .int .i64 kind, .slice px xs.length cx, .slice py ys.length cy]] wx fun e w' => e = .returned (.tuple #[.bool (decide (E = 0) && fallB ys), .int .i64 E]) ∧ Below wx.heap.size wx w' := fun wx hb => curFalls_any base kind px py bx ox cx b2 oy cy xs ys wx (hs.below hb) hE
  by_cases h0 : E = 0
  · subst h0
    have ok := curR_ok hE
    have hl := ok.len
    have lo := ok.lo
    rw [decide_eq_true rfl, Bool.true_and] at hF
    have fac : ∀ z V E, AtO kind (ctX base xs) (ctY ys) z V E → ∀ wx, Below w.heap.size w wx → Calls Tryz.prog 15 #[.agg #[.int .i64 base, .int .i64 kind, .slice px xs.length cx, .slice py ys.length cy], .int .i64 z] wx fun e w' => e = .returned (.tuple #[.float .f64 V, .int .i64 E]) ∧ Below wx.heap.size wx w' := fun z V E h wx hb => curFactor_any base kind z E V px py bx ox cx b2 oy cy xs ys wx (hs.below hb) (.ok ok V E h)
    obtain ⟨V, EV, hA⟩ := atO_ex kind (ctX base xs) (ctY ys) x
    obtain ⟨W, EW, hB⟩ := atO_ex kind (ctX base xs) (ctY ys) y
    have hC := fun wx (hb : Below w.heap.size w wx) (k : Nat) (hk : k < xs.length) => And.intro ((hs.below hb).x.cell k hk) ((hs.below hb).y.cell k (by omega))
    have q : EV = 0 → EW = 0 → x ≤ y → fallE kind (fallB ys) V W := fun e1 e2 hxy => by
      subst e1 e2
      obtain ⟨a1, a2, a3, a4⟩ := fac_pos ok hs.f hA
      obtain ⟨b1, b2, b3, b4⟩ := fac_pos ok hs.f hB
      have r0 : rankI ((0 : Nat) : Int) = 0 := by decide
      have n0 : nanB ((0 : Nat) : Int) = false := by decide
      have n1 : nanB ((4607182418800017408 : Nat) : Int) = false := by decide
      refine ⟨?_, ?_, fun hf => ⟨?_, ?_, fun h4 => ?_⟩⟩
      · rw [gt_rank (u64N a1) (u64N (by decide)) a2 n0, r0]; exact decide_eq_true (by omega)
      · rw [gt_rank (u64N b1) (u64N (by decide)) b2 n0, r0]; exact decide_eq_true (by omega)
      · rw [gt_rank (u64N a1) (u64N (by decide)) a2 n1]; have := a4 hf; exact decide_eq_false (by omega)
      · rw [gt_rank (u64N b1) (u64N (by decide)) b2 n1]; have := b4 hf; exact decide_eq_false (by omega)
      · rw [geq_rank a1 b1 a2 b2]; exact decide_eq_true (fac_sink ok hs.f hf h4 hxy hA hB)
    have h1 := fun k (hk : k < xs.length) => fac _ _ _ (cur_node ok (i := k + 1) hk)
    have h2 := fac _ _ _ (cur_node ok (i := 0) (Nat.zero_le _))
    have h3 := fac _ _ _ hA
    have h4 := fac _ _ _ hB
    obtain rfl := hs.x.at_ (by omega)
    obtain rfl := hs.y.at_ (by omega)
    rw [hl] at hF h2 h3 h4 ⊢
    exact curveFalls_go base kind x y EV EW V W xs.length (fallB ys) bx ox cx b2 oy cy xs ys w lo ok.hi q hF h2 (fun wx hb k hk => by have := h1 k hk wx hb; rw [hl] at this; exact this) h3 h4 hC (fun wx => awake11 wx)
  · exact curveFalls_bad base kind x y E _ _ _ w h0 hF (fun wx => awake11 wx)
end Go.Proofs.YtcmbfflemoccmaaGreat
