/- The walk of InterpRises. -/
import Derived.Test.YtnmjljijgmmakaaHbb
import Derived.Test.YtnmjljijgmmakaaFTab
namespace Go.Proofs.Ytnmjljijgmmakaa
open Go.RowKit

/-- What the law's first test tells: the table may be, is no ILog, and x is at most y. -/
def riseB (E kind x y : Int) : Bool := decide (E ≠ 0) || decide (kind = 4) || decide (y < x)

set_option maxRecDepth 20000 in
set_option maxHeartbeats 3200000 in
theorem interpRises_out (kind x y E : Int) (px py : Option Addr) (lx cx ly cy : Nat) (w : World) (hq : riseB E kind x y = true) (hl : E = 0 → lx = ly ∧ lx ≤ 256)
    (HC : Hid (∀ wx, Below w.heap.size w wx → Calls Try.prog 8 #[.agg #[.int .i64 kind, .slice px lx cx, .slice py ly cy]] wx fun e w' => e = .returned (.int .i64 E) ∧ Below wx.heap.size wx w'))
    (HW : Hid (∀ wx, Calls Try.prog 7 #[] wx fun e w' => e = .returned (.bool true) ∧ Below wx.heap.size wx w')) :
    Calls Try.prog 6 #[.agg #[.int .i64 kind, .slice px lx cx, .slice py ly cy], .int .i64 x, .int .i64 y] w fun e w' => e = .returned (.bool true) ∧ Below w.heap.size w w' := by
  have HB0 := hideS (abox_at w kind (.slice px lx cx) (.slice py ly cy))
  unfold riseB at hq
  by_cases hE : E = 0
  · obtain ⟨rfl, hle⟩ := hl hE
    subst hE
    have d1 : decide ((256 : Int) < (lx : Int)) = false := decide_eq_false (by omega)
    have d2 : ((lx : Int) != (lx : Int)) = false := by simp
    by_cases h4 : kind = 4
    · subst h4
      clear hq hl
      go_enter Try.func6, Try.ntmps6
      go_wp2_with fail
      refine (HC.out _ HB0.out.bl).mono ?_
      rintro e w1 ⟨rfl, hb1⟩
      have HB1 := hideS (HB0.out.step hb1)
      clear hb1 HB0 HC
      have t0 := HB1.out.t0
      have t1 := HB1.out.t1
      have t2 := HB1.out.t2
      go_wp2_with fail
      refine (HW.out _).mono ?_
      rintro e w3 ⟨rfl, hb3⟩
      have HL := hideS (HB1.out.step hb3).bl
      clear hb3 HB1
      go_wp2_with fail
      go_ret
      exact ⟨rfl, HL.out⟩
    · have q4 : (kind == 4) = false := beq_eq_false_iff_ne.2 h4
      have q5 : decide (y < x) = true := by simpa [h4] using hq
      clear hq hl h4
      go_enter Try.func6, Try.ntmps6
      go_wp2_with fail
      refine (HC.out _ HB0.out.bl).mono ?_
      rintro e w1 ⟨rfl, hb1⟩
      have HB1 := hideS (HB0.out.step hb1)
      clear hb1 HB0 HC
      have t0 := HB1.out.t0
      have t1 := HB1.out.t1
      have t2 := HB1.out.t2
      go_wp2_with fail
      refine (HW.out _).mono ?_
      rintro e w3 ⟨rfl, hb3⟩
      have HL := hideS (HB1.out.step hb3).bl
      clear hb3 HB1
      go_wp2_with fail
      go_ret
      exact ⟨rfl, HL.out⟩
  · have hE' : (E != 0) = true := bne_iff_ne.2 hE
    clear hq hl hE
    go_enter Try.func6, Try.ntmps6
    go_wp2_with fail
    refine (HC.out _ HB0.out.bl).mono ?_
    rintro e w1 ⟨rfl, hb1⟩
    have HB1 := hideS (HB0.out.step hb1)
    clear hb1 HB0 HC
    go_wp2_with fail
    refine (HW.out _).mono ?_
    rintro e w3 ⟨rfl, hb3⟩
    have HL := hideS (HB1.out.step hb3).bl
    clear hb3 HB1
    go_wp2_with fail
    go_ret
    exact ⟨rfl, HL.out⟩
/-- Whether the first k values never fall (rise). -/
def upB (ys : List Nat) : Nat → Bool
  | 0 => true
  | 1 => true
  | k + 2 => upB ys (k + 1) && decide (rankI (ys.getD k 0 : Nat) ≤ rankI (ys.getD (k + 1) 0 : Nat))
def dnB (ys : List Nat) : Nat → Bool
  | 0 => true
  | 1 => true
  | k + 2 => dnB ys (k + 1) && decide (rankI (ys.getD (k + 1) 0 : Nat) ≤ rankI (ys.getD k 0 : Nat))
theorem upB_all {ys : List Nat} : ∀ n, upB ys n = true → ∀ i, i + 1 < n → rankI (ys.getD i 0 : Nat) ≤ rankI (ys.getD (i + 1) 0 : Nat)
  | 0, _, i, hi => by omega
  | 1, _, i, hi => by omega
  | k + 2, h, i, hi => by
    have h' : (upB ys (k + 1) && decide (rankI (ys.getD k 0 : Nat) ≤ rankI (ys.getD (k + 1) 0 : Nat))) = true := h
    rw [Bool.and_eq_true] at h'
    by_cases e : i = k
    · rw [e]; exact of_decide_eq_true h'.2
    · exact upB_all (k + 1) h'.1 i (by omega)
theorem dnB_all {ys : List Nat} : ∀ n, dnB ys n = true → ∀ i, i + 1 < n → rankI (ys.getD (i + 1) 0 : Nat) ≤ rankI (ys.getD i 0 : Nat)
  | 0, _, i, hi => by omega
  | 1, _, i, hi => by omega
  | k + 2, h, i, hi => by
    have h' : (dnB ys (k + 1) && decide (rankI (ys.getD (k + 1) 0 : Nat) ≤ rankI (ys.getD k 0 : Nat))) = true := h
    rw [Bool.and_eq_true] at h'
    by_cases e : i = k
    · rw [e]; exact of_decide_eq_true h'.2
    · exact dnB_all (k + 1) h'.1 i (by omega)
/-- What the law asks of two values. -/
def riseE (u d : Bool) (V W : Nat) : Prop := (u = true → ((FloatKind.f64.format.order V W == some .lt) || (FloatKind.f64.format.order V W == some .eq)) = true) ∧ (d = true → ((FloatKind.f64.format.order V W == some .gt) || (FloatKind.f64.format.order V W == some .eq)) = true)

set_option maxRecDepth 40000 in
set_option maxHeartbeats 12800000 in
theorem interpRises_go (kind x y E F : Int) (V W n : Nat) (b2 oy cx cy : Nat) (px : Option Addr) (ys : List Nat) (w : World) (hn : 1 ≤ n) (hn' : n ≤ 256) (h4 : kind ≠ 4) (hxy : x ≤ y) (hy : ∀ k, k < n → NumW (ys.getD k 0))
    (hE : E = 0 → F = 0 → riseE (upB ys n) (dnB ys n) V W)
    (HC : Hid (∀ wx, Below w.heap.size w wx → Calls Try.prog 8 #[.agg #[.int .i64 kind, .slice px n cx, .slice (some ⟨b2, oy, none⟩) n cy]] wx fun e w' => e = .returned (.int .i64 0) ∧ Below wx.heap.size wx w'))
    (HX : Hid (∀ wx, Below w.heap.size w wx → ∀ k, k < n → wx.cell? ⟨b2, oy + k, none⟩ = some (.float .f64 (ys.getD k 0))))
    (HA : Hid (∀ wx, Below w.heap.size w wx → Calls Try.prog 13 #[.agg #[.int .i64 kind, .slice px n cx, .slice (some ⟨b2, oy, none⟩) n cy], .int .i64 x] wx fun e w' => e = .returned (.tuple #[.float .f64 V, .int .i64 E]) ∧ Below wx.heap.size wx w'))
    (HD : Hid (∀ wx, Below w.heap.size w wx → Calls Try.prog 13 #[.agg #[.int .i64 kind, .slice px n cx, .slice (some ⟨b2, oy, none⟩) n cy], .int .i64 y] wx fun e w' => e = .returned (.tuple #[.float .f64 W, .int .i64 F]) ∧ Below wx.heap.size wx w'))
    (HW : Hid (∀ wx, Calls Try.prog 7 #[] wx fun e w' => e = .returned (.bool true) ∧ Below wx.heap.size wx w')) :
    Calls Try.prog 6 #[.agg #[.int .i64 kind, .slice px n cx, .slice (some ⟨b2, oy, none⟩) n cy], .int .i64 x, .int .i64 y] w fun e w' => e = .returned (.bool true) ∧ Below w.heap.size w w' := by
  have HB0 := hideS (abox_at w kind (.slice px n cx) (.slice (some ⟨b2, oy, none⟩) n cy))
  have d1 : decide ((256 : Int) < (n : Int)) = false := decide_eq_false (by omega)
  have d2 : ((n : Int) != (n : Int)) = false := by simp
  have d3 : (kind == 4) = false := beq_eq_false_iff_ne.2 h4
  have d4 : decide (y < x) = false := decide_eq_false (by omega)
  have HY := hideS hy
  have HE := hideS hE
  clear h4 hxy hy hE
  go_enter Try.func6, Try.ntmps6
  go_wp2_with fail
  refine (HC.out _ HB0.out.bl).mono ?_
  rintro e w1 ⟨rfl, hb1⟩
  have HB1 := hideS (HB0.out.step hb1)
  clear hb1 HB0 HC
  have t0 := HB1.out.t0
  have t1 := HB1.out.t1
  have t2 := HB1.out.t2
  go_wp2_with fail
  clear d1 d2 d3 d4 t0 t1 t2
  have HBd : Hid (TBox w kind (.slice px n cx) (.slice (some ⟨b2, oy, none⟩) n cy) w1) := HB1
  go_loopw [7, 8, 9] (fun u d i wr => ∃ k : Nat, k + 1 ≤ n ∧ i = .int .i64 ((k : Int) + 1) ∧ u = .bool (upB ys (k + 1)) ∧ d = .bool (dnB ys (k + 1)) ∧ Hid (TBox w kind (.slice px n cx) (.slice (some ⟨b2, oy, none⟩) n cy) wr)) (fun _ _ i _ => n - (intOf i).toNat)
  case atStart => exact ⟨0, by omega, rfl, rfl, rfl, HB1⟩
  case round =>
    clear HB1 HBd
    obtain ⟨k, hk, rfl, rfl, rfl, HB⟩ := hrel
    have t0 := HB.out.t0
    have t1 := HB.out.t1
    have t2 := HB.out.t2
    by_cases hlt : k + 1 < n
    · have c0 := HX.out _ HB.out.bl k (by omega)
      have c1 := HX.out _ HB.out.bl (k + 1) hlt
      have n0 := HY.out k (by omega)
      have n1 := HY.out (k + 1) hlt
      have HU := hideS (And.intro (show upB ys (k + 1 + 1) = (upB ys (k + 1) && decide (rankI (ys.getD k 0 : Nat) ≤ rankI (ys.getD (k + 1) 0 : Nat))) from rfl) (show dnB ys (k + 1 + 1) = (dnB ys (k + 1) && decide (rankI (ys.getD (k + 1) 0 : Nat) ≤ rankI (ys.getD k 0 : Nat))) from rfl))
      rw [← geq_rank n1.lt n0.lt n1.nn.nan n0.nn.nan, ← leq_rank n1.lt n0.lt n1.nn.nan n0.nn.nan] at HU
      have g1 : (0 : Int) ≤ (k : Int) + 1 := by omega
      have g2 : (k : Int) + 1 < (n : Int) := by omega
      have g3 : (0 : Int) ≤ (k : Int) := by omega
      have g4 : (k : Int) < (n : Int) := by omega
      have f1 : IntKind.i64.wrap ((k : Int) + 1 - 1) = (k : Int) := by rw [IntKind.wrap_i64]; omega
      have f2 : IntKind.i64.wrap ((k : Int) + 1 + 1) = ((k + 1 : Nat) : Int) + 1 := by rw [IntKind.wrap_i64]; omega
      have d5 : decide ((k : Int) + 1 < (n : Int)) = true := decide_eq_true g2
      have HBd : Hid (∀ j, TBox w kind (.slice px n cx) (.slice (some ⟨b2, oy, none⟩) n cy) (wr.drewN j)) := fun j => HB.out.drewN j
      clear n0 n1
      generalize ys.getD k 0 = y0 at *
      generalize ys.getD (k + 1) 0 = y1 at *
      generalize upB ys (k + 1) = u at *
      generalize dnB ys (k + 1) = d at *
      cases u <;> cases d
      all_goals
        go_wp2_with fail
        go_quiet (fail)
        go_wp2_with fail
        go_quiet (fail)
        go_wp2_with fail
        go_roundw
        case rel => exact ⟨k + 1, by omega, by simp, by rw [HU.out.1]; simp, by rw [HU.out.2]; simp, HBd.out _⟩
        case measure => simp [intOf]; omega
    · obtain rfl : n = k + 1 := by omega
      have d5 : decide ((k : Int) + 1 < ((k + 1 : Nat) : Int)) = false := decide_eq_false (by omega)
      clear HX HY
      generalize upB ys (k + 1) = u at *
      generalize dnB ys (k + 1) = d at *
      go_wp2_with fail
      clear d5
      refine (HA.out _ HB.out.bl).mono ?_
      rintro e w2 ⟨rfl, hb2⟩
      have HB2 := hideS (HB.out.step hb2)
      clear hb2 HA HB t0 t1 t2
      have t0 := HB2.out.t0
      have t1 := HB2.out.t1
      have t2 := HB2.out.t2
      go_wp2_with fail
      clear t0 t1 t2
      refine (HD.out _ HB2.out.bl).mono ?_
      rintro e w3 ⟨rfl, hb3⟩
      have HB3 := hideS (HB2.out.step hb3)
      clear hb3 HD HB2
      by_cases hE : E = 0
      · subst hE
        by_cases hF : F = 0
        · subst hF
          obtain ⟨o1, o2⟩ := HE.out rfl rfl
          clear HE
          cases u with
          | false =>
            cases d with
            | false =>
              clear o1 o2
              go_wp2_with fail
              refine (HW.out _).mono ?_
              rintro e w4 ⟨rfl, hb4⟩
              have HL := hideS (HB3.out.step hb4).bl
              clear hb4
              go_wp2_with fail
              go_ret
              exact ⟨rfl, HL.out⟩
            | true =>
              have o3 := o2 rfl
              clear o1 o2
              generalize hp1 : (FloatKind.f64.format.order V W == some .gt) = p1 at *
              generalize hp2 : (FloatKind.f64.format.order V W == some .eq) = p2 at *
              cases p1 <;> cases p2 <;> first | (exact absurd o3 (by decide)) | skip
              all_goals
                clear o3
                go_wp2_with fail
                refine (HW.out _).mono ?_
                rintro e w4 ⟨rfl, hb4⟩
                have HL := hideS (HB3.out.step hb4).bl
                clear hb4
                go_wp2_with fail
                go_ret
                exact ⟨rfl, HL.out⟩
          | true =>
            have o4 := o1 rfl
            cases d with
            | false =>
              clear o1 o2
              generalize hp1 : (FloatKind.f64.format.order V W == some .lt) = p1 at *
              generalize hp2 : (FloatKind.f64.format.order V W == some .eq) = p2 at *
              cases p1 <;> cases p2 <;> first | (exact absurd o4 (by decide)) | skip
              all_goals
                clear o4
                go_wp2_with fail
                refine (HW.out _).mono ?_
                rintro e w4 ⟨rfl, hb4⟩
                have HL := hideS (HB3.out.step hb4).bl
                clear hb4
                go_wp2_with fail
                go_ret
                exact ⟨rfl, HL.out⟩
            | true =>
              have o3 := o2 rfl
              clear o1 o2
              generalize hp1 : (FloatKind.f64.format.order V W == some .lt) = p1 at *
              generalize hp2 : (FloatKind.f64.format.order V W == some .eq) = p2 at *
              generalize hp3 : (FloatKind.f64.format.order V W == some .gt) = p3 at *
              cases p1 <;> cases p2 <;> cases p3 <;> first | (exact absurd o3 (by decide)) | (exact absurd o4 (by decide)) | skip
              all_goals
                clear o3 o4
                go_wp2_with fail
                refine (HW.out _).mono ?_
                rintro e w4 ⟨rfl, hb4⟩
                have HL := hideS (HB3.out.step hb4).bl
                clear hb4
                go_wp2_with fail
                go_ret
                exact ⟨rfl, HL.out⟩
        · have hF' : (F != 0) = true := bne_iff_ne.2 hF
          clear HE hF
          go_wp2_with fail
          refine (HW.out _).mono ?_
          rintro e w4 ⟨rfl, hb4⟩
          have HL := hideS (HB3.out.step hb4).bl
          clear hb4
          go_wp2_with fail
          go_ret
          exact ⟨rfl, HL.out⟩
      · have hE' : (E != 0) = true := bne_iff_ne.2 hE
        clear HE hE
        go_wp2_with fail
        refine (HW.out _).mono ?_
        rintro e w4 ⟨rfl, hb4⟩
        have HL := hideS (HB3.out.step hb4).bl
        clear hb4
        go_wp2_with fail
        go_ret
        exact ⟨rfl, HL.out⟩

theorem interpRises_walk (kind x y : Int) (px py : Option Addr) (bx ox cx b2 oy cy : Nat) (xs : List Int) (ys : List Nat) (w : World) (hs : TFl w px py bx ox b2 oy xs ys) (_hxI : ∀ i < xs.length, TI64 (xs.getD i 0)) (_hx : xs.length ≤ 17592186043904) (_hy : ys.length ≤ 17592186043904) (_hlx : xs.length ≤ cx) (_hly : ys.length ≤ cy) (_hxx : TI64 x) (_hyy : TI64 y) :
    Calls Try.prog 6 #[.agg #[.int .i64 kind, .slice px xs.length cx, .slice py ys.length cy], .int .i64 x, .int .i64 y] w fun e w' => e = .returned (.bool true) ∧ Below w.heap.size w w' := by
  obtain ⟨E, hT⟩ := tabR_ex kind xs ys
  cases hq : riseB E kind x y with
  | true => exact interpRises_out kind x y E px py _ cx _ cy w hq (fun h0 => by subst h0; have ok := tabR_ok hT; exact ⟨ok.len.symm, ok.hi⟩) (fun wx hb => intCheck_any kind E px py bx ox cx b2 oy cy xs ys wx hT (hs.below hb)) (fun wx => awake10 wx)
  | false =>
    unfold riseB at hq
    simp only [Bool.or_eq_false_iff, decide_eq_false_iff_not, Classical.not_not] at hq
    obtain ⟨⟨rfl, h4⟩, hxy⟩ := hq
    have ok := tabR_ok hT
    have hyl := ok.len
    have hlo := ok.lo
    obtain ⟨V, E, hA⟩ := atO_ex kind xs ys x
    obtain ⟨W, F, hD⟩ := atO_ex kind xs ys y
    have cC : ∀ wx, Below w.heap.size w wx → _ := fun wx hb => intCheck_any kind 0 px py bx ox cx b2 oy cy xs ys wx hT (hs.below hb)
    have cA : ∀ wx, Below w.heap.size w wx → _ := fun wx hb => intAt_any kind x E V px py bx ox cx b2 oy cy xs ys wx hA (hs.below hb)
    have cD : ∀ wx, Below w.heap.size w wx → _ := fun wx hb => intAt_any kind y F W px py bx ox cx b2 oy cy xs ys wx hD (hs.below hb)
    have cX : ∀ wx, Below w.heap.size w wx → ∀ k, k < xs.length → wx.cell? ⟨b2, oy + k, none⟩ = some (.float .f64 (ys.getD k 0)) := fun wx hb k hk => (hs.below hb).y.cell k (by omega)
    have hN : ∀ k, k < xs.length → NumW (ys.getD k 0) := fun k hk => node_num ok hs.u hk
    have hR : E = 0 → F = 0 → riseE (upB ys xs.length) (dnB ys xs.length) V W := fun e f => by
      subst e f
      obtain ⟨k, _, _, hk, rA⟩ := atR_of hA h4
      obtain ⟨j, _, _, hj, rD⟩ := atR_of hD h4
      obtain ⟨_, _, _, _, v1, v2, _⟩ := atO_held hA hs.u
      obtain ⟨_, _, _, _, w1, w2, _⟩ := atO_held hD hs.u
      refine ⟨fun hu => ?_, fun hd => ?_⟩
      · rw [leq_rank v1 w1 v2 w2]
        exact decide_eq_true (at_rise ok hs.u hk hj rA rD (by omega) (fun i hi => upB_all _ hu i hi))
      · rw [geq_rank v1 w1 v2 w2]
        exact decide_eq_true (at_sink ok hs.u hk hj rA rD (by omega) (fun i hi => dnB_all _ hd i hi))
    obtain rfl := hs.y.at_ (by omega)
    rw [hyl] at cC cA cD ⊢
    exact interpRises_go kind x y E F V W xs.length b2 oy cx cy px ys w hlo ok.hi h4 (by omega) hN hR cC cX cA cD (fun wx => awake10 wx)
end Go.Proofs.Ytnmjljijgmmakaa
