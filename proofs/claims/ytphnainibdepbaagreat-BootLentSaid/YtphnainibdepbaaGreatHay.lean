/- The contract of package solve's halve: of any function value whose calls are told. The contracts of package solve's isNumber and Root: of any function value whose calls are told. What a search and a polynomial tell, in plain words. What a search tells, in plain words: how often, which word, where the signs change. A table that came in: its kind, its places and its values as lists. -/
import Derived.Test.YtphnainibdepbaaGreatHaj
import Derived.Test.YtphnainibdepbaaGreatHaw
import Derived.Laws.EntriesVeiled
import Derived.Test.YtphnainibdepbaaGreatHav
import Derived.Test.YtphnainibdepbaaGreatRows
import Derived.ProofKit
import Derived.OpenShut
import Derived.Carry
import Derived.Deep.Slices
import Derived.SizedLaws
namespace Go.Proofs.YtphnainibdepbaaGreat
open Go.RowKit

def FnC (fN : Nat) (cap : Array Value) (F : Nat → Option Int) (R S : Int) (I : Nat → World → Prop) : Prop :=
  ∀ (a : Nat) (r : Int) (k : Nat) (wr : World), k < 100 → Gd a r → R ≤ r → r ≤ S → I k wr → Calls Tryz.prog fN (#[.float .f64 a] ++ cap) wr fun e w' => ∃ v : Nat, e = .returned (.float .f64 v) ∧ U64 (v : Int) ∧ rkO v = F a ∧ I (k + 1) w'

theorem mid_md {a b : Nat} {r s : Int} (h : Gd a r) (h' : Gd b s) (w : World) :
    Calls Tryz.prog 46 #[.float .f64 a, .float .f64 b] w fun e w' => e = .returned (.tuple #[.float .f64 (mdN a b), .bool true]) ∧ w = w' := by
  have := mid_as a b a b w rfl rfl h.u h'.u
  rw [(md_cast h h').2] at this
  exact this.mono fun _ _ ⟨p, q⟩ => ⟨p, q.symm⟩

set_option maxHeartbeats 1600000 in
theorem halve_any (fN : Nat) (cap : Array Value) (F : Nat → Option Int) (R S : Int) (I : Nat → World → Prop) (up : Bool) (lo hi : Nat) (X N K : Nat) (E : Int) (w : World) (hK : K ≤ 30) (hE : ∀ args w, (callFunc fN args).run Tryz.prog w = .ok (.enter fN args) w) (hF : FnC fN cap F R S I) (hB : BisS F up R S X N E 64 lo hi 0 R S) (hI : I K w) :
    Calls Tryz.prog 34 #[.func (.func fN) #[] cap, .float .f64 lo, .float .f64 hi, .bool up] w fun e w' => e = .returned (.tuple #[.float .f64 X, .int .i64 N, .int .i64 E]) ∧ I (K + N) w' := by
  have HF := hideS hF
  have HB := hideS hB
  have HI := hideS hI
  clear hF hB hI
  go_enter Tryz.func34, Tryz.ntmps34
  go_wp2_with fail
  go_loopw [1, 2, 9] (fun p q n wr => ∃ (f a b k : Nat) (r s : Int), k ≤ 64 ∧ p = .float .f64 a ∧ q = .float .f64 b ∧ n = .int .i64 k ∧ Hid (BisS F up R S X N E f a b k r s) ∧ Hid (I (K + k) wr)) (fun _ _ n _ => 64 - (intOf n).toNat)
  case atStart => exact ⟨64, lo, hi, 0, R, S, by omega, rfl, rfl, rfl, HB, HI⟩
  case round =>
    clear HB HI
    obtain ⟨f, a, b, k, r, s, hk, rfl, rfl, rfl, HB, HI⟩ := hrel
    have HM := hideS (mid_md HB.out.ga HB.out.gb)
    have oe := eq_rank HB.out.md.u HB.out.ga.u HB.out.md.n HB.out.ga.n
    rw [HB.out.md.e, HB.out.ga.e] at oe
    by_cases hm : (r + s) / 2 = r
    · rw [decide_eq_true hm] at oe
      have HE := hideS (HB.out.stop hm)
      generalize mdN a b = c at *
      clear HB hm
      go_wp2_with (go_at_call 46; refine (HM.out _).mono ?_; rintro e w' ⟨rfl, rfl⟩)
      go_ret3
      obtain ⟨rfl, rfl, rfl⟩ := HE.out
      exact ⟨rfl, HI.out⟩
    · rw [decide_eq_false hm] at oe
      have HC := hideS (HF.out (mdN a b) _ (K + k) wr (by have := HB.out.few; omega) HB.out.md (by have := HB.out.lo; have := HB.out.lt; omega) (by have := HB.out.hi; have := HB.out.lt; omega) HI.out)
      have HX := hideS hm
      have HU := hideS HB.out.md.u
      clear hm HI
      obtain ⟨c, hc⟩ : ∃ c, c = mdN a b := ⟨_, rfl⟩
      have Hc := hideS hc
      rw [← hc] at oe HM HC
      clear hc
      go_wp2_with (go_at_call 46; refine (HM.out _).mono ?_; rintro e w' ⟨rfl, rfl⟩)
      refine HC.out.mono ?_
      rintro e w1 ⟨v, rfl, hv, hr, hi1⟩
      have HV := hideS hv
      have HR := hideS hr
      have HI := hideS hi1
      have HN := hideS fun w => isNaN_math v w hv
      clear hv hr hi1 HC HM oe
      cases hn : nanB (v : Int) with
      | true =>
        rw [hn] at HN
        have HE := hideS (HB.out.nan HX.out (by rw [← Hc.out, ← HR.out]; exact rkO_nan hn))
        clear hn
        go_wp2_with (go_at_call 33; refine (HN.out _).mono ?_; rintro e w' ⟨rfl, rfl⟩)
        go_ret3
        obtain ⟨rfl, rfl, rfl⟩ := HE.out
        exact ⟨rfl, HI.out⟩
      | false =>
        rw [hn] at HN
        have hr2 := HR.out
        rw [rkO_num hn] at hr2
        have o1 := eq_rank (b := 0) HV.out (by unfold U64; omega) hn (by decide)
        have o2 := gt_rank (b := 0) HV.out (by unfold U64; omega) hn (by decide)
        rw [show rankI ((0 : Nat) : Int) = 0 from by decide] at o1 o2
        clear hn HR HV
        generalize rankI (v : Int) = y at *
        have HR := hideS hr2
        clear hr2
        by_cases y0 : y = 0
        · rw [decide_eq_true y0] at o1
          have HE := hideS (HB.out.zero HX.out (by rw [← Hc.out, ← HR.out, y0]))
          rw [← Hc.out] at HE
          clear y0 o2
          go_wp2_with (go_at_call 33; refine (HN.out _).mono ?_; rintro e w' ⟨rfl, rfl⟩)
          go_ret3
          obtain ⟨rfl, rfl, rfl⟩ := HE.out
          exact ⟨rfl, HI.out⟩
        · rw [decide_eq_false y0] at o1
          by_cases hu : upB y = up
          · obtain ⟨g, hg, h2⟩ := HB.out.low HX.out (by rw [← Hc.out, ← HR.out]) y0 hu
            have HB2 := hideS h2
            have hfew := h2.few
            rw [← Hc.out] at HB2
            have ou : ((FloatKind.f64.format.order v 0 == some .gt) == up) = true := by rw [o2]; exact beq_iff_eq.2 hu
            clear o2 hu h2 hg y0
            go_wp2_with (go_at_call 33; refine (HN.out _).mono ?_; rintro e w' ⟨rfl, rfl⟩)
            go_roundw
            case rel => exact ⟨g, c, b, k + 1, _, s, by omega, rfl, rfl, by simp, HB2, HI⟩
            case measure => simp [intOf]; omega
          · obtain ⟨g, hg, h2⟩ := HB.out.high HX.out (by rw [← Hc.out, ← HR.out]) y0 hu
            have HB2 := hideS h2
            have hfew := h2.few
            rw [← Hc.out] at HB2
            have ou : ((FloatKind.f64.format.order v 0 == some .gt) == up) = false := by rw [o2]; exact beq_eq_false_iff_ne.2 hu
            clear o2 hu h2 hg y0
            go_wp2_with (go_at_call 33; refine (HN.out _).mono ?_; rintro e w' ⟨rfl, rfl⟩)
            go_roundw
            case rel => exact ⟨g, a, c, k + 1, r, _, by omega, rfl, rfl, by simp, HB2, HI⟩
            case measure => simp [intOf]; omega
end Go.Proofs.YtphnainibdepbaaGreat
namespace Go.Proofs.YtphnainibdepbaaGreat
open Go.RowKit

theorem eql_fun (F : Nat) (cap : Array Value) (w : World) : (binOp .eql 66 (.func (.func F) #[] cap) .nilFunc).run Tryz.prog w = .ok (.bool false) w := by kernel_rfl
set_option maxHeartbeats 400000 in
theorem solNum_any (x : Nat) (w : World) (h : U64 x) :
    Calls Tryz.prog 32 #[.float .f64 x] w fun e w' => e = .returned (.bool (finB (x : Int))) ∧ w' = w := by
  have H1 := hideS fun w => isNaN_math x w h
  cases hn : nanB (x : Int) with
  | true =>
    rw [hn] at H1
    rw [fin_nan hn]
    clear h hn
    go_enter Tryz.func32, Tryz.ntmps32
    go_wp2_with fail
    refine (H1.out _).mono ?_
    rintro e w' ⟨rfl, rfl⟩
    go_wp2_with fail
    go_ret
    exact ⟨rfl, rfl⟩
  | false =>
    have H2 := hideS fun w => isInf_both x _ w h (inf_gt hn)
    rw [hn] at H1
    clear h hn
    generalize finB (x : Int) = b at *
    cases b
    all_goals
      go_enter Tryz.func32, Tryz.ntmps32
      go_wp2_with fail
      refine (H1.out _).mono ?_
      rintro e w' ⟨rfl, rfl⟩
      go_wp2_with fail
      refine (H2.out _).mono ?_
      rintro e w' ⟨rfl, rfl⟩
      go_wp2_with fail
      go_ret
      exact ⟨rfl, rfl⟩
def endB (lo hi : Nat) : Bool := finB (lo : Int) && finB (hi : Int) && decide (rankI (lo : Int) < rankI (hi : Int))
theorem fin_num {x : Nat} (h : finB (x : Int) = true) : nanB (x : Int) = false := by
  unfold finB at h; unfold nanB
  have := of_decide_eq_true h
  exact decide_eq_false (by omega)
theorem endB_gd {lo hi : Nat} (hl : U64 (lo : Int)) (hh : U64 (hi : Int)) (h : endB lo hi = true) : Gd lo (rankI (lo : Int)) ∧ Gd hi (rankI (hi : Int)) ∧ rankI (lo : Int) < rankI (hi : Int) := by
  unfold endB at h
  rw [Bool.and_eq_true, Bool.and_eq_true] at h
  exact ⟨⟨hl, fin_num h.1.1, rfl⟩, ⟨hh, fin_num h.1.2, rfl⟩, of_decide_eq_true h.2⟩
theorem geq_rankV {a b : Nat} (ha : U64 a) (hb : U64 b) (hna : nanB a = false) (hnb : nanB b = false) : ((FloatKind.f64.format.order a b == some .gt) || (FloatKind.f64.format.order a b == some .eq)) = !decide (rankI a < rankI b) := by
  rw [gt_rank ha hb hna hnb, eq_rank ha hb hna hnb]
  by_cases c : rankI a < rankI b
  · rw [decide_eq_true c, decide_eq_false (by omega), decide_eq_false (by omega)]; rfl
  · rw [decide_eq_false c]
    by_cases d : rankI a = rankI b
    · rw [decide_eq_true d]; simp
    · rw [decide_eq_true (show rankI b < rankI a by omega)]; rfl

def rootV (F : Nat → Option Int) (lo hi : Nat) : Nat × Nat × Int :=
  match F lo with
  | none => (0, 1, 91)
  | some a => match F hi with
    | none => (0, 2, 91)
    | some b => if a = 0 then (lo, 2, 0) else if b = 0 then (hi, 2, 0) else if upB a = upB b then (0, 2, 120) else ((bis F (upB a) 64 lo hi).1, 2 + (bis F (upB a) 64 lo hi).2.1, (bis F (upB a) 64 lo hi).2.2)
theorem rootV_n {F : Nat → Option Int} {lo hi : Nat} (h : F lo = none) : rootV F lo hi = (0, 1, 91) := by unfold rootV; rw [h]
theorem rootV_n2 {F : Nat → Option Int} {lo hi : Nat} {a : Int} (h : F lo = some a) (h2 : F hi = none) : rootV F lo hi = (0, 2, 91) := by unfold rootV; rw [h]; show (match F hi with | none => _ | some b => _) = _; rw [h2]
theorem rootV_two {F : Nat → Option Int} {lo hi : Nat} {a b : Int} (h : F lo = some a) (h2 : F hi = some b) : rootV F lo hi = if a = 0 then (lo, 2, 0) else if b = 0 then (hi, 2, 0) else if upB a = upB b then (0, 2, 120) else ((bis F (upB a) 64 lo hi).1, 2 + (bis F (upB a) 64 lo hi).2.1, (bis F (upB a) 64 lo hi).2.2) := by unfold rootV; rw [h]; show (match F hi with | none => _ | some b => _) = _; rw [h2]
theorem bis_cnt (F : Nat → Option Int) (up : Bool) : ∀ (f a b : Nat), (bis F up f a b).2.1 ≤ f := by
  intro f
  induction f with
  | zero => intro a b; exact Nat.le_refl _
  | succ f ih =>
    intro a b
    by_cases hm : rankI (mdN a b : Int) = rankI (a : Int)
    · rw [bis_stop hm]; exact Nat.zero_le _
    · cases hF : F (mdN a b) with
      | none => rw [bis_nan hm hF]; show 1 ≤ f + 1; omega
      | some y =>
        by_cases y0 : y = 0
        · subst y0; rw [bis_zero hm hF]; show 1 ≤ f + 1; omega
        · by_cases hu : upB y = up
          · rw [bis_low hm hF y0 hu]; have := ih (mdN a b) b; show _ + 1 ≤ f + 1; omega
          · rw [bis_high hm hF y0 hu]; have := ih a (mdN a b); show _ + 1 ≤ f + 1; omega

set_option maxHeartbeats 3200000 in
theorem root_ok (fN : Nat) (cap : Array Value) (F : Nat → Option Int) (I : Nat → World → Prop) (lo hi X N K : Nat) (E : Int) (w : World) (hK : K ≤ 20) (hE : ∀ args w, (callFunc fN args).run Tryz.prog w = .ok (.enter fN args) w) (hl : U64 (lo : Int)) (hh : U64 (hi : Int)) (hb : endB lo hi = true) (hF : FnC fN cap F (rankI (lo : Int)) (rankI (hi : Int)) I) (hI : I K w) (hV : rootV F lo hi = (X, N, E)) :
    Calls Tryz.prog 18 #[.func (.func fN) #[] cap, .float .f64 lo, .float .f64 hi] w fun e w' => e = .returned (.tuple #[.float .f64 X, .int .i64 N, .int .i64 E]) ∧ I (K + N) w' := by
  have hq := eql_fun
  have H1 := hideS fun w => solNum_any lo w hl
  have H2 := hideS fun w => solNum_any hi w hh
  obtain ⟨gl, gh, hlt⟩ := endB_gd hl hh hb
  unfold endB at hb
  rw [Bool.and_eq_true, Bool.and_eq_true] at hb
  rw [hb.1.1] at H1
  rw [hb.1.2] at H2
  have o := geq_rankV hl hh gl.n gh.n
  rw [hb.2] at o
  have GL := hideS gl
  have GH := hideS gh
  have HV := hideS hV
  have HF := hideS hF
  have HLT := hideS hlt
  have HC1 := hideS (hF lo _ K w (by omega) gl (Int.le_refl _) (by omega) hI)
  clear hb hl hh gl gh hlt hF hI hV
  go_enter Tryz.func18, Tryz.ntmps18
  go_wp2_with fail
  refine (H1.out _).mono ?_
  rintro e w' ⟨rfl, rfl⟩
  go_wp2_with fail
  refine (H2.out _).mono ?_
  rintro e w' ⟨rfl, rfl⟩
  go_wp2_with fail
  refine HC1.out.mono ?_
  rintro e w1 ⟨a, rfl, hu1, hr1, hi1⟩
  have HN1 := hideS fun w => isNaN_math a w hu1
  have HI1 := hideS hi1
  have HU1 := hideS hu1
  have HR1 := hideS hr1
  clear hu1 hr1 hi1 HC1 H1 H2 o
  cases hn : nanB (a : Int) with
  | true =>
    rw [hn] at HN1
    have HE := hideS (rootV_n (hi := hi) (HR1.out.symm.trans (rkO_nan hn)))
    clear hn
    go_wp2_with fail
    refine (HN1.out _).mono ?_
    rintro e w' ⟨rfl, rfl⟩
    go_wp2_with fail
    go_ret3
    have e3 := HE.out
    rw [HV.out] at e3
    injection e3 with e1 e2
    injection e2 with e2 e3
    subst e1 e2 e3
    exact ⟨rfl, HI1.out⟩
  | false =>
    rw [hn] at HN1
    have hr1 := HR1.out
    rw [rkO_num hn] at hr1
    have o1 := eq_rank (b := 0) HU1.out (by unfold U64; omega) hn (by decide)
    have o2 := gt_rank (b := 0) HU1.out (by unfold U64; omega) hn (by decide)
    rw [show rankI ((0 : Nat) : Int) = 0 from by decide] at o1 o2
    have HR1 := hideS hr1
    clear hn hr1 HU1
    generalize rankI (a : Int) = y at *
    have HC2 := hideS (HF.out hi _ (K + 1) w1 (by omega) GH.out (by have := HLT.out; omega) (Int.le_refl _) HI1.out)
    go_wp2_with fail
    refine (HN1.out _).mono ?_
    rintro e w' ⟨rfl, rfl⟩
    go_wp2_with fail
    refine HC2.out.mono ?_
    rintro e w2 ⟨b, rfl, hu2, hr2, hi2⟩
    have HN2 := hideS fun w => isNaN_math b w hu2
    have HI2 := hideS hi2
    have HU2 := hideS hu2
    have HR2 := hideS hr2
    clear hu2 hr2 hi2 HC2 HI1
    cases hm : nanB (b : Int) with
    | true =>
      rw [hm] at HN2
      have HE := hideS (rootV_n2 HR1.out.symm (HR2.out.symm.trans (rkO_nan hm)))
      clear hm
      go_wp2_with fail
      refine (HN2.out _).mono ?_
      rintro e w' ⟨rfl, rfl⟩
      go_wp2_with fail
      go_ret3
      have e3 := HE.out
      rw [HV.out] at e3
      injection e3 with e1 e2
      injection e2 with e2 e3
      subst e1 e2 e3
      exact ⟨rfl, HI2.out⟩
    | false =>
      rw [hm] at HN2
      have hr2 := HR2.out
      rw [rkO_num hm] at hr2
      have o3 := eq_rank (b := 0) HU2.out (by unfold U64; omega) hm (by decide)
      have o4 := gt_rank (b := 0) HU2.out (by unfold U64; omega) hm (by decide)
      rw [show rankI ((0 : Nat) : Int) = 0 from by decide] at o3 o4
      have HR2 := hideS hr2
      clear hm hr2 HU2
      generalize rankI (b : Int) = z at *
      have HE := hideS (rootV_two HR1.out.symm HR2.out.symm)
      by_cases y0 : y = 0
      · rw [if_pos y0] at HE
        rw [decide_eq_true y0] at o1
        clear y0 o2 o3 o4
        go_wp2_with fail
        refine (HN2.out _).mono ?_
        rintro e w' ⟨rfl, rfl⟩
        go_wp2_with fail
        go_ret3
        have e3 := HE.out
        rw [HV.out] at e3
        injection e3 with e1 e2
        injection e2 with e2 e3
        subst e1 e2 e3
        exact ⟨rfl, HI2.out⟩
      · rw [if_neg y0] at HE
        rw [decide_eq_false y0] at o1
        by_cases z0 : z = 0
        · rw [if_pos z0] at HE
          rw [decide_eq_true z0] at o3
          clear y0 z0 o2 o4
          go_wp2_with fail
          refine (HN2.out _).mono ?_
          rintro e w' ⟨rfl, rfl⟩
          go_wp2_with fail
          go_ret3
          have e3 := HE.out
          rw [HV.out] at e3
          injection e3 with e1 e2
          injection e2 with e2 e3
          subst e1 e2 e3
          exact ⟨rfl, HI2.out⟩
        · rw [if_neg z0] at HE
          rw [decide_eq_false z0] at o3
          clear y0 z0
          have o5 : ((FloatKind.f64.format.order a 0 == some .gt) == (FloatKind.f64.format.order b 0 == some .gt)) = decide (upB y = upB z) := by
            rw [o2, o4]; unfold upB
            cases decide (0 < y) <;> cases decide (0 < z) <;> rfl
          have o6 : (FloatKind.f64.format.order a 0 == some .gt) = upB y := o2
          clear o2 o4
          by_cases hu : upB y = upB z
          · rw [if_pos hu] at HE
            rw [decide_eq_true hu] at o5
            clear hu o6
            go_wp2_with fail
            refine (HN2.out _).mono ?_
            rintro e w' ⟨rfl, rfl⟩
            go_wp2_with fail
            go_ret3
            have e3 := HE.out
            rw [HV.out] at e3
            injection e3 with e1 e2
            injection e2 with e2 e3
            subst e1 e2 e3
            exact ⟨rfl, HI2.out⟩
          · rw [if_neg hu] at HE
            rw [decide_eq_false hu, o6] at o5
            have hcnt := bis_cnt F (upB y) 64 lo hi
            have HH := hideS (halve_any fN cap F _ _ I (upB y) lo hi _ _ (K + 1 + 1) _ w2 (by omega) hE HF.out (bisS_begin F (upB y) GL.out GH.out HLT.out) HI2.out)
            clear hu
            generalize bis F (upB y) 64 lo hi = B at *
            obtain ⟨B1, B2, B3⟩ := B
            generalize upB y = up at *
            go_wp2_with fail
            refine (HN2.out _).mono ?_
            rintro e w' ⟨rfl, rfl⟩
            go_wp2_with fail
            refine HH.out.mono ?_
            rintro e w3 ⟨rfl, hi3⟩
            have HI3 := hideS hi3
            clear hi3
            go_wp2_with fail
            go_ret3
            have e3 := HE.out
            rw [HV.out] at e3
            injection e3 with e1 e2
            injection e2 with e2 e3
            subst e1 e2 e3
            exact ⟨by simp, by have := HI3.out; rw [show K + (2 + B2) = K + 1 + 1 + B2 by omega]; exact this⟩
end Go.Proofs.YtphnainibdepbaaGreat
namespace Go.Proofs.YtphnainibdepbaaGreat
open Go.RowKit

end Go.Proofs.YtphnainibdepbaaGreat
namespace Go.Proofs.YtphnainibdepbaaGreat
open Go.RowKit

end Go.Proofs.YtphnainibdepbaaGreat
namespace Go.Proofs.YtphnainibdepbaaGreat
open Go.ChangeShapes Go.WideShapes Go.ChangeAt Go.RowKit

def TI64 (n : Int) : Prop := -9223372036854775808 ≤ n ∧ n ≤ 9223372036854775807
theorem ti64_of_wf {n : Int} (h : (Lit.int .i64 n).wf = true) : TI64 n := by
  simp only [Lit.wf, IntKind.min, IntKind.max, IntKind.signed, IntKind.bits] at h
  simp at h
  unfold TI64; omega
end Go.Proofs.YtphnainibdepbaaGreat
