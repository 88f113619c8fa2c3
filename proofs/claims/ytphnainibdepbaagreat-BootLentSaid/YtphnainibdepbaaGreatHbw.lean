/- The fixed quote of 'awake', in plain words. The contract of the laws' 'awake'. The laws' 'few': it tells something, and changes nothing. The first quotes alone, in plain words. Boxes of curves in the laws. The memory of BootLent's walk: a curve that was told, in its box; what is read behind the writes. Too many quotes: few says no. The contract of package boot's Worth. The contract of package boot's Worth, where it answers. Each quote is met by its node, in plain words. -/
import Derived.Test.YtphnainibdepbaaGreatHbu
import Derived.Test.YtphnainibdepbaaGreatHbd
import Derived.Test.YtphnainibdepbaaGreatHbv
import Derived.Test.YtphnainibdepbaaGreatHaz
import Derived.Deep.RegionHeld3
namespace Go.Proofs.YtphnainibdepbaaGreat
open Go.RowKit

def awQ : Quo := ⟨1, 360, 1, 0, 1048576000⟩
theorem awQ_rate : dblW 1048576000 = 4598175219545276416 := by
  have h := conv_dblW (b := 1048576000) (by decide)
  have h2 : floatToFloatBits .f32 1048576000 .f64 = some 4598175219545276416 := by kernel_rfl
  exact Option.some.inj (h.symm.trans h2)
theorem awQ_ok : OkQ 0 awQ := ⟨Or.inl ⟨rfl, rfl⟩, by show finB ((dblW 1048576000 : Nat) : Int) = true; rw [awQ_rate]; decide, by decide, by decide, by decide, by decide, by decide⟩
theorem awQ_fit : ∀ i < 1, fitQ ([awQ].getD i quo0) (prvQ 0 [awQ] i) = 0 := fun i hi => by
  obtain rfl : i = 0 := by omega
  exact okQ_fit awQ_ok
theorem yW_360 : yW 360 360 = 4607182418800017408 := by kernel_rfl
theorem awQ_year : yeaV 0 [] awQ 0 360 = 4607182418800017408 := by
  have : fracS (opB 0 []) awQ.count 0 360 = 360 := by
    unfold fracS fracP
    show (if (360 : Int) < 0 then _ else if (1 : Int) = 1 ∨ (1 : Int) = 2 then (360 : Int) - 0 else _) = 360
    rw [if_neg (by decide), if_pos (Or.inl rfl)]
    rfl
  unfold yeaV
  rw [this]
  exact yW_360
theorem awQ_amt : amtV 0 [] awQ 0 360 = 4598175219545276416 := by
  have h := amt_is 0 [] (q := awQ) (a := 0) (b := 360) awQ_ok.fn (by unfold isDayP; omega) (by unfold isDayP; omega)
  rw [awQ_year] at h
  have e : dblW awQ.rate = 4598175219545276416 := awQ_rate
  rw [e] at h
  have h2 : floatBits .mul .f64 4598175219545276416 4607182418800017408 = some 4598175219545276416 := by kernel_rfl
  exact Option.some.inj (h.symm.trans h2)
theorem aw_add : floatBits .add .f64 4607182418800017408 4598175219545276416 = some 4608308318706860032 := by kernel_rfl
noncomputable def fcA (a : Nat) : Nat := facV 0 2 [360] ([] ++ [a]) 360
theorem fcA_fac {a : Nat} (h : facB a = true) : fcA a = a := by
  have ok : OkV 0 2 (endL [awQ] 1) ([] ++ [a]) := okV_bld (qs := [awQ]) (N := 1) (k := 0) (fs := []) (by decide) (by decide) (by decide) (by decide) (by decide) awQ_fit (by decide) rfl (fun i hi => by omega) h
  exact (facV_node ok (i := 0) (by decide)).1
theorem fcA_not {a : Nat} (h : ¬ facB a = true) : fcA a = 0 := by
  have hf := facV_is 0 2 [360] ([] ++ [a]) 360
  unfold fcA
  generalize facV 0 2 [360] ([] ++ [a]) 360 = V at hf
  generalize facE 0 2 [360] ([] ++ [a]) 360 = E at hf
  cases hf with
  | bad => rfl
  | ok ok =>
    exfalso
    obtain ⟨_, _, h1, h2⟩ := nodC_fine (ok.node 0 (by decide))
    apply h
    unfold facB
    have e1 : finB ((a : Nat) : Int) = true := h1
    have e2 : ltB 0 ((a : Nat) : Int) = true := h2
    rw [e1, e2]; rfl
noncomputable def gA (f : Nat) : Option Nat := opO .sub (opO .mul (some f) (some 4608308318706860032)) (some 4607182418800017408)
theorem metF_aw (a : Nat) : metF 0 2 0 [] [360] [] awQ [0, 360] 1 0 a = gA (fcA a) := by
  have hk : awQ.kind = 1 := rfl
  have hf : awQ.fin = 360 := rfl
  have h0 : ([0, 360] : List Int).getD (0 + 0) 0 = 0 := rfl
  have h1 : ([0, 360] : List Int).getD (0 + 0 + 1) 0 = 360 := rfl
  have ha : (intF 0 [] awQ [0, 360] (0 + 0)).am = amtV 0 [] awQ 0 360 := by
    unfold intF
    dsimp only
    rw [h0, h1]
  have e2 : opO .add (some 4607182418800017408) (some 4598175219545276416) = some 4608308318706860032 := aw_add
  unfold metF
  rw [hk, hf, show (1 - 0 : Nat) = 0 + 1 from rfl, worO_dep]
  rw [ha, awQ_amt, e2]
  unfold gA fcA
  rfl
theorem numA {a : Nat} (h : a < 9218868437227405312) : NumB a := by unfold NumB; omega
theorem rankA {a : Nat} (h : a ≤ 9218868437227405312) : rankI (a : Int) = a ∧ nanB (a : Int) = false := by
  obtain ⟨h1, _, h3⟩ := rk_pos h
  exact ⟨h1, h3⟩
theorem gA_some (f : Nat) (hf : f < 9218868437227405312) : ∃ v, (gA f).bind rkO = some v := by
  obtain ⟨m, hm, rm, lm, nm⟩ := mul_rank (x := f) (y := 4608308318706860032) (numA hf) (numA (by decide))
  have h0 : 0 ≤ rankI (m : Int) := by
    have := mul_up (x := f) (y := 4608308318706860032) (x' := f) (y' := 4608308318706860032) (numA hf) (numA hf) (numA (by decide)) (numA (by decide)) ?_ ?_ (Int.le_refl _) (Int.le_refl _) hm hm
    · exact this.1
    · have := (rank_le_iff (a := 0) (b := f) (numA (by decide)) (numA hf) (by decide) (by omega)).1 (by rw [(rankA (a := f) (by omega)).1, (rankA (a := 0) (by omega)).1]; omega)
      have z : vI 0 = 0 := by decide
      omega
    · have := (rank_le_iff (a := 0) (b := 4608308318706860032) (numA (by decide)) (numA (by decide)) (by decide) (by decide)).1 (by decide)
      have z : vI 0 = 0 := by decide
      omega
  have hg : gA f = opO .sub (some m) (some 4607182418800017408) := by
    unfold gA
    have : opO .mul (some f) (some 4608308318706860032) = some m := hm
    rw [this]
  rw [hg]
  by_cases c : rankI (m : Int) < 9218868437227405312
  · obtain ⟨s, hs, rs, ls, ns⟩ := sub_rank (x := m) (y := 4607182418800017408) (num_rank ⟨rfl, lm, nm⟩ (by omega) c) (numA (by decide))
    have : opO .sub (some m) (some 4607182418800017408) = some s := hs
    rw [this]
    exact ⟨_, rkO_num ns⟩
  · have hm2 : m = 9218868437227405312 := by
      have h1 := rank_hi (m : Int)
      have e : rankI (m : Int) = 9218868437227405312 := by omega
      unfold rankI at e
      rw [nm, if_neg (by simp)] at e
      unfold sgB szI at e
      by_cases d : 9223372036854775808 ≤ (m : Int)
      · rw [decide_eq_true d, if_pos rfl] at e; omega
      · rw [decide_eq_false d, if_neg (by simp)] at e; omega
    rw [hm2]
    have : opO .sub (some 9218868437227405312) (some 4607182418800017408) = some 9218868437227405312 := by
      show floatBits .sub .f64 9218868437227405312 4607182418800017408 = some 9218868437227405312
      kernel_rfl
    rw [this]
    exact ⟨_, rkO_num (by decide)⟩
theorem gA_up {a b s t : Nat} (ha : a ≤ b) (hb : b ≤ 4652218415073722368) (hs : gA a = some s) (ht : gA b = some t) : rankI (s : Int) ≤ rankI (t : Int) := by
  have hv : ∀ {x : Nat}, x ≤ 4652218415073722368 → 0 ≤ vI x := fun {x} hx => by
    have := (rank_le_iff (a := 0) (b := x) (numA (by decide)) (numA (by omega)) (by decide) (by omega)).1 (by rw [(rankA (a := x) (by omega)).1, (rankA (a := 0) (by omega)).1]; omega)
    have z : vI 0 = 0 := by decide
    omega
  have hab : vI a ≤ vI b := (rank_le_iff (numA (by omega)) (numA (by omega)) (by omega) (by omega)).1 (by rw [(rankA (a := a) (by omega)).1, (rankA (a := b) (by omega)).1]; omega)
  obtain ⟨m, hm, rm, lm, nm⟩ := mul_rank (x := a) (y := 4608308318706860032) (numA (by omega)) (numA (by decide))
  obtain ⟨k, hk, rk, lk, nk⟩ := mul_rank (x := b) (y := 4608308318706860032) (numA (by omega)) (numA (by decide))
  obtain ⟨z, hz, rz, lz, nz⟩ := mul_rank (x := 4652218415073722368) (y := 4608308318706860032) (numA (by decide)) (numA (by decide))
  have hc : 0 ≤ vI 4608308318706860032 := hv (by decide)
  obtain ⟨m0, mk⟩ := mul_up (numA (show a < 9218868437227405312 by omega)) (numA (show b < 9218868437227405312 by omega)) (numA (by decide)) (numA (by decide)) (hv (by omega)) hc hab (Int.le_refl _) hm hk
  obtain ⟨_, kz⟩ := mul_up (numA (show b < 9218868437227405312 by omega)) (numA (show 4652218415073722368 < 9218868437227405312 by decide)) (numA (by decide)) (numA (by decide)) (hv (by omega)) hc ((rank_le_iff (numA (by omega)) (numA (by decide)) (by omega) (by decide)).1 (by rw [(rankA (a := b) (by omega)).1, (rankA (a := 4652218415073722368) (by decide)).1]; omega)) (Int.le_refl _) hk hz
  have hz2 : floatBits .mul .f64 4652218415073722368 4608308318706860032 = some 4653344314980564992 := by kernel_rfl
  have ez : z = 4653344314980564992 := Option.some.inj (hz.symm.trans hz2)
  rw [ez, (rankA (a := 4653344314980564992) (by decide)).1] at kz
  have nm' : NumB m := num_rank ⟨rfl, lm, nm⟩ (by omega) (by omega)
  have nk' : NumB k := num_rank ⟨rfl, lk, nk⟩ (by omega) (by omega)
  have hsm : floatBits .sub .f64 m 4607182418800017408 = some s := by
    have : gA a = opO .sub (opO .mul (some a) (some 4608308318706860032)) (some 4607182418800017408) := rfl
    have e : opO .mul (some a) (some 4608308318706860032) = some m := hm
    rw [this, e] at hs
    exact hs
  have htk : floatBits .sub .f64 k 4607182418800017408 = some t := by
    have : gA b = opO .sub (opO .mul (some b) (some 4608308318706860032)) (some 4607182418800017408) := rfl
    have e : opO .mul (some b) (some 4608308318706860032) = some k := hk
    rw [this, e] at ht
    exact ht
  exact sub_up nm' nk' (numA (by decide)) ((rank_le_iff nm' nk' lm lk).1 mk) hsm htk
theorem gA_rk {a : Nat} (h : a ≤ 4652218415073722368) : ∃ s, gA a = some s ∧ nanB (s : Int) = false ∧ (gA a).bind rkO = some (rankI (s : Int)) := by
  obtain ⟨v, hv⟩ := gA_some a (by omega)
  cases hg : gA a with
  | none => rw [hg] at hv; cases hv
  | some s =>
    rw [hg] at hv
    have hv' : rkO s = some v := hv
    obtain ⟨h1, h2⟩ := rkO_some hv'
    exact ⟨s, rfl, h1, by show rkO s = _; rw [hv', h2]⟩
theorem gA_low {a : Nat} (h : a ≤ 4605335942952795505) : ∃ v, (gA a).bind rkO = some v ∧ v < 0 := by
  obtain ⟨s, hs, _, e⟩ := gA_rk (a := a) (by omega)
  have ht : gA 4605335942952795505 = some 13797227818412251520 := by
    show opO .sub (floatBits .mul .f64 4605335942952795505 4608308318706860032) (some 4607182418800017408) = _
    kernel_rfl
  exact ⟨_, e, Int.lt_of_le_of_lt (gA_up h (by decide) hs ht) (by decide)⟩
theorem gA_high {a : Nat} (h : 4605426014945342915 ≤ a) (h2 : a ≤ 4652218415073722368) : ∃ v, (gA a).bind rkO = some v ∧ 0 < v := by
  obtain ⟨s, hs, _, e⟩ := gA_rk h2
  have ht : gA 4605426014945342915 = some 4573855781557475840 := by
    show opO .sub (floatBits .mul .f64 4605426014945342915 4608308318706860032) (some 4607182418800017408) = _
    kernel_rfl
  exact ⟨_, e, Int.lt_of_lt_of_le (by decide) (gA_up h h2 ht hs)⟩
theorem fcA_lt (a : Nat) : fcA a < 9218868437227405312 := by
  by_cases c : facB a = true
  · rw [fcA_fac c]
    unfold facB at c
    rw [Bool.and_eq_true] at c
    have h1 := finB_size c.1
    have h2 := c.2
    unfold ltB at h2
    simp only [Bool.and_eq_true, Bool.not_eq_true', decide_eq_true_eq] at h2
    obtain ⟨⟨_, hn⟩, hr⟩ := h2
    have r0 : rankI 0 = 0 := by decide
    rw [r0] at hr
    unfold rankI at hr
    rw [hn, if_neg (by simp)] at hr
    unfold sgB szI at hr
    by_cases d : 9223372036854775808 ≤ (a : Int)
    · rw [decide_eq_true d, if_pos rfl] at hr; omega
    · omega
  · rw [fcA_not c]; decide
theorem aw_F (a : Nat) : ∃ v, (metF 0 2 0 [] [360] [] awQ [0, 360] 1 0 a).bind rkO = some v := by
  rw [metF_aw]
  exact gA_some _ (fcA_lt a)
theorem fac_word {a : Nat} (h0 : 0 < a) (h1 : a ≤ 4652218415073722368) : facB a = true := (gd_fac (a := a) (r := a) ⟨by unfold U64; omega, (rankA (by omega)).2, (rankA (by omega)).1⟩ (by omega) (by omega)).2
theorem aw_low {a : Nat} (h0 : 0 < a) (h : a ≤ 4605335942952795505) : ∃ v, (metF 0 2 0 [] [360] [] awQ [0, 360] 1 0 a).bind rkO = some v ∧ v < 0 := by
  rw [metF_aw, fcA_fac (fac_word h0 (by omega))]
  exact gA_low h
theorem aw_high {a : Nat} (h : 4605426014945342915 ≤ a) (h2 : a ≤ 4652218415073722368) : ∃ v, (metF 0 2 0 [] [360] [] awQ [0, 360] 1 0 a).bind rkO = some v ∧ 0 < v := by
  rw [metF_aw, fcA_fac (fac_word (by omega) h2)]
  exact gA_high h h2
theorem aw_met {E : Int} {X : Nat} (h : MetR 0 2 0 [] [360] [] awQ E X) : E = 0 ∧ 4605335942952795505 ≤ X ∧ X ≤ 4605426014945342915 := by
  have hk : awQ.kind = 1 := rfl
  cases h with
  | cut E L h hE =>
    cases h with
    | dep => exact absurd rfl hE
    | long K h2 => rw [hk] at h2; omega
    | swap => exact absurd rfl hE
  | root L n M X N E hc hF hM hV =>
    have hL : L = [0, 360] := by
      generalize hz : (0 : Int) = z at hc
      cases hc with
      | dep => rfl
      | long => cases hz
      | swap K h2 => rw [hk] at h2; omega
    subst hL
    have hn : n = 1 := by have := hF.len; simp at this; omega
    subst hn
    have hM0 : M = 0 := by have := hM.lt; omega
    subst hM0
    obtain ⟨a, ha, a0⟩ := aw_low (a := 4472074429978902528) (by decide) (by decide)
    obtain ⟨b, hb, b0⟩ := aw_high (a := 4652218415073722368) (by decide) (by decide)
    have hT := aw_F
    have hlo := fun (x : Nat) h0 h => aw_low (a := x) h0 h
    have hhi := fun (x : Nat) h h2 => aw_high (a := x) h h2
    generalize hFd : (fun a => (metF 0 2 0 [] [360] [] awQ [0, 360] 1 0 a).bind rkO) = F at hV
    have hFa : ∀ x, F x = (metF 0 2 0 [] [360] [] awQ [0, 360] 1 0 x).bind rkO := fun x => by rw [← hFd]
    rw [← hFa] at ha hb
    have r1 : rankI ((4472074429978902528 : Nat) : Int) = 4472074429978902528 := by decide
    have r2 : rankI ((4652218415073722368 : Nat) : Int) = 4652218415073722368 := by decide
    have gl : Gd 4472074429978902528 4472074429978902528 := ⟨by unfold U64; omega, by decide, r1⟩
    have gh : Gd 4652218415073722368 4652218415073722368 := ⟨by unfold U64; omega, by decide, r2⟩
    have ua : upB a = false := decide_eq_false (by omega)
    have ub : upB b = true := decide_eq_true b0
    rw [rootV_two ha hb, if_neg (by omega), if_neg (by omega), if_neg (by rw [ua, ub]; decide), ua] at hV
    injection hV with e1 e2
    injection e2 with e2 e3
    have hz := bis_finds F false 64 4472074429978902528 4652218415073722368 _ _ gl gh (by omega) (by decide) ⟨a, ha, by omega, ua⟩ ⟨b, hb, by omega, by rw [ub]; decide⟩
    rw [e1, e3] at hz
    rcases hz.2 with ⟨_, _, c, hc'⟩ | ⟨z1, x, gx, x1, x2, z2⟩
    · obtain ⟨v, hv⟩ := hT c
      rw [hFa, hv] at hc'
      cases hc'
    · obtain ⟨ex, _⟩ := gd_fac gx (by omega) (by omega)
      refine ⟨z1, ?_, ?_⟩
      · rcases z2 with z2 | ⟨v, c, z, p1, p2, p3, p4, p5, p6, p7, p8⟩
        · rcases Nat.lt_or_ge X 4605335942952795505 with d | d
          · obtain ⟨v, hv, hv0⟩ := hlo X (by omega) (by omega)
            rw [hFa, hv] at z2
            injection z2 with z2
            omega
          · exact d
        · rcases Nat.lt_or_ge X 4605335942952795505 with d | d
          · obtain ⟨ec, _⟩ := gd_fac p4 (by omega) (by omega)
            obtain ⟨v', hv, hv0⟩ := hlo c (by omega) (by omega)
            rw [hFa, hv] at p6
            injection p6 with p6
            have : upB z = false := decide_eq_false (by omega)
            exact absurd this p8
          · exact d
      · rcases z2 with z2 | ⟨v, c, z, p1, p2, p3, p4, p5, p6, p7, p8⟩
        · rcases Nat.lt_or_ge 4605426014945342915 X with d | d
          · obtain ⟨v, hv, hv0⟩ := hhi X (by omega) (by omega)
            rw [hFa, hv] at z2
            injection z2 with z2
            omega
          · exact d
        · rcases Nat.lt_or_ge 4605426014945342915 X with d | d
          · obtain ⟨v', hv, hv0⟩ := hhi X (by omega) (by omega)
            rw [hFa, hv] at p1
            injection p1 with p1
            have : upB v = true := decide_eq_true (by omega)
            rw [this] at p3
            cases p3
          · exact d
theorem aw_bld : ∃ X, bldV 0 2 0 [] [awQ] 1 = ([X], 0, 0) ∧ 4605335942952795505 ≤ X ∧ X ≤ 4605426014945342915 := by
  have okv : OkV 0 2 (endL [awQ] 1) ([] ++ [4607182418800017408]) := okV_bld (qs := [awQ]) (N := 1) (k := 0) (fs := []) (by decide) (by decide) (by decide) (by decide) (by decide) awQ_fit (by decide) rfl (fun i hi => by omega) (by decide)
  have hm : MetR 0 2 0 [] (endL [awQ] 1) [] ([awQ].getD 0 quo0) (metV 0 2 0 [] (endL [awQ] 1) [] ([awQ].getD 0 quo0)).1 (metV 0 2 0 [] (endL [awQ] 1) [] ([awQ].getD 0 quo0)).2 := metV_is awQ_ok (set_lt okv)
  obtain ⟨e, h1, h2⟩ := aw_met hm
  exact ⟨_, bld_ok (base := 0) (kind := 2) (W := 0) (rs := []) (qs := [awQ]) (k := 0) rfl e, h1, h2⟩
end Go.Proofs.YtphnainibdepbaaGreat
namespace Go.Proofs.YtphnainibdepbaaGreat
open Go.RowKit

theorem aw_chk : Chk13 0 2 0 [awQ] 0 0 := .quo (by decide) (by decide) (by decide) (by decide) rfl (by decide) (by decide) 0 0 (.fine awQ_fit)
theorem chk_nil : ChkR 0 ([] : List Rul) 0 0 := .ok okC_nil
theorem src_nil (w : World) : RSrc w none 0 0 ([] : List Rul) := ⟨fun hx => by simp at hx, fun hx => by simp at hx, fun j hj => by simp at hj⟩
theorem aw_src (w : World) : QSrc (w.alloc (.cells #[.int .i64 1, .int .i64 360, .int .i64 1, .int .i64 0, .float .f32 1048576000] 30)) (some ⟨w.heap.size, 0, none⟩) w.heap.size 0 [awQ] := by
  refine ⟨fun _ => rfl, fun _ => by simp, fun i hi => ?_⟩
  obtain rfl : i = 0 := by simpa using hi
  exact ⟨by simp; rfl, by simp; rfl, by simp; rfl, by simp; rfl, by simp; rfl⟩
theorem bldO_two {w : World} {R : List Nat × Int × Int} {base kind : Int} {ds : List Int} {e : Ending} {w' : World} (h : BldO w base kind ds R e w') (h0 : R.2.1 = 0) (hn : 0 < ds.length) : ∃ g c g' c', e = .returned (.tuple #[.agg #[.int .i64 base, .int .i64 kind, .slice (some ⟨g, 0, none⟩) ds.length c, .slice (some ⟨g', 0, none⟩) ds.length c'], .int .i64 0, .int .i64 0]) ∧ VSrc w' (some ⟨g, 0, none⟩) g 0 ds.length (xV ds) ∧ VSrc w' (some ⟨g', 0, none⟩) g' 0 ds.length (flV R.1) ∧ w.heap.size ≤ g ∧ w.heap.size ≤ g' ∧ ds.length ≤ c ∧ ds.length ≤ c' := by
  rcases h with ⟨h1, _⟩ | ⟨_, vX, vY, he, hx, hy, hl⟩
  · exact absurd h0 h1
  · obtain ⟨g, c, rfl, s1, b1, c1, _⟩ := kown_src (xs := ds) hx rfl hn
    obtain ⟨g', c', rfl, s2, b2, c2, _⟩ := kfown_src (xs := R.1) hy hl hn
    exact ⟨g, c, g', c', he, s1, s2, b1, b2, c1, c2⟩
set_option maxRecDepth 20000 in
set_option maxHeartbeats 3200000 in
theorem awake13 (w : World) : Calls Tryz.prog 5 #[] w fun e w' => e = .returned (.bool true) ∧ Below w.heap.size w w' := by
  obtain ⟨X, hX, x1, x2⟩ := aw_bld
  have hR : BuiR 0 2 0 0 [] [awQ] ([X], 0, 0) := by
    have := BuiR.go (W := 0) (rs := []) aw_chk
    have e : [awQ].length = 1 := rfl
    rw [e, hX] at this
    exact this
  have H0 := hideS ((Below.refl _ w).alloc (Nat.le_refl _) (.cells #[.int .i64 1, .int .i64 360, .int .i64 1, .int .i64 0, .float .f32 1048576000] 30))
  have H1 := hideS (bBuild_any 0 2 0 0 0 none (some ⟨w.heap.size, 0, none⟩) 0 0 0 w.heap.size 0 1 [] [awQ] _ chk_nil (src_nil _) (by decide) (aw_src w) hR)
  have H2 := hideS fun wx => bBuild_any 0 2 0 0 0 none none 0 0 0 0 0 0 [] [] wx chk_nil (src_nil _) (by decide) ⟨fun hx => by simp at hx, fun hx => by simp at hx, fun j hj => by simp at hj⟩ (.bad 100 (-1) (.none (by decide) (by decide) (by decide) (by decide) rfl rfl) (by decide))
  have hu : U64 (X : Int) := by unfold U64; omega
  have o1 := gt_rank (a := X) (b := 4605290906956521800) hu (by unfold U64; omega) (rankA (by omega)).2 (by decide)
  have o2 := lt_rank (a := X) (b := 4605471050941616620) hu (by unfold U64; omega) (rankA (by omega)).2 (by decide)
  rw [(rankA (a := X) (by omega)).1, (rankA (a := 4605290906956521800) (by decide)).1, decide_eq_true (by omega)] at o1
  rw [(rankA (a := X) (by omega)).1, (rankA (a := 4605471050941616620) (by decide)).1, decide_eq_true (by omega)] at o2
  clear hX x1 x2 hR hu
  go_enter Tryz.func5, Tryz.ntmps5
  go_wp2_with fail
  refine H1.out.mono ?_
  rintro e w2 ⟨hb, hb2⟩
  have hbt := bldO_two hb rfl (by decide)
  rw [show (endL [awQ] [awQ].length).length = 1 from rfl] at hbt
  obtain ⟨g, c, g', c', rfl, s1, s2, b1, b2, c1, c2⟩ := hbt
  have HB2 := hideS (H0.out.trans (hb2.mono H0.out.size))
  have HS2 := hideS s2
  have HV := hideS (vboxA_at w2 0 2 (.slice (some ⟨g, 0, none⟩) 1 c) (.slice (some ⟨g', 0, none⟩) 1 c'))
  clear hb hb2 s1 s2 b1 b2 H1 H0
  go_wp2_with fail
  refine (H2.out _).mono ?_
  rintro e w3 ⟨⟨_, rfl⟩ | ⟨hz, _⟩, hb3⟩
  · have HV3 := hideS fun o => (HV.out.step hb3).step ((Below.refl _ w3).alloc (Nat.le_refl _) o)
    have t2 := fun o => (HV3.out o).t2
    have t3 := fun o => (HV3.out o).t3
    have hc : ∀ o, (w3.alloc o).cell? ⟨g', 0, none⟩ = some (.float .f64 X) := fun o => (HS2.out.below (HV3.out o).bl).cell 0 (by decide)
    have HB4 := hideS fun o => (HB2.out.trans ((HV3.out o).bl.mono HB2.out.size))
    clear hb3 H2 HV HB2 HS2 HV3 c1 c2
    dsimp only at *
    go_wp2_with fail
    go_ret
    exact ⟨rfl, HB4.out _⟩
  · cases hz
end Go.Proofs.YtphnainibdepbaaGreat
namespace Go.Proofs.YtphnainibdepbaaGreat
open Go.RowKit

theorem calbk (w : World) (W : Int) (v : Value) : (w.alloc (.cells #[.int .i64 W, v] 24)).cell? ⟨w.heap.size, 1, none⟩ = some v ∧ Below w.heap.size w (w.alloc (.cells #[.int .i64 W, v] 24)) := ⟨by simp, (Below.refl _ _).alloc (Nat.le_refl _) _⟩
set_option maxRecDepth 20000 in
set_option maxHeartbeats 12800000 in
theorem few13_a (base kind W : Int) (p pq : Option Addr) (bq oq cq n c N : Nat) (qs : List Quo) (w : World) (hq : QSrc w pq bq oq qs) (hN : qs.length = N) (hk : kind = 3) :
    Calls Tryz.prog 4 #[.int .i64 base, .int .i64 kind, .agg #[.int .i64 W, .slice p n c], .slice pq N cq] w fun e w' => (∃ f, e = .returned (.bool f)) ∧ Below w.heap.size w w' := by
  have HB := hideS (calbk w W (.slice p n c))
  have HQ := hideS hq
  have HN := hideS hN
  clear hq hN
  subst hk
  by_cases h1 : 3 < N
  · have d1 : decide ((3 : Int) < (N : Int)) = true := decide_eq_true (by omega)
    go_enter Tryz.func4, Tryz.ntmps4
    go_wp2_with fail
    go_ret
    exact ⟨⟨_, rfl⟩, HB.out.2⟩
  have d1 : decide ((3 : Int) < (N : Int)) = false := decide_eq_false (by omega)
  by_cases h2 : 3 < n
  · have d2 : decide ((3 : Int) < (n : Int)) = true := decide_eq_true (by omega)
    go_enter Tryz.func4, Tryz.ntmps4
    go_wp2_with fail
    go_ret
    exact ⟨⟨_, rfl⟩, HB.out.2⟩
  have d2 : decide ((3 : Int) < (n : Int)) = false := decide_eq_false (by omega)
  go_enter Tryz.func4, Tryz.ntmps4
  go_wp2_with fail
  clear d1 d2 h2
  obtain ⟨w1, hw1⟩ : ∃ w1, w.alloc (.cells #[.int .i64 W, .slice p n c] 24) = w1 := ⟨_, rfl⟩
  rw [hw1] at HB ⊢
  clear hw1
  go_loopw [11] (fun i wr => ∃ (k q : Nat), k ≤ N ∧ i = .int .i64 k ∧ wr = w1.drewN q) (fun i _ => N - (intOf i).toNat)
  case atStart => exact ⟨0, 0, Nat.zero_le _, rfl, rfl⟩
  case round =>
    obtain ⟨k, q, hk, rfl, rfl⟩ := hrel
    have HBq : Hid (Below w.heap.size w (w1.drewN q)) := ⟨HB.out.2.os, HB.out.2.tape, HB.out.2.output, HB.out.2.size, HB.out.2.block⟩
    by_cases hlt : k < N
    · obtain rfl := HQ.out.at_ (by rw [HN.out]; omega)
      obtain ⟨c0, c1, c2, c3, _⟩ := (HQ.out.below HBq.out).cell k (by rw [HN.out]; exact hlt)
      generalize (qs.getD k quo0).kind = qk at *
      generalize (qs.getD k quo0).fin = qf at *
      generalize (qs.getD k quo0).count = qc at *
      generalize (qs.getD k quo0).n = qn at *
      obtain ⟨wq, hwq⟩ : ∃ wq, w1.drewN q = wq := ⟨_, rfl⟩
      rw [hwq] at HBq c0 c1 c2 c3 ⊢
      have HE : Hid (∀ m, ∃ q, wq.drewN m = w1.drewN q) := fun m => ⟨q + m, by rw [← hwq, World.drewN_drewN]⟩
      have HBm : Hid (∀ m, Below w.heap.size w (wq.drewN m)) := fun m => ⟨HBq.out.os, HBq.out.tape, HBq.out.output, HBq.out.size, HBq.out.block⟩
      clear hwq
      have g3 : (0 : Int) ≤ (k : Int) := Int.natCast_nonneg _
      have g4 : (k : Int) < (N : Int) := by omega
      have hb : (qk == 2) = false ∨ ((qk == 2) = true ∧ decide (0 < qn) = false) ∨ ((qk == 2) = true ∧ decide (0 < qn) = true ∧ decide (qn ≤ 120) = false) ∨ ((qk == 2) = true ∧ decide (0 < qn) = true ∧ decide (qn ≤ 120) = true ∧ decide (qf ≤ 109572) = false) ∨ ((qk == 2) = true ∧ decide (0 < qn) = true ∧ decide (qn ≤ 120) = true ∧ decide (qf ≤ 109572) = true ∧ decide (base < qf) = false) ∨ ((qk == 2) = true ∧ decide (0 < qn) = true ∧ decide (qn ≤ 120) = true ∧ decide (qf ≤ 109572) = true ∧ decide (base < qf) = true) := by
        cases (qk == 2) <;> cases decide (0 < qn) <;> cases decide (qn ≤ 120) <;> cases decide (qf ≤ 109572) <;> cases decide (base < qf) <;> simp
      rcases hb with b1 | ⟨b1, b2⟩ | ⟨b1, b2, b3⟩ | ⟨b1, b2, b3, b4⟩ | ⟨b1, b2, b3, b4, b5⟩ | ⟨b1, b2, b3, b4, b5⟩
      all_goals
        go_wp2_with fail
        go_quiet (fail)
        go_wp2_with fail
        all_goals first
          | (go_ret; exact ⟨⟨_, rfl⟩, HBm.out _⟩)
          | (refine ⟨?_, by simp [intOf]; omega⟩; obtain ⟨q', hq'⟩ := HE.out _; exact ⟨k + 1, q', by omega, by simp, hq'⟩)
    · obtain rfl : k = N := by omega
      have g4 : decide ((k : Int) < (k : Int)) = false := decide_eq_false (by omega)
      go_wp2_with fail
      go_ret
      exact ⟨⟨_, rfl⟩, HBq.out⟩
set_option maxRecDepth 20000 in
set_option maxHeartbeats 12800000 in
theorem few13_b (base kind W : Int) (p pq : Option Addr) (bq oq cq n c N : Nat) (qs : List Quo) (w : World) (hq : QSrc w pq bq oq qs) (hN : qs.length = N) (hk : kind = 4) :
    Calls Tryz.prog 4 #[.int .i64 base, .int .i64 kind, .agg #[.int .i64 W, .slice p n c], .slice pq N cq] w fun e w' => (∃ f, e = .returned (.bool f)) ∧ Below w.heap.size w w' := by
  have HB := hideS (calbk w W (.slice p n c))
  have HQ := hideS hq
  have HN := hideS hN
  clear hq hN
  subst hk
  by_cases h1 : 3 < N
  · have d1 : decide ((3 : Int) < (N : Int)) = true := decide_eq_true (by omega)
    go_enter Tryz.func4, Tryz.ntmps4
    go_wp2_with fail
    go_ret
    exact ⟨⟨_, rfl⟩, HB.out.2⟩
  have d1 : decide ((3 : Int) < (N : Int)) = false := decide_eq_false (by omega)
  by_cases h2 : 3 < n
  · have d2 : decide ((3 : Int) < (n : Int)) = true := decide_eq_true (by omega)
    go_enter Tryz.func4, Tryz.ntmps4
    go_wp2_with fail
    go_ret
    exact ⟨⟨_, rfl⟩, HB.out.2⟩
  have d2 : decide ((3 : Int) < (n : Int)) = false := decide_eq_false (by omega)
  go_enter Tryz.func4, Tryz.ntmps4
  go_wp2_with fail
  clear d1 d2 h2
  obtain ⟨w1, hw1⟩ : ∃ w1, w.alloc (.cells #[.int .i64 W, .slice p n c] 24) = w1 := ⟨_, rfl⟩
  rw [hw1] at HB ⊢
  clear hw1
  go_loopw [11] (fun i wr => ∃ (k q : Nat), k ≤ N ∧ i = .int .i64 k ∧ wr = w1.drewN q) (fun i _ => N - (intOf i).toNat)
  case atStart => exact ⟨0, 0, Nat.zero_le _, rfl, rfl⟩
  case round =>
    obtain ⟨k, q, hk, rfl, rfl⟩ := hrel
    have HBq : Hid (Below w.heap.size w (w1.drewN q)) := ⟨HB.out.2.os, HB.out.2.tape, HB.out.2.output, HB.out.2.size, HB.out.2.block⟩
    by_cases hlt : k < N
    · obtain rfl := HQ.out.at_ (by rw [HN.out]; omega)
      obtain ⟨c0, c1, c2, c3, _⟩ := (HQ.out.below HBq.out).cell k (by rw [HN.out]; exact hlt)
      generalize (qs.getD k quo0).kind = qk at *
      generalize (qs.getD k quo0).fin = qf at *
      generalize (qs.getD k quo0).count = qc at *
      generalize (qs.getD k quo0).n = qn at *
      obtain ⟨wq, hwq⟩ : ∃ wq, w1.drewN q = wq := ⟨_, rfl⟩
      rw [hwq] at HBq c0 c1 c2 c3 ⊢
      have HE : Hid (∀ m, ∃ q, wq.drewN m = w1.drewN q) := fun m => ⟨q + m, by rw [← hwq, World.drewN_drewN]⟩
      have HBm : Hid (∀ m, Below w.heap.size w (wq.drewN m)) := fun m => ⟨HBq.out.os, HBq.out.tape, HBq.out.output, HBq.out.size, HBq.out.block⟩
      clear hwq
      have g3 : (0 : Int) ≤ (k : Int) := Int.natCast_nonneg _
      have g4 : (k : Int) < (N : Int) := by omega
      have hb : (qk == 2) = false ∨ ((qk == 2) = true ∧ decide (0 < qn) = false) ∨ ((qk == 2) = true ∧ decide (0 < qn) = true ∧ decide (qn ≤ 120) = false) ∨ ((qk == 2) = true ∧ decide (0 < qn) = true ∧ decide (qn ≤ 120) = true ∧ decide (qf ≤ 109572) = false) ∨ ((qk == 2) = true ∧ decide (0 < qn) = true ∧ decide (qn ≤ 120) = true ∧ decide (qf ≤ 109572) = true ∧ decide (base < qf) = false) ∨ ((qk == 2) = true ∧ decide (0 < qn) = true ∧ decide (qn ≤ 120) = true ∧ decide (qf ≤ 109572) = true ∧ decide (base < qf) = true) := by
        cases (qk == 2) <;> cases decide (0 < qn) <;> cases decide (qn ≤ 120) <;> cases decide (qf ≤ 109572) <;> cases decide (base < qf) <;> simp
      rcases hb with b1 | ⟨b1, b2⟩ | ⟨b1, b2, b3⟩ | ⟨b1, b2, b3, b4⟩ | ⟨b1, b2, b3, b4, b5⟩ | ⟨b1, b2, b3, b4, b5⟩
      all_goals
        go_wp2_with fail
        go_quiet (fail)
        go_wp2_with fail
        all_goals first
          | (go_ret; exact ⟨⟨_, rfl⟩, HBm.out _⟩)
          | (refine ⟨?_, by simp [intOf]; omega⟩; obtain ⟨q', hq'⟩ := HE.out _; exact ⟨k + 1, q', by omega, by simp, hq'⟩)
    · obtain rfl : k = N := by omega
      have g4 : decide ((k : Int) < (k : Int)) = false := decide_eq_false (by omega)
      go_wp2_with fail
      go_ret
      exact ⟨⟨_, rfl⟩, HBq.out⟩
set_option maxRecDepth 20000 in
set_option maxHeartbeats 12800000 in
theorem few13_c (base kind W : Int) (p pq : Option Addr) (bq oq cq n c N : Nat) (qs : List Quo) (w : World) (hq : QSrc w pq bq oq qs) (hN : qs.length = N) (hk : kind ≠ 3) (hk4 : kind ≠ 4) :
    Calls Tryz.prog 4 #[.int .i64 base, .int .i64 kind, .agg #[.int .i64 W, .slice p n c], .slice pq N cq] w fun e w' => (∃ f, e = .returned (.bool f)) ∧ Below w.heap.size w w' := by
  have HB := hideS (calbk w W (.slice p n c))
  have HQ := hideS hq
  have HN := hideS hN
  clear hq hN
  have e3 : (kind == 3) = false := beq_eq_false_iff_ne.2 hk
  have e4 : (kind == 4) = false := beq_eq_false_iff_ne.2 hk4
  clear hk hk4
  by_cases h1 : 5 < N
  · have d1 : decide ((5 : Int) < (N : Int)) = true := decide_eq_true (by omega)
    go_enter Tryz.func4, Tryz.ntmps4
    go_wp2_with fail
    go_ret
    exact ⟨⟨_, rfl⟩, HB.out.2⟩
  have d1 : decide ((5 : Int) < (N : Int)) = false := decide_eq_false (by omega)
  by_cases h2 : 3 < n
  · have d2 : decide ((3 : Int) < (n : Int)) = true := decide_eq_true (by omega)
    go_enter Tryz.func4, Tryz.ntmps4
    go_wp2_with fail
    go_ret
    exact ⟨⟨_, rfl⟩, HB.out.2⟩
  have d2 : decide ((3 : Int) < (n : Int)) = false := decide_eq_false (by omega)
  go_enter Tryz.func4, Tryz.ntmps4
  go_wp2_with fail
  clear d1 d2 h2
  obtain ⟨w1, hw1⟩ : ∃ w1, w.alloc (.cells #[.int .i64 W, .slice p n c] 24) = w1 := ⟨_, rfl⟩
  rw [hw1] at HB ⊢
  clear hw1
  go_loopw [11] (fun i wr => ∃ (k q : Nat), k ≤ N ∧ i = .int .i64 k ∧ wr = w1.drewN q) (fun i _ => N - (intOf i).toNat)
  case atStart => exact ⟨0, 0, Nat.zero_le _, rfl, rfl⟩
  case round =>
    obtain ⟨k, q, hk, rfl, rfl⟩ := hrel
    have HBq : Hid (Below w.heap.size w (w1.drewN q)) := ⟨HB.out.2.os, HB.out.2.tape, HB.out.2.output, HB.out.2.size, HB.out.2.block⟩
    by_cases hlt : k < N
    · obtain rfl := HQ.out.at_ (by rw [HN.out]; omega)
      obtain ⟨c0, c1, c2, c3, _⟩ := (HQ.out.below HBq.out).cell k (by rw [HN.out]; exact hlt)
      generalize (qs.getD k quo0).kind = qk at *
      generalize (qs.getD k quo0).fin = qf at *
      generalize (qs.getD k quo0).count = qc at *
      generalize (qs.getD k quo0).n = qn at *
      obtain ⟨wq, hwq⟩ : ∃ wq, w1.drewN q = wq := ⟨_, rfl⟩
      rw [hwq] at HBq c0 c1 c2 c3 ⊢
      have HE : Hid (∀ m, ∃ q, wq.drewN m = w1.drewN q) := fun m => ⟨q + m, by rw [← hwq, World.drewN_drewN]⟩
      have HBm : Hid (∀ m, Below w.heap.size w (wq.drewN m)) := fun m => ⟨HBq.out.os, HBq.out.tape, HBq.out.output, HBq.out.size, HBq.out.block⟩
      clear hwq
      have g3 : (0 : Int) ≤ (k : Int) := Int.natCast_nonneg _
      have g4 : (k : Int) < (N : Int) := by omega
      have hb : (qk == 2) = false ∨ ((qk == 2) = true ∧ decide (0 < qn) = false) ∨ ((qk == 2) = true ∧ decide (0 < qn) = true ∧ decide (qn ≤ 120) = false) ∨ ((qk == 2) = true ∧ decide (0 < qn) = true ∧ decide (qn ≤ 120) = true ∧ decide (qf ≤ 109572) = false) ∨ ((qk == 2) = true ∧ decide (0 < qn) = true ∧ decide (qn ≤ 120) = true ∧ decide (qf ≤ 109572) = true ∧ decide (base < qf) = false) ∨ ((qk == 2) = true ∧ decide (0 < qn) = true ∧ decide (qn ≤ 120) = true ∧ decide (qf ≤ 109572) = true ∧ decide (base < qf) = true) := by
        cases (qk == 2) <;> cases decide (0 < qn) <;> cases decide (qn ≤ 120) <;> cases decide (qf ≤ 109572) <;> cases decide (base < qf) <;> simp
      rcases hb with b1 | ⟨b1, b2⟩ | ⟨b1, b2, b3⟩ | ⟨b1, b2, b3, b4⟩ | ⟨b1, b2, b3, b4, b5⟩ | ⟨b1, b2, b3, b4, b5⟩
      all_goals
        go_wp2_with fail
        go_quiet (fail)
        go_wp2_with fail
        all_goals first
          | (go_ret; exact ⟨⟨_, rfl⟩, HBm.out _⟩)
          | (refine ⟨?_, by simp [intOf]; omega⟩; obtain ⟨q', hq'⟩ := HE.out _; exact ⟨k + 1, q', by omega, by simp, hq'⟩)
    · obtain rfl : k = N := by omega
      have g4 : decide ((k : Int) < (k : Int)) = false := decide_eq_false (by omega)
      go_wp2_with fail
      go_ret
      exact ⟨⟨_, rfl⟩, HBq.out⟩
theorem few13_any (base kind W : Int) (p pq : Option Addr) (bq oq cq n c : Nat) (qs : List Quo) (w : World) (hq : QSrc w pq bq oq qs) :
    Calls Tryz.prog 4 #[.int .i64 base, .int .i64 kind, .agg #[.int .i64 W, .slice p n c], .slice pq qs.length cq] w fun e w' => (∃ f, e = .returned (.bool f)) ∧ Below w.heap.size w w' := by
  by_cases h3 : kind = 3
  · exact few13_a base kind W p pq bq oq cq n c qs.length qs w hq rfl h3
  · by_cases h4 : kind = 4
    · exact few13_b base kind W p pq bq oq cq n c qs.length qs w hq rfl h4
    · exact few13_c base kind W p pq bq oq cq n c qs.length qs w hq rfl h3 h4
end Go.Proofs.YtphnainibdepbaaGreat
namespace Go.Proofs.YtphnainibdepbaaGreat
open Go.RowKit

theorem take_at (qs : List Quo) {n i : Nat} (h : i < n) : (qs.take n).getD i quo0 = qs.getD i quo0 := by
  rw [List.getD_eq_getElem?_getD, List.getD_eq_getElem?_getD, List.getElem?_take_of_lt h]
theorem QSrc.take {w : World} {p : Option Addr} {b off : Nat} {qs : List Quo} (h : QSrc w p b off qs) (n : Nat) : QSrc w p b off (qs.take n) :=
  ⟨fun hx => h.at_ (by rw [List.length_take] at hx; omega), fun hx => h.lt (by rw [List.length_take] at hx; omega), fun i hi => by
    rw [List.length_take] at hi
    rw [take_at qs (by omega)]
    exact h.cell i (by omega)⟩
end Go.Proofs.YtphnainibdepbaaGreat
namespace Go.Proofs.YtphnainibdepbaaGreat
open Go.RowKit

structure CBq (w : World) (W : Int) (v : Value) (wr : World) : Prop where
  k0 : wr.cell? ⟨w.heap.size, 0, none⟩ = some (.int .i64 W)
  k1 : wr.cell? ⟨w.heap.size, 1, none⟩ = some v
  bl : Below w.heap.size w wr
  lt : w.heap.size < wr.heap.size
theorem cbq_at (w : World) (W : Int) (v : Value) : CBq w W v (w.alloc (.cells #[.int .i64 W, v] 24)) := ⟨by simp, by simp, (Below.refl _ _).alloc (Nat.le_refl _) _, by simp⟩
theorem CBq.step {w wr w' : World} {W : Int} {v : Value} (h : CBq w W v wr) (hb : Below wr.heap.size wr w') : CBq w W v w' :=
  ⟨(hb.cell (p := ⟨w.heap.size, 0, none⟩) h.lt).trans h.k0, (hb.cell (p := ⟨w.heap.size, 1, none⟩) h.lt).trans h.k1, h.bl.trans (hb.mono h.bl.size), Nat.lt_of_lt_of_le h.lt hb.size⟩
structure Z4 (X : Nat) (w : World) : Prop where
  c0 : w.cell? ⟨X, 0, none⟩ = some (.int .i64 0)
  c1 : w.cell? ⟨X, 1, none⟩ = some (.int .i64 0)
  c2 : w.cell? ⟨X, 2, none⟩ = some (.slice none 0 0)
  c3 : w.cell? ⟨X, 3, none⟩ = some (.slice none 0 0)
  fz : ∀ i, w.frozen? ⟨X, i, none⟩ = false
  lt : X < w.heap.size
theorem z4_at (w : World) : Z4 w.heap.size (w.alloc (.cells #[.int .i64 0, .int .i64 0, .slice none 0 0, .slice none 0 0] 34)) := ⟨by simp, by simp, by simp, by simp, fun i => World.frozen?_alloc_new _ _ _ _, by simp⟩
theorem Z4.below {X : Nat} {w w' : World} (h : Z4 X w) (hb : Below w.heap.size w w') : Z4 X w' :=
  ⟨(hb.cell (p := ⟨X, 0, none⟩) h.lt).trans h.c0, (hb.cell (p := ⟨X, 1, none⟩) h.lt).trans h.c1, (hb.cell (p := ⟨X, 2, none⟩) h.lt).trans h.c2, (hb.cell (p := ⟨X, 3, none⟩) h.lt).trans h.c3, fun i => (hb.frozen (p := ⟨X, i, none⟩) h.lt).trans (h.fz i), Nat.lt_of_lt_of_le h.lt hb.size⟩
structure V4 (X : Nat) (x0 x1 : Int) (v1 v2 : Value) (w : World) : Prop where
  t0 : w.cell? ⟨X, 0, none⟩ = some (.int .i64 x0)
  t1 : w.cell? ⟨X, 1, none⟩ = some (.int .i64 x1)
  t2 : w.cell? ⟨X, 2, none⟩ = some v1
  t3 : w.cell? ⟨X, 3, none⟩ = some v2
theorem V4.via {X : Nat} {x0 x1 : Int} {v1 v2 : Value} {w w' : World} (h : V4 X x0 x1 v1 v2 w) (hc : ∀ j, w'.cell? ⟨X, j, none⟩ = w.cell? ⟨X, j, none⟩) : V4 X x0 x1 v1 v2 w' := ⟨(hc 0).trans h.t0, (hc 1).trans h.t1, (hc 2).trans h.t2, (hc 3).trans h.t3⟩
theorem V4.below {X : Nat} {x0 x1 : Int} {v1 v2 : Value} {w w' : World} (h : V4 X x0 x1 v1 v2 w) (hb : Below w.heap.size w w') : V4 X x0 x1 v1 v2 w' := h.via (fun j => hb.cell (p := ⟨X, j, none⟩) (cell_lt h.t0))
def putB4 (w : World) (X : Nat) (x0 x1 : Int) (v1 v2 : Value) : World := (((w.setCell ⟨X, 0, none⟩ (.int .i64 x0)).setCell ⟨X, 1, none⟩ (.int .i64 x1)).setCell ⟨X, 2, none⟩ v1).setCell ⟨X, 3, none⟩ v2
theorem putB4_at {w : World} {X : Nat} (x0 x1 : Int) (v1 v2 : Value) (h : Z4 X w) : V4 X x0 x1 v1 v2 (putB4 w X x0 x1 v1 v2) := by
  unfold putB4
  refine ⟨?_, ?_, ?_, ?_⟩
  · simp [h.c0, go_sem]
  · simp [h.c1, go_sem]
  · simp [h.c2, go_sem]
  · simp [h.c3, go_sem]
theorem putB4_bel {w : World} {X B : Nat} (x0 x1 : Int) (v1 v2 : Value) (h : B ≤ X) : Below B w (putB4 w X x0 x1 v1 v2) := ((((Below.refl B w).setCell (p := ⟨X, 0, none⟩) h _).setCell (p := ⟨X, 1, none⟩) h _).setCell (p := ⟨X, 2, none⟩) h _).setCell (p := ⟨X, 3, none⟩) h _
theorem bel_two {wa wz w3 : World} (h : Below wa.heap.size wa wz) (h' : Below (wz.drewN 1).heap.size (wz.drewN 1) w3) : Below wa.heap.size wa w3 := h.trans (Below.mono (⟨h'.os, h'.tape, h'.output, h'.size, h'.block⟩ : Below wz.heap.size wz w3) h.size)
theorem bel_drew {B : Nat} {w w1 : World} (hb : Below B w w1) (q : Nat) : Below B w (w1.drewN q) := ⟨hb.os, hb.tape, hb.output, hb.size, hb.block⟩

end Go.Proofs.YtphnainibdepbaaGreat
namespace Go.Proofs.YtphnainibdepbaaGreat
open Go.RowKit

def q77 : Quo := ⟨77, 0, 0, 0, 0⟩
theorem own_empQ (w : World) (t : TypeId) : (w.alloc (.cells #[] t)).ownsRow w.heap.size t 5 (.slice (some ⟨w.heap.size, 0, none⟩) 0 0) 0 (rowQ []) := ⟨rfl, .inr ⟨w.heap.size, 0, #[], rfl, Nat.le_refl _, heap_alloc_new w _, Nat.le_refl _, by unfold maxLen; omega, rfl, rfl⟩⟩
theorem one_77 (w : World) (i : Nat) (hi : i < [q77].length) : QCells (w.alloc (.cells #[.int .i64 77, .int .i64 0, .int .i64 0, .int .i64 0, .float .f32 0] 30)) w.heap.size (0 + i * 5) ([q77].getD i quo0) := by
  obtain rfl : i = 0 := by simpa using hi
  exact ⟨by simp; rfl, by simp; rfl, by simp; rfl, by simp; rfl, by simp; rfl⟩
structure BlE (A D : Nat) (b0 k0 : Int) (n : Nat) (px py : Option Addr) (cx cy gx gy : Nat) (ds : List Int) (fs : List Nat) (w : World) : Prop where
  c : V4 D b0 k0 (.slice px n cx) (.slice py n cy) w
  t : BlT A n px py gx gy ds fs w
  ne : 0 < n → gx ≠ D ∧ gy ≠ D
  lo : A ≤ D
  hi : D < w.heap.size
theorem BlE.below {A D n cx cy gx gy : Nat} {b0 k0 : Int} {px py : Option Addr} {ds : List Int} {fs : List Nat} {w w' : World} (h : BlE A D b0 k0 n px py cx cy gx gy ds fs w) (hb : Below w.heap.size w w') : BlE A D b0 k0 n px py cx cy gx gy ds fs w' :=
  ⟨h.c.below hb, h.t.below hb, h.ne, h.lo, Nat.lt_of_lt_of_le h.hi hb.size⟩
theorem blE_after {A n cx cy gx gy : Nat} {b0 k0 : Int} {px py : Option Addr} {ds : List Int} {fs : List Nat} {w4 : World} (h : BlT A n px py gx gy ds fs w4) (hA : A ≤ w4.heap.size) : BlE A w4.heap.size b0 k0 n px py cx cy gx gy ds fs (w4.alloc (.cells #[.int .i64 b0, .int .i64 k0, .slice px n cx, .slice py n cy] 34)) :=
  ⟨⟨by simp, by simp, by simp, by simp⟩, h.below ((Below.refl _ _).alloc (Nat.le_refl _) _), fun hn => ⟨Nat.ne_of_lt (h.hi hn).1, Nat.ne_of_lt (h.hi hn).2⟩, hA, by simp⟩
theorem blE_before {A n cx cy gx gy : Nat} {b0 k0 : Int} {px py : Option Addr} {ds : List Int} {fs : List Nat} {w4 : World} (h : BlT (A + 1) n px py gx gy ds fs w4) (hz : Z4 A w4) : BlE A A b0 k0 n px py cx cy gx gy ds fs (putB4 w4 A b0 k0 (.slice px n cx) (.slice py n cy)) := by
  have hne : 0 < n → gx ≠ A ∧ gy ≠ A := fun hn => by have := h.lo hn; omega
  have hs := (putB4_bel (w := w4) (X := A) b0 k0 (.slice px n cx) (.slice py n cy) (Nat.zero_le _)).size
  have far : ∀ g, g ≠ A → (putB4 w4 A b0 k0 (.slice px n cx) (.slice py n cy)).heap[g]? = w4.heap[g]? := fun g hg => by
    unfold putB4
    rw [blkB_far _ _ _ _ hg, blkB_far _ _ _ _ hg, blkB_far _ _ _ _ hg, blkB_far _ _ _ _ hg]
  exact ⟨putB4_at b0 k0 _ _ hz, h.same (fun hn => far gx (hne hn).1) (fun hn => far gy (hne hn).2) hs (Nat.le_succ _), hne, Nat.le_refl _, Nat.lt_of_lt_of_le hz.lt hs⟩
structure BlC (A Z D : Nat) (b0 k0 : Int) (n : Nat) (px py : Option Addr) (cx cy gx gy : Nat) (wL w : World) : Prop where
  c : V4 D b0 k0 (.slice px n cx) (.slice py n cy) w
  x : WrR gx n w
  y : WrR gy n w
  r : RnB A Z wL w
theorem BlC.put {A Z D n cx cy gx gy g k : Nat} {b0 k0 : Int} {px py : Option Addr} {wL w : World} (h : BlC A Z D b0 k0 n px py cx cy gx gy wL w) (v : Value) (hD : g ≠ D) (hg : g = gx ∨ g = gy) (hne : gx ≠ gy) (hA : A ≤ g) (hZ : g < Z) : BlC A Z D b0 k0 n px py cx cy gx gy wL (w.setCell ⟨g, k, none⟩ v) := by
  have far : ∀ j, j ≠ g → (w.setCell ⟨g, k, none⟩ v).heap[j]? = w.heap[j]? := fun j hj => blkB_far w ⟨g, k, none⟩ v j hj
  have hs : w.heap.size ≤ (w.setCell ⟨g, k, none⟩ v).heap.size := Nat.le_of_eq (World.size_setCell ..).symm
  have hc : V4 D b0 k0 (.slice px n cx) (.slice py n cy) (w.setCell ⟨g, k, none⟩ v) := h.c.via fun j => World.cell?_of_block (w := w) (a := ⟨D, j, none⟩) (far D (Ne.symm hD))
  rcases hg with rfl | rfl
  · exact ⟨hc, (h.x.put (A := A) (Z := Z) v hA hZ).1, h.y.same (far gy (Ne.symm hne)) hs, h.r.trans (h.x.put v hA hZ).2⟩
  · exact ⟨hc, h.x.same (far gx hne) hs, (h.y.put (A := A) (Z := Z) v hA hZ).1, h.r.trans (h.y.put v hA hZ).2⟩
structure BlD (w : World) (A Z D2 D3 g3 : Nat) (b0 k0 : Int) (n : Nat) (qx qy ry : Option Addr) (ex ey fy hx hy jy : Nat) (dn : List Int) (fn : List Nat) (pq : Option Addr) (bq oq : Nat) (qs : List Quo) (wr : World) : Prop where
  d : V4 D2 b0 k0 (.slice qx n ex) (.slice qy n ey) wr
  ds : TFl wr qx qy hx 0 hy 0 dn fn
  o : V4 D3 b0 k0 (.slice qx n ex) (.slice ry n fy) wr
  os : CSrcD wr qx ry hx 0 jy 0 dn fn
  own : QSrc wr (some ⟨g3, 0, none⟩) g3 0 (qs ++ [q77])
  inn : QSrc wr pq bq oq qs
  bl : Below w.heap.size w wr
  p2 : Z ≤ D2
  p3 : Z ≤ D3
  pg : g3 < A
  ph : 0 < n → Z ≤ hx ∧ Z ≤ hy ∧ Z ≤ jy
  lx : dn.length = n
  ly : fn.length = n
  aw : w.heap.size ≤ A
  qb : 0 < qs.length → bq < w.heap.size
theorem BlD.step {w : World} {A Z D2 D3 g3 : Nat} {b0 k0 : Int} {n : Nat} {qx qy ry : Option Addr} {ex ey fy hx hy jy : Nat} {dn : List Int} {fn : List Nat} {pq : Option Addr} {bq oq : Nat} {qs : List Quo} {wr w' : World} (h : BlD w A Z D2 D3 g3 b0 k0 n qx qy ry ex ey fy hx hy jy dn fn pq bq oq qs wr) (hb : Below wr.heap.size wr w') : BlD w A Z D2 D3 g3 b0 k0 n qx qy ry ex ey fy hx hy jy dn fn pq bq oq qs w' :=
  ⟨h.d.below hb, h.ds.below hb, h.o.below hb, h.os.below hb, h.own.below hb, h.inn.below hb, h.bl.trans (hb.mono h.bl.size), h.p2, h.p3, h.pg, h.ph, h.lx, h.ly, h.aw, h.qb⟩
theorem qsrc_keep {w w' : World} {p : Option Addr} {b off : Nat} {qs : List Quo} (h : QSrc w p b off qs) (e : 0 < qs.length → w'.heap[b]? = w.heap[b]?) (hs : w.heap.size ≤ w'.heap.size) : QSrc w' p b off qs :=
  ⟨h.at_, fun a => Nat.lt_of_lt_of_le (h.lt a) hs, fun i hi => by
    have c := h.cell i hi
    have k : ∀ j, w'.cell? ⟨b, j, none⟩ = w.cell? ⟨b, j, none⟩ := fun j => World.cell?_of_block (w := w) (a := ⟨b, j, none⟩) (e (by omega))
    exact ⟨(k _).trans c.c0, (k _).trans c.c1, (k _).trans c.c2, (k _).trans c.c3, (k _).trans c.c4⟩⟩
theorem vsrc_keep {w w' : World} {p : Option Addr} {b off n : Nat} {f : Nat → Value} (h : VSrc w p b off n f) (e : 0 < n → w'.heap[b]? = w.heap[b]?) (hs : w.heap.size ≤ w'.heap.size) : VSrc w' p b off n f :=
  ⟨h.at_, fun a => Nat.lt_of_lt_of_le (h.lt a) hs, fun j hj => (World.cell?_of_block (w := w) (a := ⟨b, off + j, none⟩) (e (by omega))).trans (h.cell j hj)⟩
theorem BlD.rn {w : World} {A Z D2 D3 g3 : Nat} {b0 k0 : Int} {n : Nat} {qx qy ry : Option Addr} {ex ey fy hx hy jy : Nat} {dn : List Int} {fn : List Nat} {pq : Option Addr} {bq oq : Nat} {qs : List Quo} {wr w' : World} (h : BlD w A Z D2 D3 g3 b0 k0 n qx qy ry ex ey fy hx hy jy dn fn pq bq oq qs wr) (hr : RnB A Z wr w') : BlD w A Z D2 D3 g3 b0 k0 n qx qy ry ex ey fy hx hy jy dn fn pq bq oq qs w' := by
  have hs := Nat.le_of_eq hr.size.symm
  have v : ∀ X, X < A ∨ Z ≤ X → ∀ j, w'.cell? ⟨X, j, none⟩ = wr.cell? ⟨X, j, none⟩ := fun X hX j => hr.cell (p := ⟨X, j, none⟩) hX
  have a1 := h.lx
  have a2 := h.ly
  have p2 := h.p2
  have p3 := h.p3
  have pg := h.pg
  have aw := h.aw
  exact ⟨h.d.via (v D2 (Or.inr p2)), ⟨vsrc_keep h.ds.x (fun a => hr.out hx (Or.inr (h.ph (by omega)).1)) hs, vsrc_keep h.ds.y (fun a => hr.out hy (Or.inr (h.ph (by omega)).2.1)) hs, h.ds.f⟩, h.o.via (v D3 (Or.inr p3)), ⟨vsrc_keep h.os.d (fun a => hr.out hx (Or.inr (h.ph (by omega)).1)) hs, vsrc_keep h.os.f (fun a => hr.out jy (Or.inr (h.ph (by omega)).2.2)) hs, h.os.u⟩, qsrc_keep h.own (fun _ => hr.out g3 (Or.inl pg)) hs, qsrc_keep h.inn (fun a => hr.out bq (Or.inl (by have := h.qb a; omega))) hs, h.bl.trans ((hr.below (Nat.le_refl A)).mono aw), p2, p3, pg, h.ph, a1, a2, aw, h.qb⟩
theorem docOfG (base kind : Int) (px py : Option Addr) (bx ox cx b2 oy cy n : Nat) (xs : List Int) (ys : List Nat) (w : World) (hs : TFl w px py bx ox b2 oy xs ys) (hx : xs.length = n) (hy : ys.length = n) (hn : n ≤ 1000) :
    Calls Tryz.prog 7 #[.agg #[.int .i64 base, .int .i64 kind, .slice px n cx, .slice py n cy]] w fun e w' => ∃ p g c, e = .returned (.agg #[.int .i64 base, .int .i64 kind, .slice px n cx, .slice p n c]) ∧ CSrcD w' px p bx ox g 0 xs ys ∧ w.heap.size ≤ g ∧ Below w.heap.size w w' := by
  subst hx
  rw [← hy]
  rw [← hy] at hn
  have := ref11Of_any base kind b2 oy cx cy xs.length ys.length px py ys w hs.y rfl (by omega)
  rw [hy] at this ⊢
  refine this.mono fun e w' ⟨v, he, ho, hb⟩ => ?_
  obtain ⟨p, g, c, rfl, hsrc, hg, hnc, hcm⟩ := uown_src ho hy
  exact ⟨p, g, c, he, ⟨hs.x.below hb, ⟨fun a => hsrc.at_ (by omega), fun a => hsrc.lt (by omega), fun j hj => hsrc.cell j (by omega)⟩, hs.u⟩, hg, hb⟩
theorem BlT.up {lo lo' n gx gy : Nat} {px py : Option Addr} {ds : List Int} {fs : List Nat} {w : World} (h : BlT lo n px py gx gy ds fs w) (hlo : lo' ≤ lo) : BlT lo' n px py gx gy ds fs w := h.same (fun _ => rfl) (fun _ => rfl) (Nat.le_refl _) hlo
end Go.Proofs.YtphnainibdepbaaGreat
namespace Go.Proofs.YtphnainibdepbaaGreat
open Go.RowKit

set_option maxRecDepth 20000 in
set_option maxHeartbeats 1600000 in
theorem few13_long (base kind W : Int) (p pq : Option Addr) (cq n c N : Nat) (w : World) (h : 5 < N) :
    Calls Tryz.prog 4 #[.int .i64 base, .int .i64 kind, .agg #[.int .i64 W, .slice p n c], .slice pq N cq] w fun e w' => e = .returned (.bool false) ∧ Below w.heap.size w w' := by
  have HB := hideS (calbk w W (.slice p n c))
  have d5 : decide ((5 : Int) < (N : Int)) = true := decide_eq_true (by omega)
  have d3 : decide ((3 : Int) < (N : Int)) = true := decide_eq_true (by omega)
  clear h
  by_cases hk : kind = 3
  · subst hk
    go_enter Tryz.func4, Tryz.ntmps4
    go_wp2_with fail
    go_ret
    exact ⟨rfl, HB.out.2⟩
  by_cases hk4 : kind = 4
  · subst hk4
    go_enter Tryz.func4, Tryz.ntmps4
    go_wp2_with fail
    go_ret
    exact ⟨rfl, HB.out.2⟩
  have e3 : (kind == 3) = false := beq_eq_false_iff_ne.2 hk
  have e4 : (kind == 4) = false := beq_eq_false_iff_ne.2 hk4
  go_enter Tryz.func4, Tryz.ntmps4
  go_wp2_with fail
  go_ret
  exact ⟨rfl, HB.out.2⟩
end Go.Proofs.YtphnainibdepbaaGreat
namespace Go.Proofs.YtphnainibdepbaaGreat
open Go.RowKit

end Go.Proofs.YtphnainibdepbaaGreat
namespace Go.Proofs.YtphnainibdepbaaGreat
open Go.RowKit

end Go.Proofs.YtphnainibdepbaaGreat
namespace Go.Proofs.YtphnainibdepbaaGreat
open Go.RowKit

end Go.Proofs.YtphnainibdepbaaGreat
