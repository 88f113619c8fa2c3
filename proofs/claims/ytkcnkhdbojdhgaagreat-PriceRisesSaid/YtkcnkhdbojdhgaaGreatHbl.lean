/- The contracts of package price's isCurrency, isNumber, number and visit: visit of any function value whose calls are told. The contracts of package price's Of, Present. What flows are worth, by the worths of amounts and factors: plain. The contract of package price's Flat. What tenorlaw15's awake asks, and small. -/
import Derived.Test.YtkcnkhdbojdhgaaGreatHbj
import Derived.Test.YtkcnkhdbojdhgaaGreatHbk
import Derived.Laws.EntriesVeiled
import Derived.Deep.RegionHeld3
import Derived.Test.YtkcnkhdbojdhgaaGreatFnv
import Derived.Test.YtkcnkhdbojdhgaaGreatHbg
import Derived.Test.YtkcnkhdbojdhgaaGreatHak
import Derived.Test.YtkcnkhdbojdhgaaGreatHax
import Derived.Deep.QuietTactic
namespace Go.Proofs.YtkcnkhdbojdhgaaGreat
open Go.RowKit

theorem xCur_any (n : Int) (w : World) :
    Calls Tryz.prog 79 #[.int .i64 n] w fun e w' => e = .returned (.bool (decide (1 ≤ n ∧ n ≤ 8))) ∧ w' = w := by
  by_cases h1 : 1 ≤ n <;> by_cases h2 : n ≤ 8
  all_goals
    first | rw [decide_eq_true (⟨h1, h2⟩ : 1 ≤ n ∧ n ≤ 8)] | rw [decide_eq_false (fun h : 1 ≤ n ∧ n ≤ 8 => by omega)]
    go_enter Tryz.func79, Tryz.ntmps79
    go_wp2
    go_ret
    exact ⟨rfl, rfl⟩
set_option maxHeartbeats 800000 in
theorem xNum_any (x : Nat) (w : World) (hx : U64 x) :
    Calls Tryz.prog 92 #[.float .f64 x] w fun e w' => e = .returned (.bool (finB x)) ∧ w' = w := by
  have H1 := hideS fun w => isNaN_math x w hx
  cases hn : nanB (x : Int)
  · rw [hn] at H1
    have H2 := hideS fun w => isInf_both x _ w hx (inf_gt hn)
    generalize finB x = b at *
    clear hn hx
    cases b
    all_goals
      go_enter Tryz.func92, Tryz.ntmps92
      go_wp2_with fail
      refine (H1.out _).mono ?_
      rintro e w' ⟨rfl, rfl⟩
      go_wp2_with fail
      refine (H2.out _).mono ?_
      rintro e w' ⟨rfl, rfl⟩
      go_wp2_with fail
      go_ret
      exact ⟨rfl, rfl⟩
  · rw [hn] at H1
    rw [fin_nan hn]
    clear hn hx
    go_enter Tryz.func92, Tryz.ntmps92
    go_wp2_with fail
    refine (H1.out _).mono ?_
    rintro e w' ⟨rfl, rfl⟩
    go_wp2_with fail
    go_ret
    exact ⟨rfl, rfl⟩
theorem xNumber_any (x : Nat) (w : World) (hx : U64 x) :
    Calls Tryz.prog 43 #[.float .f64 x] w fun e w' => e = .returned (.tuple #[.float .f64 (tldV x), .int .i64 (tldE x)]) ∧ w' = w := by
  have HN := hideS fun w => xNum_any x w hx
  unfold tldV tldE
  cases hb : finB (x : Int)
  all_goals
    rw [hb] at HN
    clear hb hx
    simp only [Bool.false_eq_true, if_false, if_true]
    go_enter Tryz.func43, Tryz.ntmps43
    go_wp2_with (go_at_call 92; refine (HN.out _).mono ?_; rintro e w' ⟨rfl, rfl⟩)
    go_ret2
    exact ⟨rfl, rfl⟩

structure TkC (fN : Nat) (fst cap : Array Value) (l : List Flw) (cur : Int) (c : Cv) (w0 : World) (I : Nat → World → Prop) (Ow : World → Nat → Prop) : Prop where
  call : ∀ k wx, k < l.length → badF (l.getD k flw0) = 0 → c.Ok → tkB cur c.base (l.getD k flw0) = true → c.E (l.getD k flw0).day = 0 → I k wx → Calls Tryz.prog fN (fst ++ (#[.float .f64 (l.getD k flw0).am, .float .f64 (c.V (l.getD k flw0).day)] ++ cap)) wx fun e w' => e = .returned (.tuple #[]) ∧ I (k + 1) w' ∧ wx.heap.size ≤ w'.heap.size ∧ ∀ x < wx.heap.size, ¬ Ow wx x → w'.heap[x]? = wx.heap[x]? ∧ ¬ Ow w' x
  skip : ∀ k wx, k < l.length → tkB cur c.base (l.getD k flw0) = false → I k wx → I (k + 1) wx
  stay : ∀ k wx wy, I k wx → Below wx.heap.size wx wy → I k wy ∧ ∀ x, Ow wy x → Ow wx x
  low : ∀ k wx, I k wx → Below w0.heap.size w0 wx
  lt : ∀ k wx x, I k wx → Ow wx x → x < wx.heap.size
structure BxK (w : World) (g : Nat) (base kind : Int) (vd vf : Value) : Prop where
  blk : w.heap[g]? = some (.cells #[.int .i64 base, .int .i64 kind, vd, vf] 26)
theorem BxK.lt {w : World} {g : Nat} {base kind : Int} {vd vf : Value} (h : BxK w g base kind vd vf) : g < w.heap.size := (Array.getElem?_eq_some_iff.1 h.blk).1
theorem BxK.t {w : World} {g : Nat} {base kind : Int} {vd vf : Value} (h : BxK w g base kind vd vf) : w.cell? ⟨g, 0, none⟩ = some (.int .i64 base) ∧ w.cell? ⟨g, 1, none⟩ = some (.int .i64 kind) ∧ w.cell? ⟨g, 2, none⟩ = some vd ∧ w.cell? ⟨g, 3, none⟩ = some vf := by
  have hb := h.blk
  exact ⟨by simp [World.cell?, hb], by simp [World.cell?, hb], by simp [World.cell?, hb], by simp [World.cell?, hb]⟩
theorem BxK.step {w w' : World} {g : Nat} {base kind : Int} {vd vf : Value} (h : BxK w g base kind vd vf) (hb : Below w.heap.size w w') : BxK w' g base kind vd vf := ⟨(hb.block g h.lt).trans h.blk⟩
theorem bxK_at (w : World) (base kind : Int) (vd vf : Value) : BxK (w.alloc (.cells #[.int .i64 base, .int .i64 kind, vd, vf] 26)) w.heap.size base kind vd vf := ⟨heap_alloc_new _ _⟩
theorem visChk {l : List Flw} (h : ChkF l 0 0) : l.length ≤ 4096 ∧ ∀ i < l.length, badF (l.getD i flw0) = 0 := by
  generalize hz : (0 : Int) = z at h
  cases h with
  | fine hl h => exact ⟨hl, h⟩
  | bad hl k hk e he h0 h => exact absurd hz.symm h0

set_option maxRecDepth 20000 in
set_option maxHeartbeats 6400000 in
theorem visit_any (fN : Nat) (fst cap : Array Value) (l : List Flw) (cur : Int) (c : Cv) (pl : Option Addr) (bl ol cl N : Nat) (pd pf : Option Addr) (bd od cd b2 o2 cf : Nat) (I : Nat → World → Prop) (Ow : World → Nat → Prop) (w0 w : World) (E : Int) (hE : VisR l cur c E) (hl : JSrc aF w0 pl bl ol l) (hN : l.length = N) (hNb : N ≤ 9223372036854775807) (hf : FitJ l) (hs : TFl w0 pd pf bd od b2 o2 c.ds c.fs) (hen : ∀ args w, (callFunc fN args).run Tryz.prog w = .ok (.enter fN args) w) (hT : TkC fN fst cap l cur c w0 I Ow) (hI : I 0 w) :
    Calls Tryz.prog 38 #[.slice pl N cl, .int .i64 cur, .agg #[.int .i64 c.base, .int .i64 c.kind, .slice pd c.ds.length cd, .slice pf c.fs.length cf], .func (.func fN) fst cap] w fun e w' => e = .returned (.int .i64 E) ∧ ∃ k, I k w' ∧ (E = 0 → k = N) := by
  obtain ⟨E1, K1, h1⟩ := chkF_ex l
  obtain ⟨E2, h2⟩ := curR_ex c.base c.kind c.ds c.fs
  have HCk := hideS fun wx (hb : Below w0.heap.size w0 wx) => jCheck_any l pl bl ol cl N E1 K1 wx (hl.below hb) hN hNb hf h1
  have HCu := hideS fun wx => xCur_any cur wx
  have HCc := hideS fun wx (hb : Below w0.heap.size w0 wx) => curCheck_any c.base c.kind pd pf bd od cd b2 o2 cf c.ds c.fs wx (hs.below hb) h2
  have HFa := hideS fun x wx (hb : Below w0.heap.size w0 wx) => curFactor_any c.base c.kind x (c.E x) (c.V x) pd pf bd od cd b2 o2 cf c.ds c.fs wx (hs.below hb) (facV_is c.base c.kind c.ds c.fs x)
  have HK := hideS (bxK_at w c.base c.kind (.slice pd c.ds.length cd) (.slice pf c.fs.length cf))
  have H0 := hideS (hT.stay 0 w _ hI ((Below.refl _ _).alloc (Nat.le_refl _) (.cells #[.int .i64 c.base, .int .i64 c.kind, .slice pd c.ds.length cd, .slice pf c.fs.length cf] 26))).1
  have HO : Hid (¬ Ow (w.alloc (.cells #[.int .i64 c.base, .int .i64 c.kind, .slice pd c.ds.length cd, .slice pf c.fs.length cf] 26)) w.heap.size) := fun h => Nat.lt_irrefl _ (hT.lt 0 w _ hI ((hT.stay 0 w _ hI ((Below.refl _ _).alloc (Nat.le_refl _) _)).2 _ h))
  have HE := hideS hE
  have HT := hideS hT
  have HQ := hideS hl
  have HN := hideS hN
  have HP : Hid (0 < N → pl = some ⟨bl, ol, none⟩) := fun h => hl.at_ (by omega)
  have H1 := hideS h1
  have H2 := hideS h2
  clear hE hT hl hN hf hs h1 h2 hI
  generalize hvd : Value.slice pd c.ds.length cd = vd at *
  generalize hvf : Value.slice pf c.fs.length cf = vf at *
  obtain ⟨base, hbase⟩ : ∃ b, c.base = b := ⟨_, rfl⟩
  obtain ⟨kind, hkind⟩ : ∃ b, c.kind = b := ⟨_, rfl⟩
  rw [hbase, hkind] at HCc HFa HK H0 HO ⊢
  have HBs := hideS hbase
  clear hvd hvf hbase hkind
  obtain ⟨w1, hw1⟩ : ∃ w1, w.alloc (.cells #[.int .i64 base, .int .i64 kind, vd, vf] 26) = w1 := ⟨_, rfl⟩
  rw [hw1] at HK H0 HO
  obtain ⟨g, hg⟩ : ∃ g, w.heap.size = g := ⟨_, rfl⟩
  rw [hg] at HK HO
  go_enter Tryz.func38, Tryz.ntmps38
  go_wp2_with fail
  clear hg hw1
  refine (HCk.out _ (HT.out.low _ _ H0.out)).mono ?_
  rintro e w2 ⟨rfl, hb2⟩
  have HK2 := hideS (HK.out.step hb2)
  have HO2 : Hid (¬ Ow w2 g) := fun h => HO.out ((HT.out.stay _ _ _ H0.out hb2).2 _ h)
  have HI2 := hideS (HT.out.stay _ _ _ H0.out hb2).1
  clear hb2 HK HO H0 HCk
  by_cases hE1 : E1 = 0
  · subst hE1
    have HKz := hideS (chkF_zero H1.out)
    rw [HKz.out] at H1
    by_cases hc : 1 ≤ cur ∧ cur ≤ 8
    · rw [decide_eq_true hc] at HCu
      have HC8 := hideS hc
      clear hc
      obtain ⟨t0, t1, t2, t3⟩ := HK2.out.t
      go_wp2_with (go_at_call 79; refine (HCu.out _).mono ?_; rintro e w' ⟨rfl, rfl⟩)
      refine (HCc.out _ (HT.out.low _ _ HI2.out)).mono ?_
      rintro e w3 ⟨rfl, hb3⟩
      have HK3 := hideS (HK2.out.step hb3)
      have HO3 : Hid (¬ Ow w3 g) := fun h => HO2.out ((HT.out.stay _ _ _ HI2.out hb3).2 _ h)
      have HI3 := hideS (HT.out.stay _ _ _ HI2.out hb3).1
      clear hb3 HK2 HO2 HI2 HCc HCu t0 t1 t2 t3
      by_cases hE2 : E2 = 0
      · subst hE2
        have HOk := hideS (curR_ok H2.out)
        have HFi := hideS fun i (hi : i < N) => (visChk H1.out).2 i (by rw [HN.out]; exact hi)
        have HNs := hideS (visChk H1.out).1
        go_wp2_with fail
        go_loopw [34] (fun i wr => ∃ k : Nat, k ≤ N ∧ i = .int .i64 k ∧ Hid (∀ j < k, tkB cur c.base (l.getD j flw0) = true → c.E (l.getD j flw0).day = 0) ∧ Hid (I k wr ∧ BxK wr g base kind vd vf ∧ ¬ Ow wr g)) (fun i _ => N - (intOf i).toNat)
        case atStart => exact ⟨0, Nat.zero_le _, rfl, fun j hj => by omega, HI3.out, HK3.out, HO3.out⟩
        case round =>
          clear HI3 HK3 HO3
          obtain ⟨k, hk, rfl, HFn, HR⟩ := hrel
          by_cases hlt : k < N
          · obtain rfl := HP.out (by omega)
            have HQr := hideS (HQ.out.below (HT.out.low _ _ HR.out.1))
            obtain ⟨c0, c1, c2⟩ := HQr.out.cell k (by rw [HN.out]; exact hlt)
            have HQB := hideS (setF_box wr (l.getD k flw0))
            have HCl := hideS (HT.out.call k)
            have HSk := hideS (HT.out.skip k)
            obtain ⟨⟨z0, z1, z2⟩, fz⟩ := zeroF_cells wr
            have y0 := fz 0
            have y1 := fz 1
            have y2 := fz 2
            clear fz
            obtain ⟨q, hq⟩ : ∃ q, l.getD k flw0 = q := ⟨_, rfl⟩
            have HBd := hideS (HFi.out k hlt)
            rw [hq] at HCl HSk HQB c0 c1 c2 HBd
            have Hq := hideS hq
            clear hq
            obtain ⟨qd, qa, qc⟩ := q
            dsimp only [aF] at *
            obtain ⟨w4, hw4⟩ : ∃ w4, wr.alloc zeroF = w4 := ⟨_, rfl⟩
            rw [hw4] at z0 z1 z2 y0 y1 y2 HQB
            unfold zeroF at hw4
            obtain ⟨w5, hw5⟩ : ∃ w5, setF w4 wr.heap.size ⟨qd, qa, qc⟩ = w5 := ⟨_, rfl⟩
            rw [hw5] at HQB
            unfold setF at hw5
            dsimp only at hw5
            have f0 := HQB.out.t0
            have f1 := HQB.out.t1
            have f2 := HQB.out.t2
            dsimp only at f0 f1 f2
            have hst := store_flj
            have HK5 := hideS (HR.out.2.1.step HQB.out.bl)
            have HI5 := hideS (HT.out.stay _ _ _ HR.out.1 HQB.out.bl).1
            have HO5 : Hid (¬ Ow w5 g) := fun h => HR.out.2.2 ((HT.out.stay _ _ _ HR.out.1 HQB.out.bl).2 _ h)
            obtain ⟨t0, t1, t2, t3⟩ := HK5.out.t
            have HTk : Hid (tkB cur c.base ⟨qd, qa, qc⟩ = (decide (qc = cur) && decide (base ≤ qd))) := by show _ = _; unfold tkB; rw [HBs.out]
            rw [HTk.out] at HCl HSk
            clear HTk HQB HR HQr
            by_cases hcu : qc = cur
            · subst hcu
              by_cases hda : qd < base
              · have HI6 := hideS (HSk.out w5 (by rw [HN.out]; exact hlt) (by simp; omega) HI5.out)
                have HFn2 : Hid (∀ j < k + 1, tkB qc c.base (l.getD j flw0) = true → c.E (l.getD j flw0).day = 0) := fun j hj ht => by
                  by_cases d : j < k
                  · exact HFn.out j d ht
                  · obtain rfl : j = k := by omega
                    rw [Hq.out] at ht
                    unfold tkB at ht
                    rw [HBs.out] at ht
                    simp at ht; omega
                have o1 : (qc != qc) = false := by simp
                go_wp2_with fail
                clear hst hw4 hw5 z0 z1 z2 y0 y1 y2 f0 f1 f2 t0 t1 t2 t3
                go_roundw
                case rel => exact ⟨k + 1, by omega, by simp, HFn2, HI6.out, HK5.out, HO5.out⟩
                case measure => simp [intOf]; omega
              · have HFc := hideS (HFa.out qd)
                obtain ⟨FE, hFE⟩ : ∃ x, c.E qd = x := ⟨_, rfl⟩
                obtain ⟨FV, hFV⟩ : ∃ x, c.V qd = x := ⟨_, rfl⟩
                rw [hFE, hFV] at HFc HCl
                have HFE := hideS hFE
                clear hFE hFV
                have o1 : (qc != qc) = false := by simp
                have o2 : decide (qd < base) = false := decide_eq_false hda
                have HTy : Hid (tkB qc c.base (l.getD k flw0) = true) := by show _ = _; rw [Hq.out]; unfold tkB; rw [HBs.out]; simp; omega
                have hlw : wr.heap.size < w5.heap.size := World.block_lt_of_cell? _ _ f1
                by_cases hz : FE = 0
                · subst hz
                  have HFn2 : Hid (∀ j < k + 1, tkB qc c.base (l.getD j flw0) = true → c.E (l.getD j flw0).day = 0) := fun j hj ht => by
                    by_cases d : j < k
                    · exact HFn.out j d ht
                    · obtain rfl : j = k := by omega
                      rw [Hq.out]; exact HFE.out
                  go_wp2_with fail
                  clear hst hw4 hw5 z0 z1 z2 y0 y1 y2 t0 t1 t2 t3
                  refine (HFc.out _ (HT.out.low _ _ HI5.out)).mono ?_
                  rintro e w6 ⟨rfl, hb6⟩
                  have HK6 := hideS (HK5.out.step hb6)
                  have HI6 := hideS (HT.out.stay _ _ _ HI5.out hb6).1
                  have HO6 : Hid (¬ Ow w6 g) := fun h => HO5.out ((HT.out.stay _ _ _ HI5.out hb6).2 _ h)
                  have g1 : w6.cell? ⟨wr.heap.size, 1, none⟩ = some (.float .f64 qa) := (hb6.cell (p := ⟨wr.heap.size, 1, none⟩) hlw).trans f1
                  clear hb6 HK5 HI5 HO5 HFc f0 f1 f2 hlw
                  go_wp2_with fail
                  refine (HCl.out w6 (by rw [HN.out]; exact hlt) HBd.out HOk.out (by simp; omega) trivial HI6.out).mono ?_
                  rintro e w7 ⟨rfl, hi7, hs7, hk7⟩
                  have HI7 := hideS hi7
                  have HK7 : Hid (BxK w7 g base kind vd vf) := ⟨(hk7 g HK6.out.lt HO6.out).1.trans HK6.out.blk⟩
                  have HO7 := hideS (hk7 g HK6.out.lt HO6.out).2
                  clear hi7 hs7 hk7 g1 HK6 HI6 HO6
                  go_wp2_with fail
                  go_roundw
                  case rel => exact ⟨k + 1, by omega, by simp, HFn2, HI7.out, HK7.out, HO7.out⟩
                  case measure => simp [intOf]; omega
                · have HX : Hid (E = FE) := visR_one HE.out (.fac H1.out HC8.out HOk.out k (by rw [HN.out]; exact hlt) HTy.out FE (by rw [Hq.out]; exact HFE.out) hz HFn.out)
                  have d1 : (FE != 0) = true := bne_iff_ne.2 hz
                  clear hz
                  go_wp2_with fail
                  clear hst hw4 hw5 z0 z1 z2 y0 y1 y2 t0 t1 t2 t3
                  refine (HFc.out _ (HT.out.low _ _ HI5.out)).mono ?_
                  rintro e w6 ⟨rfl, hb6⟩
                  have HI6 := hideS (HT.out.stay _ _ _ HI5.out hb6).1
                  clear hb6 HK5 HI5 HO5 HFc f0 f1 f2 hlw
                  go_wp2_with fail
                  go_ret
                  rw [HX.out]
                  exact ⟨rfl, k, HI6.out, fun h => absurd h (bne_iff_ne.1 d1)⟩
            · have o1 : (qc != cur) = true := bne_iff_ne.2 hcu
              have HI6 := hideS (HSk.out w5 (by rw [HN.out]; exact hlt) (by simp [hcu]) HI5.out)
              have HFn2 : Hid (∀ j < k + 1, tkB cur c.base (l.getD j flw0) = true → c.E (l.getD j flw0).day = 0) := fun j hj ht => by
                by_cases d : j < k
                · exact HFn.out j d ht
                · obtain rfl : j = k := by omega
                  rw [Hq.out] at ht
                  unfold tkB at ht
                  simp [hcu] at ht
              clear hcu
              go_wp2_with fail
              clear hst hw4 hw5 z0 z1 z2 y0 y1 y2 f0 f1 f2 t0 t1 t2 t3
              go_roundw
              case rel => exact ⟨k + 1, by omega, by simp, HFn2, HI6.out, HK5.out, HO5.out⟩
              case measure => simp [intOf]; omega
          · obtain rfl : k = N := by omega
            have HX : Hid (E = 0) := visR_one HE.out (.ok H1.out HC8.out HOk.out (fun i hi => HFn.out i (by rw [HN.out] at hi; exact hi)))
            go_wp2_with fail
            go_ret
            rw [HX.out]
            exact ⟨rfl, k, HR.out.1, fun _ => rfl⟩
      · have HX : Hid (E = E2) := visR_one HE.out (.curve H1.out HC8.out E2 H2.out hE2)
        have d1 : (E2 != 0) = true := bne_iff_ne.2 hE2
        clear hE2
        go_wp2_with fail
        go_ret
        rw [HX.out]
        exact ⟨rfl, 0, HI3.out, fun h => absurd h (bne_iff_ne.1 d1)⟩
    · have HX : Hid (E = 140) := visR_one HE.out (.cur H1.out hc)
      rw [decide_eq_false hc] at HCu
      clear hc
      go_wp2_with (go_at_call 79; refine (HCu.out _).mono ?_; rintro e w' ⟨rfl, rfl⟩)
      go_ret
      rw [HX.out]
      exact ⟨rfl, 0, HI2.out, fun h => by cases h⟩
  · have HX : Hid (E = E1) := visR_one HE.out (.flow E1 K1 H1.out hE1)
    have d1 : (E1 != 0) = true := bne_iff_ne.2 hE1
    clear hE1
    go_wp2_with fail
    go_ret
    rw [HX.out]
    exact ⟨rfl, 0, HI2.out, fun h => absurd h (bne_iff_ne.1 d1)⟩
end Go.Proofs.YtkcnkhdbojdhgaaGreat
namespace Go.Proofs.YtkcnkhdbojdhgaaGreat
open Go.RowKit

theorem enter_prod (args : Array Value) (w : World) : (callFunc 39 args).run Tryz.prog w = .ok (.enter 39 args) w := enter_of Tryz.func39 (by kernel_rfl) rfl args w
def SumK (w : World) (b : Nat) (cur : Int) (c : Cv) (l : List Flw) (k : Nat) (wx : World) : Prop := ∃ v, A.Run w wx b v (70 + k) ⟨0, wsI cur c (l.take k)⟩
def AcOw (b : Nat) (wx : World) (x : Nat) : Prop := x = b ∨ ∃ v : Value, wx.cell? ⟨b, 1, none⟩ = some v ∧ v.ownBlock = some x
theorem acOw_ft {w : World} {B b L : Nat} {v : Value} {a : A.St} (h : A.AccAt w B b v L a) (x : Nat) : AcOw b w x ↔ A.Ft b v x := by
  constructor
  · rintro (e | ⟨v', h1, h2⟩)
    · exact Or.inl e
    · rw [h.cell1] at h1
      injection h1 with h1
      subst h1
      exact Or.inr h2
  · rintro (e | e)
    · exact Or.inl e
    · exact Or.inr ⟨v, h.cell1, e⟩
theorem ctI_yes {cur : Int} {c : Cv} {f : Flw} (h : tkB cur c.base f = true) : ctI cur c f = prI c f := by unfold ctI; rw [if_pos h]
theorem ctI_no {cur : Int} {c : Cv} {f : Flw} (h : tkB cur c.base f = false) : ctI cur c f = 0 := by unfold ctI; rw [h]; rfl
theorem merge_s0 {a : A.St} (h : a.s = 0) (N : Int) : (⟨0, N⟩ : A.St).merge a = ⟨0, N + a.N⟩ := by
  obtain ⟨s, M⟩ := a
  dsimp only at h
  subst h
  rfl
theorem Cv.splV {c : Cv} {x : Int} (ok : c.Ok) (hf : c.Fit) (h : c.E x = 0) : splOk ((c.V x : Nat) : Int) = true := facV_fin ok hf h
theorem spl_am {f : Flw} (h : badF f = 0) : splOk (f.am : Int) = true := bad_am h
theorem prod_tk {l : List Flw} {cur : Int} {c : Cv} {w : World} {b : Nat} (hn : l.length ≤ 30000) (hf : FitJ l) (hv : c.Fit) : TkC 39 #[.pointer (some ⟨b, 0, none⟩)] #[] l cur c w (SumK w b cur c l) (AcOw b) where
  call := fun k wx hk hb ok ht hE ⟨v, hr⟩ => by
    obtain ⟨hV, _, _⟩ := Cv.num ok hv hE
    refine (A.prod_any w.heap.size b v (70 + k) _ _ _ _ _ wx hr.acc hr.bl.size rfl (u64_of_nat (hf k)) rfl (u64_of_nat hV) (spl_am hb) (Cv.splV ok hv hE) (by omega)).mono ?_
    rintro e w' ⟨rfl, v', hd⟩
    refine ⟨rfl, ⟨v', ?_⟩, hd.wrote.size, fun x hx hn => ?_⟩
    · have := hr.did hd
      have e1 : max (70 + k) 70 + 1 = 70 + (k + 1) := by omega
      rw [e1] at this
      have e2 : (⟨0, wsI cur c (l.take k)⟩ : A.St).merge (A.prodS ((l.getD k flw0).am : Int) (c.V (l.getD k flw0).day : Int)) = ⟨0, wsI cur c (l.take (k + 1))⟩ := by
        rw [wsI_next hk, ctI_yes ht, merge_s0 rfl]; unfold prI; rfl
      rw [e2] at this
      exact this
    · rw [acOw_ft hr.acc] at hn
      refine ⟨hd.wrote.block x hx hn, fun h => ?_⟩
      rw [acOw_ft hd.acc] at h
      rcases h with h | h
      · exact hn (Or.inl h)
      · rcases hd.new x h with h2 | h2
        · exact hn (Or.inr h2)
        · omega
  skip := fun k wx hk ht ⟨v, hr⟩ => ⟨v, by
    have := hr.mono (L' := 70 + (k + 1)) (by omega)
    rw [wsI_next hk, ctI_no ht, Int.add_zero]
    exact this⟩
  stay := fun k wx wy ⟨v, hr⟩ hb => ⟨⟨v, hr.acc.below hb, hr.bl.trans (hb.mono hr.bl.size)⟩, fun x h => by
    rw [acOw_ft (hr.acc.below hb)] at h
    rw [acOw_ft hr.acc]; exact h⟩
  low := fun k wx ⟨v, hr⟩ => hr.bl
  lt := fun k wx x ⟨v, hr⟩ h => by
    rw [acOw_ft hr.acc] at h
    exact (hr.acc.base x h).2

structure OfP (l : List Flw) (cur : Int) (c : Cv) (N : Nat) (E : Int) (w : World) (e : Ending) (w' : World) : Prop where
  bad : E ≠ 0 → e = .returned (.tuple #[.pointer none, .int .i64 E])
  ok : E = 0 → ∃ g, e = .returned (.tuple #[.pointer (some ⟨g, 0, none⟩), .int .i64 0]) ∧ WAt w' g (wsI cur c l) (70 + N)
  bl : Below w.heap.size w w'
set_option maxRecDepth 20000 in
set_option maxHeartbeats 3200000 in
theorem xOf_go (l : List Flw) (cur : Int) (c : Cv) (pl : Option Addr) (bl ol cl N : Nat) (pd pf : Option Addr) (bd od cd b2 o2 cf : Nat) (w : World) (E : Int) (hE : VisR l cur c E) (hl : JSrc aF w pl bl ol l) (hN : l.length = N) (hNb : N ≤ 30000) (hf : FitJ l) (hs : TFl w pd pf bd od b2 o2 c.ds c.fs) :
    Calls Tryz.prog 13 #[.slice pl N cl, .int .i64 cur, .agg #[.int .i64 c.base, .int .i64 c.kind, .slice pd c.ds.length cd, .slice pf c.fs.length cf]] w fun e w' => OfP l cur c N E w e w' := by
  have HK := hideS (vboxA_at w c.base c.kind (.slice pd c.ds.length cd) (.slice pf c.fs.length cf))
  have HN := hideS fun wx (hb : Below w.heap.size w wx) => A.new_any wx w.heap.size hb.size
  have HV := hideS fun b wx (hi : SumK w b cur c l 0 wx) => visit_any 39 #[.pointer (some ⟨b, 0, none⟩)] #[] l cur c pl bl ol cl N pd pf bd od cd b2 o2 cf (SumK w b cur c l) (AcOw b) w wx E hE hl hN (by omega) hf hs enter_prod (prod_tk (by omega) hf hs.f) hi
  have HNl := hideS hN
  clear hE hl hN hf hs
  generalize Value.slice pd c.ds.length cd = vd at *
  generalize Value.slice pf c.fs.length cf = vf at *
  have hmk := make_fnP
  go_enter Tryz.func13, Tryz.ntmps13
  go_wp2_with fail
  refine (HN.out _ HK.out.bl).mono ?_
  rintro e w2 ⟨rfl, ha2, hb2⟩
  have HK2 := hideS (HK.out.step hb2)
  have HI : Hid (SumK w (w.alloc (.cells #[.int .i64 c.base, .int .i64 c.kind, vd, vf] 26)).heap.size cur c l 0 w2) := ⟨_, ha2.mono (by omega), HK2.out.bl⟩
  clear ha2 hb2 HN HK
  obtain ⟨b, hb⟩ : ∃ b, (w.alloc (.cells #[.int .i64 c.base, .int .i64 c.kind, vd, vf] 26)).heap.size = b := ⟨_, rfl⟩
  rw [hb] at HI ⊢
  clear hb
  have t0 := HK2.out.t0
  have t1 := HK2.out.t1
  have t2 := HK2.out.t2
  have t3 := HK2.out.t3
  go_wp2_with fail
  refine (HV.out b _ HI.out).mono ?_
  rintro e w3 ⟨rfl, k, hk, hz⟩
  obtain ⟨v, hr⟩ := hk
  have HR := hideS hr
  have HZ := hideS hz
  clear hr hz HV t0 t1 t2 t3 hmk HK2 HI
  by_cases h0 : E = 0
  · subst h0
    have HW := hideS (wat_new (accLow (B' := 0) HR.out.acc (fun _ _ => Nat.zero_le _)))
    have HB := hideS (HR.out.bl.alloc HR.out.bl.size (.cells #[.pointer (some ⟨b, 0, none⟩)] 55))
    go_wp2_with fail
    go_ret2
    refine ⟨fun h => absurd rfl h, fun _ => ⟨_, rfl, ?_⟩, HB.out⟩
    have e1 := HZ.out trivial
    have := HW.out
    rw [e1, ← HNl.out, List.take_length, HNl.out] at this
    exact this
  · have d1 : (E != 0) = true := bne_iff_ne.2 h0
    have HE := hideS h0
    clear h0
    go_wp2_with fail
    go_ret2
    exact ⟨fun _ => rfl, fun h => absurd h HE.out, HR.out.bl⟩
theorem xOf_bad (l : List Flw) (cur : Int) (c : Cv) (pl : Option Addr) (bl ol cl N : Nat) (pd pf : Option Addr) (bd od cd b2 o2 cf : Nat) (w : World) (E : Int) (hE : VisR l cur c E) (h0 : E ≠ 0) (hl : JSrc aF w pl bl ol l) (hN : l.length = N) (hNb : N ≤ 30000) (hf : FitJ l) (hs : TFl w pd pf bd od b2 o2 c.ds c.fs) :
    Calls Tryz.prog 13 #[.slice pl N cl, .int .i64 cur, .agg #[.int .i64 c.base, .int .i64 c.kind, .slice pd c.ds.length cd, .slice pf c.fs.length cf]] w fun e w' => e = .returned (.tuple #[.pointer none, .int .i64 E]) ∧ Below w.heap.size w w' :=
  (xOf_go l cur c pl bl ol cl N pd pf bd od cd b2 o2 cf w E hE hl hN hNb hf hs).mono fun _ _ h => ⟨h.bad h0, h.bl⟩
theorem xOf_ok (l : List Flw) (cur : Int) (c : Cv) (pl : Option Addr) (bl ol cl N : Nat) (pd pf : Option Addr) (bd od cd b2 o2 cf : Nat) (w : World) (h0 : FineP l cur c) (hl : JSrc aF w pl bl ol l) (hN : l.length = N) (hf : FitJ l) (hs : TFl w pd pf bd od b2 o2 c.ds c.fs) :
    Calls Tryz.prog 13 #[.slice pl N cl, .int .i64 cur, .agg #[.int .i64 c.base, .int .i64 c.kind, .slice pd c.ds.length cd, .slice pf c.fs.length cf]] w fun e w' => ∃ g, e = .returned (.tuple #[.pointer (some ⟨g, 0, none⟩), .int .i64 0]) ∧ WAt w' g (wsI cur c l) (70 + N) ∧ Below w.heap.size w w' :=
  (xOf_go l cur c pl bl ol cl N pd pf bd od cd b2 o2 cf w 0 (fine_visR h0) hl hN (by have := h0.len; omega) hf hs).mono fun _ _ h => by
    obtain ⟨g, e, h'⟩ := h.ok rfl
    exact ⟨g, e, h', h.bl⟩
noncomputable def preV (l : List Flw) (cur : Int) (c : Cv) : Nat := tldV (valF (wsI cur c l))
noncomputable def preE (l : List Flw) (cur : Int) (c : Cv) : Int := tldE (valF (wsI cur c l))
theorem valF_lt (N : Int) : valF N < 18446744073709551616 := by
  unfold valF joinN
  have := nearR_le N.natAbs (-2148)
  split
  · omega
  · split <;> omega
set_option maxRecDepth 20000 in
set_option maxHeartbeats 3200000 in
theorem xPre_bad (l : List Flw) (cur : Int) (c : Cv) (pl : Option Addr) (bl ol cl N : Nat) (pd pf : Option Addr) (bd od cd b2 o2 cf : Nat) (w : World) (E : Int) (hE : VisR l cur c E) (h0 : E ≠ 0) (hl : JSrc aF w pl bl ol l) (hN : l.length = N) (hNb : N ≤ 30000) (hf : FitJ l) (hs : TFl w pd pf bd od b2 o2 c.ds c.fs) :
    Calls Tryz.prog 15 #[.slice pl N cl, .int .i64 cur, .agg #[.int .i64 c.base, .int .i64 c.kind, .slice pd c.ds.length cd, .slice pf c.fs.length cf]] w fun e w' => e = .returned (.tuple #[.float .f64 0, .int .i64 E]) ∧ Below w.heap.size w w' := by
  have HK := hideS (vboxA_at w c.base c.kind (.slice pd c.ds.length cd) (.slice pf c.fs.length cf))
  have HO := hideS fun wx (hb : Below w.heap.size w wx) => xOf_bad l cur c pl bl ol cl N pd pf bd od cd b2 o2 cf wx E hE h0 (hl.below hb) hN hNb hf (hs.below hb)
  clear hE hl hN hf hs
  generalize Value.slice pd c.ds.length cd = vd at *
  generalize Value.slice pf c.fs.length cf = vf at *
  have d1 : (E != 0) = true := bne_iff_ne.2 h0
  clear h0
  go_enter Tryz.func15, Tryz.ntmps15
  go_wp2_with fail
  refine (HO.out _ HK.out.bl).mono ?_
  rintro e w2 ⟨rfl, hb2⟩
  have HK2 := hideS (HK.out.step hb2)
  clear hb2 HK HO
  go_wp2_with fail
  go_ret2
  exact ⟨rfl, HK2.out.bl⟩
set_option maxRecDepth 20000 in
set_option maxHeartbeats 3200000 in
theorem xPre_ok (l : List Flw) (cur : Int) (c : Cv) (pl : Option Addr) (bl ol cl N : Nat) (pd pf : Option Addr) (bd od cd b2 o2 cf : Nat) (w : World) (h0 : FineP l cur c) (hl : JSrc aF w pl bl ol l) (hN : l.length = N) (hf : FitJ l) (hs : TFl w pd pf bd od b2 o2 c.ds c.fs) :
    Calls Tryz.prog 15 #[.slice pl N cl, .int .i64 cur, .agg #[.int .i64 c.base, .int .i64 c.kind, .slice pd c.ds.length cd, .slice pf c.fs.length cf]] w fun e w' => e = .returned (.tuple #[.float .f64 (preV l cur c), .int .i64 (preE l cur c)]) ∧ Below w.heap.size w w' := by
  have HK := hideS (vboxA_at w c.base c.kind (.slice pd c.ds.length cd) (.slice pf c.fs.length cf))
  have HO := hideS fun wx (hb : Below w.heap.size w wx) => xOf_ok l cur c pl bl ol cl N pd pf bd od cd b2 o2 cf wx h0 (hl.below hb) hN hf (hs.below hb)
  have HNu := hideS fun wx => xNumber_any (valF (wsI cur c l)) wx (u64_of_nat (valF_lt _))
  have HL : Hid (N ≤ 4096) := by show _ ≤ _; have := h0.len; omega
  unfold preV preE
  clear h0 hl hN hf hs
  generalize wsI cur c l = S at *
  obtain ⟨x, hx⟩ : ∃ x, valF S = x := ⟨_, rfl⟩
  have HX := hideS hx
  rw [hx] at HNu ⊢
  clear hx
  generalize Value.slice pd c.ds.length cd = vd at *
  generalize Value.slice pf c.fs.length cf = vf at *
  go_enter Tryz.func15, Tryz.ntmps15
  go_wp2_with fail
  refine (HO.out _ HK.out.bl).mono ?_
  rintro e w2 ⟨g, rfl, hw, hb2⟩
  have HK2 := hideS (HK.out.step hb2)
  obtain ⟨b, v, c0, ha⟩ := hw.at_
  have HVa := hideS (WAt.value ha (by have := HL.out; omega))
  rw [HX.out] at HVa
  clear hb2 HK HO hw ha
  go_wp2_with fail
  refine HVa.out.mono ?_
  rintro e w3 ⟨rfl, hb3⟩
  have HK3 := hideS (HK2.out.step hb3)
  clear hb3 HK2 HVa c0
  go_wp2_with (go_at_call 43; refine (HNu.out _).mono ?_; rintro e w' ⟨rfl, rfl⟩)
  go_ret2
  exact ⟨rfl, HK3.out.bl⟩
inductive PreR (l : List Flw) (cur : Int) (c : Cv) : Nat → Int → Prop
  | bad (E : Int) (h : VisR l cur c E) (hE : E ≠ 0) : PreR l cur c 0 E
  | ok (h : FineP l cur c) : PreR l cur c (preV l cur c) (preE l cur c)
theorem preR_ex (l : List Flw) (cur : Int) (c : Cv) : ∃ V E, PreR l cur c V E := by
  obtain ⟨E, h⟩ := visR_ex l cur c
  by_cases h0 : E = 0
  · subst h0; exact ⟨_, _, .ok (visR_fine h)⟩
  · exact ⟨0, E, .bad E h h0⟩
theorem xPre_any (l : List Flw) (cur : Int) (c : Cv) (pl : Option Addr) (bl ol cl N : Nat) (pd pf : Option Addr) (bd od cd b2 o2 cf : Nat) (w : World) (V : Nat) (E : Int) (h : PreR l cur c V E) (hl : JSrc aF w pl bl ol l) (hN : l.length = N) (hNb : N ≤ 30000) (hf : FitJ l) (hs : TFl w pd pf bd od b2 o2 c.ds c.fs) :
    Calls Tryz.prog 15 #[.slice pl N cl, .int .i64 cur, .agg #[.int .i64 c.base, .int .i64 c.kind, .slice pd c.ds.length cd, .slice pf c.fs.length cf]] w fun e w' => e = .returned (.tuple #[.float .f64 V, .int .i64 E]) ∧ Below w.heap.size w w' := by
  cases h with
  | bad E h hE => exact xPre_bad l cur c pl bl ol cl N pd pf bd od cd b2 o2 cf w E h hE hl hN hNb hf hs
  | ok h => exact xPre_ok l cur c pl bl ol cl N pd pf bd od cd b2 o2 cf w h hl hN hf hs
theorem preR_fine {l : List Flw} {cur : Int} {c : Cv} {V : Nat} (h : PreR l cur c V 0) : FineP l cur c ∧ V = valF (wsI cur c l) ∧ finB (V : Nat) = true := by
  generalize hz : (0 : Int) = z at h
  cases h with
  | bad E h hE => exact absurd hz.symm hE
  | ok h =>
    refine ⟨h, ?_⟩
    unfold preE tldE at hz
    unfold preV tldV
    cases hb : finB (valF (wsI cur c l) : Int)
    · rw [hb] at hz; cases hz
    · rw [if_pos rfl]; exact ⟨rfl, hb⟩
structure TwoB (w : World) (a p : Int) (vd vf : Value) (b q : Int) (ud uf : Value) (wr : World) : Prop where
  k1 : BxK wr w.heap.size a p vd vf
  k2 : BxK wr (w.heap.size + 1) b q ud uf
  bl : Below w.heap.size w wr
theorem TwoB.step {w wr w' : World} {a p b q : Int} {vd vf ud uf : Value} (h : TwoB w a p vd vf b q ud uf wr) (hb : Below wr.heap.size wr w') : TwoB w a p vd vf b q ud uf w' := ⟨h.k1.step hb, h.k2.step hb, h.bl.trans (hb.mono h.bl.size)⟩
theorem BxK.drewN {w : World} {g : Nat} {base kind : Int} {vd vf : Value} (h : BxK w g base kind vd vf) (m : Nat) : BxK (w.drewN m) g base kind vd vf := ⟨h.blk⟩
theorem TwoB.drewN {w wr : World} {a p b q : Int} {vd vf ud uf : Value} (h : TwoB w a p vd vf b q ud uf wr) (m : Nat) : TwoB w a p vd vf b q ud uf (wr.drewN m) := ⟨h.k1.drewN m, h.k2.drewN m, ⟨h.bl.os, h.bl.tape, h.bl.output, h.bl.size, h.bl.block⟩⟩
theorem twoB_at (w : World) (a p : Int) (vd vf : Value) (b q : Int) (ud uf : Value) : TwoB w a p vd vf b q ud uf ((w.alloc (.cells #[.int .i64 a, .int .i64 p, vd, vf] 26)).alloc (.cells #[.int .i64 b, .int .i64 q, ud, uf] 26)) := by
  have s1 : (w.alloc (.cells #[.int .i64 a, .int .i64 p, vd, vf] 26)).heap.size = w.heap.size + 1 := by simp
  have k := bxK_at w a p vd vf
  refine ⟨k.step ((Below.refl _ _).alloc (Nat.le_refl _) _), ?_, ((Below.refl _ _).alloc (Nat.le_refl _) _).alloc (by rw [s1]; omega) _⟩
  rw [← s1]; exact bxK_at _ b q ud uf
end Go.Proofs.YtkcnkhdbojdhgaaGreat
namespace Go.Proofs.YtkcnkhdbojdhgaaGreat
open Go.RowKit

theorem numB_fin {x : Nat} (h : finB (x : Int) = true) : NumB x := by
  unfold finB at h
  rw [decide_eq_true_eq] at h
  unfold szI at h
  unfold NumB
  omega
theorem prodS_vI {x y : Nat} (hx : x < 18446744073709551616) (fx : finB (x : Int) = true) (hy : y < 18446744073709551616) (fy : finB (y : Int) = true) : (A.prodS (x : Int) (y : Int)).N = vI x * vI y := by
  have h := prodG_num hx (numB_fin fx) hy (numB_fin fy)
  unfold A.prodG at h
  have e1 : splOk (x : Int) = true := fx
  have e2 : splOk (y : Int) = true := fy
  rw [e1, e2] at h
  simp only [Bool.and_self, if_true] at h
  rw [h]
theorem fitJ_mem {l : List Flw} (hf : FitJ l) {f : Flw} (h : f ∈ l) : f.am < 18446744073709551616 := by
  obtain ⟨i, _, rfl⟩ := mem_getDF h
  exact hf i
theorem prI_vI {l : List Flw} {cur : Int} {c : Cv} (h : FineP l cur c) (hf : FitJ l) (hv : c.Fit) {f : Flw} (hm : f ∈ l) (ht : tkB cur c.base f = true) : prI c f = vI f.am * vI (c.V f.day) :=
  prodS_vI (fitJ_mem hf hm) (bad_am (h.bad f hm)) (Cv.num h.ok hv (h.fac f hm ht)).1 (facV_fin h.ok hv (h.fac f hm ht))
theorem fac_up {c : Cv} {x : Int} (ok : c.Ok) (hv : c.Fit) (h : c.E x = 0) : 0 ≤ vI (c.V x) := by
  obtain ⟨a, b, _⟩ := Cv.num ok hv h
  rcases vI_rank a (numB_fin (facV_fin ok hv h)) with ⟨_, e, _⟩ | ⟨d, _, _⟩
  · rw [e]; omega
  · omega
theorem am_up {x : Nat} (h : x < 18446744073709551616) (hn : finB (x : Int) = true) (h0 : 0 ≤ rankI (x : Nat)) : 0 ≤ vI x := by
  rcases vI_rank h (numB_fin hn) with ⟨_, e, _⟩ | ⟨_, e, r⟩
  · rw [e]; omega
  · have : x % 9223372036854775808 = 0 := by omega
    rw [e, this, V_zero]; decide
theorem wsI_le {cur : Int} {c d : Cv} : ∀ {l : List Flw}, (∀ f ∈ l, ctI cur c f ≤ ctI cur d f) → wsI cur c l ≤ wsI cur d l
  | [], _ => Int.le_refl _
  | f :: l, h => Int.add_le_add (h f (List.mem_cons_self ..)) (wsI_le (l := l) (fun g hg => h g (List.mem_cons_of_mem _ hg)))
theorem wsI_pos {cur : Int} {c : Cv} : ∀ {l : List Flw}, (∀ f ∈ l, 0 ≤ ctI cur c f) → 0 ≤ wsI cur c l
  | [], _ => Int.le_refl _
  | f :: l, h => Int.add_nonneg (h f (List.mem_cons_self ..)) (wsI_pos (l := l) (fun g hg => h g (List.mem_cons_of_mem _ hg)))
theorem ws_up {l : List Flw} {cur : Int} {c : Cv} (h : FineP l cur c) (hf : FitJ l) (hv : c.Fit) (ha : ∀ f ∈ l, 0 ≤ rankI (f.am : Nat)) : 0 ≤ wsI cur c l :=
  wsI_pos fun f hm => by
    by_cases ht : tkB cur c.base f = true
    · rw [ctI_yes ht, prI_vI h hf hv hm ht]
      exact Int.mul_nonneg (am_up (fitJ_mem hf hm) (bad_am (h.bad f hm)) (ha f hm)) (fac_up h.ok hv (h.fac f hm ht))
    · rw [ctI_no (by simpa using ht)]; exact Int.le_refl _
theorem ws_sink {l : List Flw} {cur : Int} {c d : Cv} (h : FineP l cur c) (h' : FineP l cur d) (hb : c.base = d.base) (hf : FitJ l) (hv : c.Fit) (hv' : d.Fit) (ha : ∀ f ∈ l, 0 ≤ rankI (f.am : Nat)) (hr : ∀ f ∈ l, tkB cur c.base f = true → rankI (c.V f.day : Nat) ≤ rankI (d.V f.day : Nat)) : wsI cur c l ≤ wsI cur d l :=
  wsI_le fun f hm => by
    by_cases ht : tkB cur c.base f = true
    · have ht' : tkB cur d.base f = true := hb ▸ ht
      have e1 := h.fac f hm ht
      have e2 := h'.fac f hm ht'
      rw [ctI_yes ht, ctI_yes ht', prI_vI h hf hv hm ht, prI_vI h' hf hv' hm ht']
      exact Int.mul_le_mul_of_nonneg_left ((rank_le_iff (numB_fin (facV_fin h.ok hv e1)) (numB_fin (facV_fin h'.ok hv' e2)) (Cv.num h.ok hv e1).1 (Cv.num h'.ok hv' e2).1).1 (hr f hm ht)) (am_up (fitJ_mem hf hm) (bad_am (h.bad f hm)) (ha f hm))
    · have ht' : tkB cur d.base f = false := by rw [← hb]; simpa using ht
      rw [ctI_no (by simpa using ht), ctI_no ht']; exact Int.le_refl _
theorem valF_rank (N : Int) : RkW (valF N) (rndI N (-2148)) := rank_join N (-2148)
theorem valF_up {N : Int} (h : 0 ≤ N) : 0 ≤ rankI (valF N : Nat) := by
  rw [(valF_rank N).1]
  have := rnd_mono (-2148) h
  unfold rndI at this
  rw [if_pos rfl] at this
  exact this
theorem valF_mono {N M : Int} (h : N ≤ M) : rankI (valF N : Nat) ≤ rankI (valF M : Nat) := by
  rw [(valF_rank N).1, (valF_rank M).1]; exact rnd_mono _ h
end Go.Proofs.YtkcnkhdbojdhgaaGreat
namespace Go.Proofs.YtkcnkhdbojdhgaaGreat
open Go.RowKit

theorem enter_flat (args : Array Value) (w : World) : (callFunc 45 args).run Tryz.prog w = .ok (.enter 45 args) w := enter_of Tryz.func45 (by kernel_rfl) rfl args w
noncomputable def flO (cur : Int) (c : Cv) (l : List Flw) : Nat → Option Nat
  | 0 => some 0
  | k + 1 => if tkB cur c.base (l.getD k flw0) = true then opO .add (flO cur c l k) (opO .mul (some (l.getD k flw0).am) (some (c.V (l.getD k flw0).day))) else flO cur c l k
def gdO (o : Option Nat) : Nat := o.getD 9221120237041090561
theorem told_ag {o : Option Nat} {x : Nat} (h : AgU o x) : tldV x = tldV (gdO o) ∧ tldE x = tldE (gdO o) := by
  cases o with
  | some r => rw [ag_some h.1]; exact ⟨rfl, rfl⟩
  | none =>
    have h1 : finB (x : Int) = false := fin_nan (ag_none h.1).1
    have h2 : finB ((9221120237041090561 : Nat) : Int) = false := by decide
    rw [show gdO none = 9221120237041090561 from rfl]
    unfold tldV tldE
    rw [h1, h2]
    exact ⟨rfl, rfl⟩
set_option maxHeartbeats 1600000 in
theorem flat_lit (s x a f : Nat) (o : Option Nat) (w : World) (hs : w.heap[s]? = some (.cells #[.float .f64 x] 45)) (hx : AgU o x) (ha : a < 18446744073709551616) (hf : f < 18446744073709551616) :
    Calls Tryz.prog 45 #[.float .f64 a, .float .f64 f, .pointer (some ⟨s, 0, none⟩)] w fun e w' => e = .returned (.tuple #[]) ∧ ∃ y q, AgU (opO .add o (opO .mul (some a) (some f))) y ∧ w' = (w.drewN q).setCell ⟨s, 0, none⟩ (.float .f64 y) := by
  have c0 : w.cell? ⟨s, 0, none⟩ = some (.float .f64 x) := by simp [World.cell?, hs]
  obtain ⟨r, ⟨q, h1⟩, g⟩ := op_prog .mul (by simp) 45 (agU_some ha) (agU_some hf) w
  obtain ⟨y, ⟨q', h2⟩, g'⟩ := op_prog .add (by simp) 45 hx g (w.drewN q)
  have HG := hideS g'
  have z0 : w.frozen? ⟨s, 0, none⟩ = false := by simp [World.frozen?, hs]
  have hst := store_flj
  clear g g' hx ha hf hs
  go_enter Tryz.func45, Tryz.ntmps45
  go_wp2_with fail
  go_end0
  exact ⟨rfl, y, q + q', HG.out, rfl⟩
def FlK (w : World) (s : Nat) (cur : Int) (c : Cv) (l : List Flw) (k : Nat) (wx : World) : Prop := ∃ x, wx.heap[s]? = some (.cells #[.float .f64 x] 45) ∧ AgU (flO cur c l k) x ∧ Below w.heap.size w wx ∧ w.heap.size ≤ s
theorem flat_tk {l : List Flw} {cur : Int} {c : Cv} {w : World} {s : Nat} (hf : FitJ l) (hv : c.Fit) : TkC 45 #[] #[.pointer (some ⟨s, 0, none⟩)] l cur c w (FlK w s cur c l) (fun _ x => x = s) where
  call := fun k wx hk hb ok ht hE ⟨x, h1, h2, h3, h4⟩ => by
    obtain ⟨hV, _, _⟩ := Cv.num ok hv hE
    refine (flat_lit s x _ _ _ wx h1 h2 (hf k) hV).mono ?_
    rintro e w' ⟨rfl, y, q, g, rfl⟩
    have hd : (wx.drewN q).heap[s]? = some (.cells #[.float .f64 x] 45) := h1
    have hb2 : Below s (wx.drewN q) ((wx.drewN q).setCell ⟨s, 0, none⟩ (.float .f64 y)) := (Below.refl _ _).setCell (p := ⟨s, 0, none⟩) (Nat.le_refl _) _
    have hB : Below w.heap.size w ((wx.drewN q).setCell ⟨s, 0, none⟩ (.float .f64 y)) := (⟨h3.os, h3.tape, h3.output, h3.size, h3.block⟩ : Below w.heap.size w (wx.drewN q)).trans (hb2.mono h4)
    refine ⟨rfl, ⟨y, ?_, ?_, hB, h4⟩, hb2.size, fun z hz hn => ⟨Below.heap_setCell (wx.drewN q) ⟨s, 0, none⟩ _ z hn, hn⟩⟩
    · exact set_blockJ _ hd
    · unfold flO; rw [if_pos ht]; exact g
  skip := fun k wx hk ht ⟨x, h1, h2, h3, h4⟩ => ⟨x, h1, by unfold flO; rw [ht]; exact h2, h3, h4⟩
  stay := fun k wx wy ⟨x, h1, h2, h3, h4⟩ hb => ⟨⟨x, (hb.block s (Array.getElem?_eq_some_iff.1 h1).1).trans h1, h2, h3.trans (hb.mono h3.size), h4⟩, fun _ h => h⟩
  low := fun k wx ⟨x, h1, h2, h3, h4⟩ => h3
  lt := fun k wx x ⟨y, h1, h2, h3, h4⟩ h => by subst h; exact (Array.getElem?_eq_some_iff.1 h1).1
noncomputable def flaV (l : List Flw) (cur : Int) (c : Cv) : Nat := tldV (gdO (flO cur c l l.length))
noncomputable def flaE (l : List Flw) (cur : Int) (c : Cv) : Int := tldE (gdO (flO cur c l l.length))
structure FlP (l : List Flw) (cur : Int) (c : Cv) (E : Int) (w : World) (e : Ending) (w' : World) : Prop where
  bad : E ≠ 0 → e = .returned (.tuple #[.float .f64 0, .int .i64 E])
  ok : E = 0 → e = .returned (.tuple #[.float .f64 (flaV l cur c), .int .i64 (flaE l cur c)])
  bl : Below w.heap.size w w'
set_option maxRecDepth 20000 in
set_option maxHeartbeats 3200000 in
theorem xFlat_go (l : List Flw) (cur : Int) (c : Cv) (pl : Option Addr) (bl ol cl N : Nat) (pd pf : Option Addr) (bd od cd b2 o2 cf : Nat) (w : World) (E : Int) (hE : VisR l cur c E) (hl : JSrc aF w pl bl ol l) (hN : l.length = N) (hNb : N ≤ 30000) (hf : FitJ l) (hs : TFl w pd pf bd od b2 o2 c.ds c.fs) :
    Calls Tryz.prog 17 #[.slice pl N cl, .int .i64 cur, .agg #[.int .i64 c.base, .int .i64 c.kind, .slice pd c.ds.length cd, .slice pf c.fs.length cf]] w fun e w' => FlP l cur c E w e w' := by
  have HK := hideS (vboxA_at w c.base c.kind (.slice pd c.ds.length cd) (.slice pf c.fs.length cf))
  have HV := hideS fun b wx (hi : FlK w b cur c l 0 wx) => visit_any 45 #[] #[.pointer (some ⟨b, 0, none⟩)] l cur c pl bl ol cl N pd pf bd od cd b2 o2 cf (FlK w b cur c l) (fun _ x => x = b) w wx E hE hl hN (by omega) hf hs enter_flat (flat_tk hf hs.f) hi
  have HNl := hideS hN
  clear hE hl hN hf hs
  generalize Value.slice pd c.ds.length cd = vd at *
  generalize Value.slice pf c.fs.length cf = vf at *
  obtain ⟨w2, hw2⟩ : ∃ w2, w.alloc (.cells #[.int .i64 c.base, .int .i64 c.kind, vd, vf] 26) = w2 := ⟨_, rfl⟩
  rw [hw2] at HK
  have HK3 := hideS (HK.out.step ((Below.refl w2.heap.size w2).alloc (Nat.le_refl _) (.cells #[.float .f64 0] 45)))
  have HI : Hid (FlK w w2.heap.size cur c l 0 (w2.alloc (.cells #[.float .f64 0] 45))) := ⟨0, heap_alloc_new _ _, agU_some (by decide), HK3.out.bl, HK.out.bl.size⟩
  have hmk := make_fnP
  have hst := store_flj
  obtain ⟨s, hs⟩ : ∃ s, w2.heap.size = s := ⟨_, rfl⟩
  rw [hs] at HI
  have t0 := HK3.out.t0
  have t1 := HK3.out.t1
  have t2 := HK3.out.t2
  have t3 := HK3.out.t3
  clear HK
  go_enter Tryz.func17, Tryz.ntmps17
  go_wp2_with fail
  clear hw2 hs hst hmk t0 t1 t2 t3
  refine (HV.out s _ HI.out).mono ?_
  rintro e w4 ⟨rfl, k, hk, hz⟩
  obtain ⟨x, h1, h2, h3, h4⟩ := hk
  have c0 : w4.cell? ⟨s, 0, none⟩ = some (.float .f64 x) := by simp [World.cell?, h1]
  have HNu := hideS fun wx => xNumber_any x wx h2.u
  have HTo := hideS (told_ag h2)
  have HB := hideS h3
  have HZ := hideS hz
  clear h1 h2 h3 h4 hz HV HI
  by_cases h0 : E = 0
  · subst h0
    have HT : Hid (tldV x = flaV l cur c ∧ tldE x = flaE l cur c) := by
      have e1 := HZ.out rfl
      have := HTo.out
      rw [e1, ← HNl.out] at this
      exact this
    rw [HT.out.1, HT.out.2] at HNu
    go_wp2_with (go_at_call 43; refine (HNu.out _).mono ?_; rintro e w' ⟨rfl, rfl⟩)
    go_ret2
    exact ⟨fun h => absurd rfl h, fun _ => rfl, HB.out⟩
  · have d1 : (E != 0) = true := bne_iff_ne.2 h0
    have HE := hideS h0
    clear h0
    go_wp2_with fail
    go_ret2
    exact ⟨fun _ => rfl, fun h => absurd h HE.out, HB.out⟩
theorem xFlat_ok (l : List Flw) (cur : Int) (c : Cv) (pl : Option Addr) (bl ol cl N : Nat) (pd pf : Option Addr) (bd od cd b2 o2 cf : Nat) (w : World) (h0 : FineP l cur c) (hl : JSrc aF w pl bl ol l) (hN : l.length = N) (hf : FitJ l) (hs : TFl w pd pf bd od b2 o2 c.ds c.fs) :
    Calls Tryz.prog 17 #[.slice pl N cl, .int .i64 cur, .agg #[.int .i64 c.base, .int .i64 c.kind, .slice pd c.ds.length cd, .slice pf c.fs.length cf]] w fun e w' => e = .returned (.tuple #[.float .f64 (flaV l cur c), .int .i64 (flaE l cur c)]) ∧ Below w.heap.size w w' :=
  (xFlat_go l cur c pl bl ol cl N pd pf bd od cd b2 o2 cf w 0 (fine_visR h0) hl hN (by have := h0.len; omega) hf hs).mono fun _ _ h => ⟨h.ok rfl, h.bl⟩
end Go.Proofs.YtkcnkhdbojdhgaaGreat
namespace Go.Proofs.YtkcnkhdbojdhgaaGreat
open Go.RowKit

theorem xSmall_any (base kind : Int) (pl pd pf : Option Addr) (N cl D cd F cf : Nat) (w : World) :
    Calls Tryz.prog 9 #[.slice pl N cl, .agg #[.int .i64 base, .int .i64 kind, .slice pd D cd, .slice pf F cf]] w fun e w' => e = .returned (.bool (decide (N ≤ 60 ∧ D ≤ 12 ∧ F ≤ 12))) ∧ Below w.heap.size w w' := by
  have HB := hideS (vboxA_at w base kind (.slice pd D cd) (.slice pf F cf))
  have t2 := HB.out.t2
  have t3 := HB.out.t3
  by_cases h1 : N ≤ 60 <;> by_cases h2 : D ≤ 12 <;> by_cases h3 : F ≤ 12
  all_goals
    first | rw [decide_eq_true (⟨h1, h2, h3⟩ : N ≤ 60 ∧ D ≤ 12 ∧ F ≤ 12)] | rw [decide_eq_false (fun h : N ≤ 60 ∧ D ≤ 12 ∧ F ≤ 12 => by omega)]
    have f3 : decide ((F : Int) ≤ 12) = decide (F ≤ 12) := decide_eq_decide.2 (by omega)
    first | rw [decide_eq_true h3] at f3 | rw [decide_eq_false h3] at f3
    go_enter Tryz.func9, Tryz.ntmps9
    go_wp2_with fail
    go_ret
    exact ⟨rfl, HB.out.bl⟩
def xL : List Flw := [⟨50, 4616189618054758400, 1⟩, ⟨200, 4620693217682128896, 1⟩, ⟨10, 4607182418800017408, 2⟩]
def xC : Cv := ⟨0, 2, avD, avF⟩
def xObj : Obj := .cells #[.int .i64 50, .float .f64 4616189618054758400, .int .i64 1, .int .i64 200, .float .f64 4620693217682128896, .int .i64 1, .int .i64 10, .float .f64 4607182418800017408, .int .i64 2] 81
theorem xL_src (w : World) : JSrc aF (w.alloc xObj) (some ⟨w.heap.size, 0, none⟩) w.heap.size 0 xL := by
  have h := heap_alloc_new w xObj
  refine ⟨fun _ => rfl, fun _ => (Array.getElem?_eq_some_iff.1 h).1, fun i hi => ?_⟩
  have hi3 : i < 3 := hi
  unfold xObj at h
  rcases (show i = 0 ∨ i = 1 ∨ i = 2 by omega) with rfl | rfl | rfl
  all_goals
    refine ⟨?_, ?_, ?_⟩
    all_goals
      simp only [World.cell?, h, xObj, Option.isSome_none, Bool.false_eq_true, if_false]
      rfl
theorem xL_fit : FitJ xL := fun i => by
  rcases (show i = 0 ∨ i = 1 ∨ i = 2 ∨ 3 ≤ i by omega) with rfl | rfl | rfl | h
  · decide
  · decide
  · decide
  · rw [List.getD_eq_getElem?_getD, List.getElem?_eq_none (by exact h)]; decide
theorem av_lin10 : linV (ctY avF) 0 100 10 = 4606732058837280358 := by decide +kernel
theorem av_at10 : FacO 0 2 avD avF 10 4606732058837280358 0 := by
  have hI : Inside (ctX 0 avD) 10 0 100 10 := ⟨by decide, by decide, by decide, by decide, by decide⟩
  have hk : FindR (ctX 0 avD) 10 0 := ⟨by decide, by decide, fun _ => by decide⟩
  have := AtO.piece (kind := 2) (xs := ctX 0 avD) (ys := ctY avF) (x := 10) 0 100 10 av_ok.table (.at_ av_ok.table (by decide) (by decide) 0 hk (fun j hj => by omega)) hk (by decide) hI
  unfold pieV at this
  rw [if_neg (by decide), if_pos rfl, av_lin10] at this
  exact .ok av_ok _ _ this
theorem xC_50 : xC.V 50 = 4604930618986332160 ∧ xC.E 50 = 0 := facV_of av_ok av_at
theorem xC_200 : xC.V 200 = 4598175219545276416 ∧ xC.E 200 = 0 := facV_of av_ok (.ok av_ok _ _ (cur_node av_ok (i := 2) (by decide)))
theorem xC_10 : xC.V 10 = 4606732058837280358 ∧ xC.E 10 = 0 := facV_of av_ok av_at10
theorem xL_bad : ∀ f ∈ xL, badF f = 0 := by decide
theorem xL_fine1 : FineP xL 1 xC := ⟨by decide, xL_bad, by decide, av_ok, fun f hf ht => by
  simp only [xL, List.mem_cons, List.not_mem_nil, or_false] at hf
  rcases hf with rfl | rfl | rfl
  · exact xC_50.2
  · exact xC_200.2
  · exact absurd ht (by decide)⟩
theorem xL_fine2 : FineP xL 2 xC := ⟨by decide, xL_bad, by decide, av_ok, fun f hf ht => by
  simp only [xL, List.mem_cons, List.not_mem_nil, or_false] at hf
  rcases hf with rfl | rfl | rfl
  · exact absurd ht (by decide)
  · exact absurd ht (by decide)
  · exact xC_10.2⟩
def prodJ (u v : Int) : Int := splM u * splM v * ((2 ^ (splE u + splE v + 2148).toNat : Nat) : Int)
theorem prodJ_eq (u v : Int) : (A.prodS u v).N = prodJ u v := by unfold A.prodS prodJ; rw [Int.natCast_pow]; rfl
theorem xL_sum1 : wsI 1 xC xL = prodJ 4616189618054758400 4604930618986332160 + (prodJ 4620693217682128896 4598175219545276416 + (0 + 0)) := by
  have e1 : ctI 1 xC ⟨50, 4616189618054758400, 1⟩ = prodJ 4616189618054758400 4604930618986332160 := by
    unfold ctI; rw [if_pos (by decide)]; unfold prI; dsimp only; rw [xC_50.1, prodJ_eq]; rfl
  have e2 : ctI 1 xC ⟨200, 4620693217682128896, 1⟩ = prodJ 4620693217682128896 4598175219545276416 := by
    unfold ctI; rw [if_pos (by decide)]; unfold prI; dsimp only; rw [xC_200.1, prodJ_eq]; rfl
  have e3 : ctI 1 xC ⟨10, 4607182418800017408, 2⟩ = 0 := by
    unfold ctI; rw [if_neg (by decide)]
  simp only [wsI, xL]
  rw [e1, e2, e3]
theorem xL_sum2 : wsI 2 xC xL = 0 + (0 + (prodJ 4607182418800017408 4606732058837280358 + 0)) := by
  have e1 : ctI 2 xC ⟨50, 4616189618054758400, 1⟩ = 0 := by unfold ctI; rw [if_neg (by decide)]
  have e2 : ctI 2 xC ⟨200, 4620693217682128896, 1⟩ = 0 := by unfold ctI; rw [if_neg (by decide)]
  have e3 : ctI 2 xC ⟨10, 4607182418800017408, 2⟩ = prodJ 4607182418800017408 4606732058837280358 := by
    unfold ctI; rw [if_pos (by decide)]; unfold prI; dsimp only; rw [xC_10.1, prodJ_eq]; rfl
  simp only [wsI, xL]
  rw [e1, e2, e3]
theorem xL_val1 : valF (wsI 1 xC xL) = 4617315517961601024 := by rw [xL_sum1]; decide +kernel
theorem xL_val2 : valF (wsI 2 xC xL) = 4606732058837280358 ∧ A.sgnI (wsI 2 xC xL) = 1 := by rw [xL_sum2]; exact ⟨by decide +kernel, by decide +kernel⟩
theorem xL_flat : flO 1 xC xL 3 = some 4617315517961601024 := by
  have h3 : flO 1 xC xL 3 = flO 1 xC xL 2 := by
    show (if tkB 1 xC.base (xL.getD 2 flw0) = true then _ else _) = _
    rw [if_neg (by decide)]
  have h2 : flO 1 xC xL 2 = opO .add (flO 1 xC xL 1) (opO .mul (some 4620693217682128896) (some 4598175219545276416)) := by
    show (if tkB 1 xC.base (xL.getD 1 flw0) = true then _ else _) = _
    rw [if_pos (by decide), show (xL.getD 1 flw0).day = 200 from rfl, xC_200.1]; rfl
  have h1 : flO 1 xC xL 1 = opO .add (some 0) (opO .mul (some 4616189618054758400) (some 4604930618986332160)) := by
    show (if tkB 1 xC.base (xL.getD 0 flw0) = true then _ else _) = _
    rw [if_pos (by decide), show (xL.getD 0 flw0).day = 50 from rfl, xC_50.1]; rfl
  rw [h3, h2, h1]
  decide +kernel
theorem fin_five : finB ((4617315517961601024 : Nat) : Int) = true := by decide
theorem xL_pre : preV xL 1 xC = 4617315517961601024 ∧ preE xL 1 xC = 0 := by
  unfold preV preE; rw [xL_val1]; unfold tldV tldE; rw [if_pos fin_five, if_pos fin_five]; exact ⟨rfl, rfl⟩
theorem xL_fla : flaV xL 1 xC = 4617315517961601024 ∧ flaE xL 1 xC = 0 := by
  unfold flaV flaE; rw [show xL.length = 3 from rfl, xL_flat]; unfold gdO tldV tldE; rw [Option.getD_some, if_pos fin_five, if_pos fin_five]; exact ⟨rfl, rfl⟩

set_option maxRecDepth 40000 in
set_option maxHeartbeats 6400000 in
theorem awake15 (w : World) : Calls Tryz.prog 10 #[] w fun e w' => e = .returned (.bool true) ∧ Below w.heap.size w w' := by
  obtain ⟨⟨c0, c1, c2, c3⟩, fz⟩ := av3_cells w
  have z0 := fz 0
  have z1 := fz 1
  have z2 := fz 2
  have z3 := fz 3
  have HS := hideS (av3_facts w).1.1
  have HB := hideS (av4_at w)
  clear fz
  obtain ⟨w3, hw3⟩ : ∃ w3, av3 w = w3 := ⟨_, rfl⟩
  rw [hw3] at c0 c1 c2 c3 z0 z1 z2 z3 HB HS
  obtain ⟨w4, hw4⟩ : ∃ w4, av4 w w3 = w4 := ⟨_, rfl⟩
  rw [hw4] at HB
  unfold av3 avOX avOY avOT at hw3
  unfold av4 at hw4
  have q1 : (FloatKind.f64.format.order 4617315517961601024 4617315517961601024 == some .eq) = true := by kernel_rfl
  have q2 : (FloatKind.f64.format.order 4606732058837280358 4606732058837280358 == some .eq) = true := by kernel_rfl
  have HSr := hideS (xL_src w4)
  have HB5 := hideS (HB.out.step ((Below.refl _ w4).alloc (Nat.le_refl _) xObj))
  obtain ⟨w5, hw5⟩ : ∃ w5, w4.alloc xObj = w5 := ⟨_, rfl⟩
  rw [hw5] at HSr HB5
  unfold xObj at hw5
  obtain ⟨g, hg⟩ : ∃ g, w4.heap.size = g := ⟨_, rfl⟩
  rw [hg] at HSr
  have HPr : Hid (∀ wx, Below w5.heap.size w5 wx → Calls Tryz.prog 15 #[.slice (some ⟨g, 0, none⟩) 3 3, .int .i64 1, .agg #[.int .i64 0, .int .i64 2, .slice (some ⟨w.heap.size, 0, none⟩) 2 2, .slice (some ⟨w.heap.size + 1, 0, none⟩) 2 2]] wx fun e w' => e = .returned (.tuple #[.float .f64 4617315517961601024, .int .i64 0]) ∧ Below wx.heap.size wx w') := fun wx hb => by
    have := xPre_ok xL 1 xC (some ⟨g, 0, none⟩) g 0 3 3 (some ⟨w.heap.size, 0, none⟩) (some ⟨w.heap.size + 1, 0, none⟩) w.heap.size 0 2 (w.heap.size + 1) 0 2 wx xL_fine1 (HSr.out.below hb) rfl xL_fit (HB5.out.src.below hb)
    rw [xL_pre.1, xL_pre.2] at this
    exact this
  have HFl : Hid (∀ wx, Below w5.heap.size w5 wx → Calls Tryz.prog 17 #[.slice (some ⟨g, 0, none⟩) 3 3, .int .i64 1, .agg #[.int .i64 0, .int .i64 2, .slice (some ⟨w.heap.size, 0, none⟩) 2 2, .slice (some ⟨w.heap.size + 1, 0, none⟩) 2 2]] wx fun e w' => e = .returned (.tuple #[.float .f64 4617315517961601024, .int .i64 0]) ∧ Below wx.heap.size wx w') := fun wx hb => by
    have := xFlat_ok xL 1 xC (some ⟨g, 0, none⟩) g 0 3 3 (some ⟨w.heap.size, 0, none⟩) (some ⟨w.heap.size + 1, 0, none⟩) w.heap.size 0 2 (w.heap.size + 1) 0 2 wx xL_fine1 (HSr.out.below hb) rfl xL_fit (HB5.out.src.below hb)
    rw [xL_fla.1, xL_fla.2] at this
    exact this
  have HOf : Hid (∀ wx, Below w5.heap.size w5 wx → Calls Tryz.prog 13 #[.slice (some ⟨g, 0, none⟩) 3 3, .int .i64 2, .agg #[.int .i64 0, .int .i64 2, .slice (some ⟨w.heap.size, 0, none⟩) 2 2, .slice (some ⟨w.heap.size + 1, 0, none⟩) 2 2]] wx fun e w' => ∃ g, e = .returned (.tuple #[.pointer (some ⟨g, 0, none⟩), .int .i64 0]) ∧ WAt w' g (wsI 2 xC xL) 73 ∧ Below wx.heap.size wx w') := fun wx hb =>
    xOf_ok xL 2 xC (some ⟨g, 0, none⟩) g 0 3 3 (some ⟨w.heap.size, 0, none⟩) (some ⟨w.heap.size + 1, 0, none⟩) w.heap.size 0 2 (w.heap.size + 1) 0 2 wx xL_fine2 (HSr.out.below hb) rfl xL_fit (HB5.out.src.below hb)
  have HNo := hideS xNothing_any
  have t0 := HB5.out.t0
  have t1 := HB5.out.t1
  have t2 := HB5.out.t2
  have t3 := HB5.out.t3
  clear HB
  go_enter Tryz.func10, Tryz.ntmps10
  go_wp2_with fail
  clear hw3 hw4 hw5 hg c0 c1 c2 c3 z0 z1 z2 z3 t0 t1 t2 t3 HS
  refine (HPr.out _ (Below.refl _ _)).mono ?_
  rintro e w6 ⟨rfl, hb6⟩
  have HB6 := hideS (HB5.out.step hb6)
  have HL6 := hideS hb6
  clear hb6 HPr
  have t0 := HB6.out.t0
  have t1 := HB6.out.t1
  have t2 := HB6.out.t2
  have t3 := HB6.out.t3
  go_wp2_with fail
  clear t0 t1 t2 t3
  refine (HFl.out _ HL6.out).mono ?_
  rintro e w7 ⟨rfl, hb7⟩
  have HB7 := hideS (HB6.out.step hb7)
  have HL7 := hideS (HL6.out.trans (hb7.mono HL6.out.size))
  clear hb7 HFl HB6 HL6
  have t0 := HB7.out.t0
  have t1 := HB7.out.t1
  have t2 := HB7.out.t2
  have t3 := HB7.out.t3
  go_wp2_with fail
  clear t0 t1 t2 t3
  refine (HOf.out _ HL7.out).mono ?_
  rintro e w8 ⟨r, rfl, hr, hb8⟩
  have HB8 := hideS (HB7.out.step hb8).bl
  have HW8 := hideS hr
  clear hb8 hr HOf HB7 HL7
  go_wp2_with fail
  refine (HNo.out w8).mono ?_
  rintro e w9 ⟨n, rfl, hn, hb9⟩
  have HB9 := hideS (HB8.out.trans (hb9.mono HB8.out.size))
  obtain ⟨b, v, d0, ha⟩ := (HW8.out.below hb9).at_
  obtain ⟨b', v', d1, ha'⟩ := hn.at_
  have HVa := hideS (WAt.value ha (by decide))
  rw [xL_val2.1] at HVa
  have hlt := (HW8.out.below hb9).lt
  have hlt' := hn.lt
  have HSg := hideS fun wx (hb : Below w9.heap.size w9 wx) => WAt.sign (ha.below hb) (by decide)
  have HSn := hideS fun wx (hb : Below w9.heap.size w9 wx) => WAt.sign (ha'.below hb) (by decide)
  rw [xL_val2.2] at HSg
  rw [show A.sgnI 0 = 0 from by decide] at HSn
  clear hb9 hn ha ha' HW8 HB8 HNo
  go_wp2_with fail
  refine HVa.out.mono ?_
  rintro e w10 ⟨rfl, hb10⟩
  have g0 : w10.cell? ⟨r, 0, none⟩ = some (.pointer (some ⟨b, 0, none⟩)) := (hb10.cell (p := ⟨r, 0, none⟩) hlt).trans d0
  have g1 : w10.cell? ⟨n, 0, none⟩ = some (.pointer (some ⟨b', 0, none⟩)) := (hb10.cell (p := ⟨n, 0, none⟩) hlt').trans d1
  have HBx := hideS (HB9.out.trans (hb10.mono HB9.out.size))
  have HSg' := hideS (HSg.out _ hb10)
  have HSn' := hideS (HSn.out _ hb10)
  clear hb10 d0 d1 HVa HSg HSn hlt hlt'
  go_wp2_with fail
  refine HSg'.out.mono ?_
  rintro e w' ⟨rfl, rfl⟩
  go_wp2_with fail
  refine HSn'.out.mono ?_
  rintro e w' ⟨rfl, rfl⟩
  go_wp2_with fail
  go_ret
  exact ⟨rfl, HBx.out⟩
end Go.Proofs.YtkcnkhdbojdhgaaGreat
