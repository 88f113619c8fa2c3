/- The walk of FlowOrder where all may be netted. -/
import Derived.Test.YthddhgjfboeggaaWFlowOrder
namespace Go.Proofs.Ythddhgjfboeggaa
open Go.RowKit

theorem JL.nilc {w : World} {base : Nat} {v : Value} {l : List Flw} (h : w.ownsRow base 36 3 v l.length (rowF aF l)) : ∃ p g c, v = .slice p l.length c ∧ JSrc aF w p g 0 l ∧ (p = none → l.length = 0 ∧ c = 0) := by
  obtain ⟨p, g, c, e, hs, h1, h2, h3⟩ := fown_src h rfl
  subst e
  refine ⟨p, g, c, rfl, hs, fun hp => ?_⟩
  subst hp
  rcases h.2 with ⟨hv, h0⟩ | ⟨g, cap, cu, hv, _⟩
  · injection hv with _ _ hc
    exact ⟨h0, hc⟩
  · injection hv with hv _ _
    cases hv
theorem JL.exN {w : World} {v : Value} {l : List Flw} {N : Nat} (h : JL w v l) (hN : l.length = N) : ∃ p g o c, v = .slice p N c ∧ JSrc aF w p g o l := by subst hN; exact h.ex
/-- One place of the three lists. -/
structure FoC (w : World) (pa : Option Addr) (ba oa : Nat) (pd : Option Addr) (bd od : Nat) (S : List (Int × Int)) (r : List Flw) : Prop where
  a : JSrc aF w pa ba oa r
  d : JSrc aF w pd bd od (S.map fun x => (⟨x.2, 0, x.1⟩ : Flw))
theorem FoC.below {w w' : World} {pa pd : Option Addr} {ba oa bd od : Nat} {S : List (Int × Int)} {r : List Flw} (h : FoC w pa ba oa pd bd od S r) (hb : Below w.heap.size w w') : FoC w' pa ba oa pd bd od S r := ⟨h.a.below hb, h.d.below hb⟩
theorem fo_cells {w : World} {pa pd : Option Addr} {ba oa bd od : Nat} {S : List (Int × Int)} {r : List Flw} (h : FoC w pa ba oa pd bd od S r) (hl : r.length = S.length) (hk : ∀ i < S.length, keyF (r.getD i flw0) = S.getD i key0) (hr : S.Pairwise ltK) (k : Nat) (hlt : k < S.length) :
    ∃ X Y : Int, pd = some ⟨bd, od, none⟩ ∧ pa = some ⟨ba, oa, none⟩ ∧ w.cell? ⟨bd, od + k * 3, none⟩ = some (.int .i64 Y) ∧ w.cell? ⟨bd, od + k * 3 + 1, none⟩ = some (.float .f64 0) ∧ w.cell? ⟨bd, od + k * 3 + 2, none⟩ = some (.int .i64 X) ∧ w.cell? ⟨ba, oa + k * 3, none⟩ = some (.int .i64 Y) ∧ w.cell? ⟨ba, oa + k * 3 + 2, none⟩ = some (.int .i64 X) ∧
      ∀ j, j + 1 = k → ∃ X' Y' : Int, w.cell? ⟨ba, oa + j * 3, none⟩ = some (.int .i64 Y') ∧ w.cell? ⟨ba, oa + j * 3 + 2, none⟩ = some (.int .i64 X') ∧ (X' < X ∨ X' = X ∧ Y' < Y) := by
  have hS : ∀ i (hi : i < S.length), S.getD i key0 = S[i] := fun i hi => by rw [List.getD_eq_getElem?_getD, List.getElem?_eq_getElem hi]; rfl
  have hm : ∀ i, i < S.length → (S.map fun x => (⟨x.2, 0, x.1⟩ : Flw)).getD i flw0 = ⟨(S.getD i key0).2, 0, (S.getD i key0).1⟩ := fun i hi => by
    rw [List.getD_eq_getElem?_getD, List.getElem?_map, List.getElem?_eq_getElem hi, hS i hi]; rfl
  have hlm : (S.map fun x => (⟨x.2, 0, x.1⟩ : Flw)).length = S.length := List.length_map ..
  have c := h.d.cell k (by omega)
  rw [hm k hlt] at c
  have e := h.a.cell k (by omega)
  have hk0 := hk k hlt
  have e1 : (r.getD k flw0).cur = (S.getD k key0).1 := congrArg Prod.fst hk0
  have e2 : (r.getD k flw0).day = (S.getD k key0).2 := congrArg Prod.snd hk0
  have q0 := e.c0
  have q2 := e.c2
  rw [e2] at q0
  rw [e1] at q2
  refine ⟨_, _, h.d.at_ (by omega), h.a.at_ (by omega), c.c0, c.c1, c.c2, q0, q2, fun j hj => ?_⟩
  have ej := h.a.cell j (by omega)
  have hkj := hk j (by omega)
  have f1 : (r.getD j flw0).cur = (S.getD j key0).1 := congrArg Prod.fst hkj
  have f2 : (r.getD j flw0).day = (S.getD j key0).2 := congrArg Prod.snd hkj
  have p0 := ej.c0
  have p2 := ej.c2
  rw [f2] at p0
  rw [f1] at p2
  refine ⟨_, _, p0, p2, ?_⟩
  have hlt2 : ltK (S.getD j key0) (S.getD k key0) := by
    rw [hS j (by omega), hS k hlt]
    exact List.pairwise_iff_getElem.1 hr j k (by omega) hlt (by omega)
  exact hlt2

set_option maxRecDepth 100000 in
set_option maxHeartbeats 16000000 in
theorem flowOrder_ok (p : Option Addr) (b off c N : Nat) (l r : List Flw) (S : List (Int × Int)) (pp : Option Addr) (cp L : Nat) (w : World) (hl : JSrc aF w p b off l) (hN : l.length = N) (hf : FitJ l) (hnil : p = none → N = 0 ∧ c = 0) (hN2 : N ≤ 120) (HM : FoM l p c N pp L cp w) (hE : ChkF l 0 0) (hS : KeyR l S) (hr : netN l S S.length = some r) :
    Calls Try.prog 3 #[.slice p N c, .slice pp L cp] w fun e w' => e = .returned (.bool true) ∧ Below w.heap.size w w' := by
  have HAw := hideS awake14
  have HFe := hideS fun wx => few14_any p N c wx (by omega)
  rw [decide_eq_true hN2] at HFe
  obtain ⟨t1, t2, t3, t4, t5, t6, t7⟩ := net_twice hE hf hS hr
  obtain ⟨g1, g2, g3, g4⟩ := net_gone hE hf hS (by omega)
  have HN1 := hideS (foNet_some l r S (.slice p N c) w ⟨p, b, off, c, by rw [hN], hl⟩ hE hf hS hr)
  have HMx := hideS HM.mix
  have HN2 : Hid (∀ m u wx, JL wx u m → m.Perm l → Calls Try.prog 6 #[u] wx fun e w' => (∃ u, e = .returned (.tuple #[u, .int .i64 0]) ∧ JL w' u r) ∧ Below wx.heap.size wx w') := fun m u wx hj hp => by
    obtain ⟨h1, h2, h3⟩ := net_perm hp hE hf hS
    exact foNet_some m r S u wx hj h1 (fit_perm hp hf) h2 (h3.trans hr)
  have HN3 := hideS fun u wx (hj : JL wx u r) => foNet_some r r S u wx hj t1 t2 t3 t4
  have HSm := hideS fun u v wx hu hv => same14_any u v r wx hu hv (by omega) t2
  have HGi := hideS fun wx (hb : Below w.heap.size w wx) => jGive_any l p b off c N wx (hl.below hb) hN (by omega)
  have HN4 := hideS fun u wx (hj : JL wx u (l ++ l.map giveF)) => foNet_some _ _ S u wx hj g1 g2 g3 g4
  have HCe := hideS fun wx pa ba oa pd bd od (h : FoC wx pa ba oa pd bd od S r) k (hk : k < S.length) => fo_cells h t5 t7 hS.rise k hk
  have HSl := hideS (And.intro t5 t6)
  have HQl := hideS (And.intro hl (And.intro hN hnil))
  have hM : S.length ≤ 120 := by omega
  clear hl hN hf HM hE hS hr t1 t2 t3 t4 t5 t6 t7 g1 g2 g3 g4 hnil
  go_enter Try.func3, Try.ntmps3
  go_wp2_with fail
  refine (turned (HFe.out _)).mono ?_
  rintro e w0 ⟨rfl, rfl⟩
  go_wp2_with fail
  refine HN1.out.mono ?_
  rintro e w1 ⟨⟨va, rfl, ja⟩, hb1⟩
  have HB1 := hideS hb1
  have HA1 := hideS ja
  clear hb1 ja HN1
  go_wp2_with fail
  refine (HMx.out w1 HB1.out).mono ?_
  rintro e w2 ⟨⟨u, m, rfl, hj, hp⟩, hb2⟩
  have HB2 := hideS (HB1.out.trans (hb2.mono HB1.out.size))
  have HA2 := hideS (HA1.out.below hb2)
  have HNm := hideS (HN2.out m u w2 hj hp)
  clear hj hp hb2 HB1 HA1 HN2 HMx
  go_wp2_with fail
  refine HNm.out.mono ?_
  rintro e w3 ⟨⟨vb, rfl, jb⟩, hb3⟩
  have HB3 := hideS (HB2.out.trans (hb3.mono HB2.out.size))
  have HA3 := hideS (HA2.out.below hb3)
  have HJ3 := hideS jb
  clear hb3 HB2 HA2 jb HNm
  go_wp2_with fail
  refine (HN3.out va w3 HA3.out).mono ?_
  rintro e w4 ⟨⟨vc, rfl, jc⟩, hb4⟩
  have HB4 := hideS (HB3.out.trans (hb4.mono HB3.out.size))
  have HA4 := hideS (HA3.out.below hb4)
  have HJ4 := hideS (HJ3.out.below hb4)
  have HC4 := hideS jc
  clear hb4 HB3 HA3 HJ3 jc HN3
  go_wp2_with fail
  refine (HSm.out va vb w4 HA4.out HJ4.out).mono ?_
  rintro e w5 ⟨rfl, hb5⟩
  have HB5 := hideS (HB4.out.trans (hb5.mono HB4.out.size))
  have HA5 := hideS (HA4.out.below hb5)
  have HC5 := hideS (HC4.out.below hb5)
  clear hb5 HB4 HA4 HC4 HJ4
  go_wp2_with fail
  refine (HSm.out vc va w5 HC5.out HA5.out).mono ?_
  rintro e w6 ⟨rfl, hb6⟩
  have HB6 := hideS (HB5.out.trans (hb6.mono HB5.out.size))
  have HA6 := hideS (HA5.out.below hb6)
  clear hb6 HB5 HA5 HC5 HSm
  have HE := hideS (fown_empty w6)
  have HB0 := hideS ((Below.refl _ w6).alloc (Nat.le_refl _) (.cells #[] 36))
  go_wp2_with (at_builtin; refine wpList_append_flo _ rfl _ _ rfl w6.heap.size (.slice (some ⟨w6.heap.size, 0, none⟩) 0 0) 0 [] rfl HE.out p b off c N l rfl HQl.out.2.1 (HQl.out.1.below (HB6.out.trans (HB0.out.mono HB6.out.size))) HQl.out.2.2 (by omega) HB0.out.size ?_)
  intro v1 w7 ho hg
  have hb7 : Below w6.heap.size w6 w7 := HB0.out.trans (fgrown_below HE.out hg HB0.out.size)
  have HO7 := hideS ho
  have HC7 := hideS hb7
  clear ho hg hb7 HE HB0
  go_wp2_with fail
  refine (HGi.out w7 (HB6.out.trans (HC7.out.mono HB6.out.size))).mono ?_
  rintro e w8 ⟨⟨vg, rfl, hog⟩, hb8⟩
  have HO8 := hideS (fown_below HO7.out hb8)
  have HC8 := hideS (HC7.out.trans (hb8.mono HC7.out.size))
  have hlg : (l.map giveF).length = N := by rw [List.length_map]; exact HQl.out.2.1
  obtain ⟨pg, gg, cg, rfl, sg, ng⟩ := JL.nilc (l := l.map giveF) (by rw [hlg]; exact hog)
  rw [hlg] at ng ⊢
  have HG8 := hideS (And.intro sg (And.intro hlg ng))
  clear hb8 hog HO7 HC7 hlg sg ng HGi
  go_wp2_with (at_builtin; refine wpList_append_flo _ rfl _ _ rfl w6.heap.size v1 N l rfl HO8.out pg gg 0 cg N (l.map giveF) rfl HG8.out.2.1 HG8.out.1 HG8.out.2.2 (by omega) HC8.out.size ?_)
  intro v2 w9 ho2 hg2
  have HC9 := hideS (HC8.out.trans (fgrown_below HO8.out hg2 HC8.out.size))
  have HJ9 := hideS (JL.own (base := w6.heap.size) (l := l ++ l.map giveF) (w := w9) (v := v2) (by rw [List.length_append, HG8.out.2.1, HQl.out.2.1]; exact ho2))
  have HA9 := hideS (HA6.out.below HC9.out)
  have HB9 := hideS (HB6.out.trans (HC9.out.mono HB6.out.size))
  clear ho2 hg2 HO8 HG8 HC8 HC9 HA6 HB6
  go_wp2_with fail
  refine (HN4.out v2 w9 HJ9.out).mono ?_
  rintro e w10 ⟨⟨vd, rfl, jd⟩, hb10⟩
  obtain ⟨pd, bd, od, cd, rfl, sd⟩ := jd.exN (N := S.length) (by rw [List.length_map])
  obtain ⟨pa, ba, oa, ca, rfl, sa⟩ := (HA9.out.below hb10).exN HSl.out.1
  have HF10 : Hid (FoC w10 pa ba oa pd bd od S r) := ⟨sa, sd⟩
  have HB10 := hideS (HB9.out.trans (hb10.mono HB9.out.size))
  have HCk := hideS fun wx (h : FoC wx pa ba oa pd bd od S r) k hk => HCe.out wx pa ba oa pd bd od h k hk
  clear sd sa jd hb10 HA9 HB9 HJ9 HN4 HCe HSl HQl
  generalize S.length = M at *
  go_wp2_with fail
  go_loopw [13] (fun i wr => ∃ k : Nat, k ≤ M ∧ i = .int .i64 k ∧ Hid (Below w10.heap.size w10 wr)) (fun i _ => M - (intOf i).toNat)
  case atStart => exact ⟨0, Nat.zero_le _, rfl, Below.refl _ _⟩
  case round =>
    obtain ⟨k, hk, rfl, HB⟩ := hrel
    by_cases hlt : k < M
    · obtain ⟨X, Y, hpd, hpa, d0, d1, d2, a0, a2, hj⟩ := HCk.out wr (HF10.out.below HB.out) k hlt
      subst hpd hpa
      have n1 : (Y != Y) = false := by simp
      have n2 : (X != X) = false := by simp
      have i1 : ((k : Int)) < (M : Int) := by omega
      have i2 : decide ((k : Int) < (M : Int)) = true := decide_eq_true i1
      rcases Nat.eq_zero_or_pos k with h0 | h0
      · have HK := hideS h0
        have z1 : decide ((0 : Int) < (k : Int)) = false := decide_eq_false (by omega)
        have z2 : decide (0 < k) = false := decide_eq_false (by omega)
        clear hj h0 HF10 HCk
        go_wp2_with fail
        conv => arg 2; whnf; dsimp only [List.append]
        refine wp_region_quiet_lit (by kernel_rfl) (lex_line 88 (by kernel_rfl) (by kernel_rfl)) ?_
        repeat (go_big_quiet_step ((go_at_call 10; exact Calls.quiet_of_same (bits_any _ _))))
        refine wpQuiet_nil ?_
        intro _ hw9
        obtain ⟨nq, hw8⟩ := hw9
        subst hw8
        clear d0 d1 d2 a0 a2 z1 z2
        go_wp2_with fail
        go_roundw
        case rel => exact ⟨k + 1, by omega, by simp, ⟨HB.out.os, HB.out.tape, HB.out.output, HB.out.size, HB.out.block⟩⟩
        case measure => simp [intOf]; omega
      · obtain ⟨j, hjk⟩ : ∃ j, j + 1 = k := ⟨k - 1, by omega⟩
        obtain ⟨X', Y', b0, b2, hlt2⟩ := hj j hjk
        have z1 : decide ((0 : Int) < (k : Int)) = true := decide_eq_true (by omega)
        have z2 : decide (0 < k) = true := decide_eq_true (by omega)
        have w1 : IntKind.i64.wrap ((k : Int) - 1) = (j : Int) := by rw [IntKind.wrap_i64]; omega
        have w2 : (k : Int) - 1 = (j : Int) := by omega
        have i3 : (j : Int) < (M : Int) := by omega
        have HK := hideS hjk
        clear hj h0 hjk HF10 HCk
        rcases hlt2 with hx | ⟨hx, hy⟩
        · have c1 : decide (X < X') = false := decide_eq_false (by omega)
          have c2 : (X == X') = false := by rw [beq_eq_false_iff_ne]; omega
          clear hx
          go_wp2_with fail
          conv => arg 2; whnf; dsimp only [List.append]
          refine wp_region_quiet_lit (by kernel_rfl) (lex_line 88 (by kernel_rfl) (by kernel_rfl)) ?_
          repeat (go_big_quiet_step ((go_at_call 10; exact Calls.quiet_of_same (bits_any _ _))))
          refine wpQuiet_nil ?_
          intro _ hw9
          obtain ⟨nq, hw8⟩ := hw9
          subst hw8
          clear d0 d1 d2 a0 a2 z1 z2 b0 b2 c1 c2 w1 w2 i3
          go_wp2_with fail
          go_roundw
          case rel => exact ⟨k + 1, by omega, by simp, ⟨HB.out.os, HB.out.tape, HB.out.output, HB.out.size, HB.out.block⟩⟩
          case measure => simp [intOf]; omega
        · subst hx
          have c1 : decide (X' < X') = false := decide_eq_false (by omega)
          have c2 : (X' == X') = true := by simp
          have c3 : decide (Y ≤ Y') = false := decide_eq_false (by omega)
          clear hy
          go_wp2_with fail
          conv => arg 2; whnf; dsimp only [List.append]
          refine wp_region_quiet_lit (by kernel_rfl) (lex_line 88 (by kernel_rfl) (by kernel_rfl)) ?_
          repeat (go_big_quiet_step ((go_at_call 10; exact Calls.quiet_of_same (bits_any _ _))))
          refine wpQuiet_nil ?_
          intro _ hw9
          obtain ⟨nq, hw8⟩ := hw9
          subst hw8
          clear d0 d1 d2 a0 a2 z1 z2 b0 b2 c1 c2 c3 w1 w2 i3
          go_wp2_with fail
          go_roundw
          case rel => exact ⟨k + 1, by omega, by simp, ⟨HB.out.os, HB.out.tape, HB.out.output, HB.out.size, HB.out.block⟩⟩
          case measure => simp [intOf]; omega
    · have HB2 := hideS (HB10.out.trans (HB.out.mono HB10.out.size))
      clear HF10 HCk HB
      go_wp2_with fail
      refine (HAw.out wr).mono ?_
      rintro e wa ⟨rfl, hba⟩
      have HBa := hideS (HB2.out.trans (hba.mono HB2.out.size))
      clear hba HB2
      go_wp2_with fail
      go_ret
      exact ⟨rfl, HBa.out⟩
theorem flowOrder_walk (p : Option Addr) (b off c : Nat) (l : List Flw) (pp : Option Addr) (bp op cp : Nat) (xs : List Int) (w : World) (hl : JSrc aF w p b off l) (hf : FitJ l) (hc : l.length ≤ 9223372036854775807) (hx : VSrc w pp bp op xs.length (xV xs)) (hL : xs.length ≤ 9223372036854775807) (hnil : p = none → l.length = 0 ∧ c = 0) :
    Calls Try.prog 3 #[.slice p l.length c, .slice pp xs.length cp] w fun e w' => e = .returned (.bool true) ∧ Below w.heap.size w w' := by
  by_cases hN : l.length ≤ 120
  · have HM := foMix l p b off c l.length pp bp op cp xs.length xs w hl rfl hnil hN hx hL
    obtain ⟨E, K, hE⟩ := chkF_ex l
    by_cases hE0 : E = 0
    · subst hE0
      have hE1 : ChkF l 0 0 := by
        cases hE with
        | fine a h => exact .fine a h
        | bad _ k _ _ _ h0 _ => exact absurd rfl h0
      obtain ⟨S, hS⟩ := keyR_ex l
      cases hr : netN l S S.length with
      | none => exact flowOrder_none p b off c _ l S pp cp _ w hl rfl hf hN HM hE1 hS hr
      | some r => exact flowOrder_ok p b off c _ l r S pp cp _ w hl rfl hf hnil hN HM hE1 hS hr
    · exact flowOrder_bad p b off c _ l pp cp _ w E K hl rfl hf hN HM hE hE0
  · exact flowOrder_many p c _ pp cp _ w hc hN
theorem flw_nilJ {H : Type} {enc : TypeId × Value → H} {W : World} {fuel len cap : Nat} {p : Option Addr} {x : DataW H × List MemPlace} (h : DataW.trod enc Try.prog W 0 (fun _ => true) true fuel 22 [.slice p len cap] = some x) (hp : p = none) : len = 0 ∧ cap = 0 := by
  rcases Go.Deep.open_slice Try.underlying22 h with ⟨hcs, _⟩ | ⟨a, len', cap', m, n', D, Pl, hcs, _, _, _, _, _, _⟩
  · have := (List.cons.inj hcs).1
    cases this
    exact ⟨rfl, rfl⟩
  · have := (List.cons.inj hcs).1
    subst hp
    cases this
end Go.Proofs.Ythddhgjfboeggaa
