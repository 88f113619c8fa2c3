/- The walk of FlowTwice. -/
import Derived.Test.YtjfldlllofjnbabHax
import Derived.Test.YtjfldlllofjnbabJfW
import Derived.Test.YtjfldlllofjnbabHam
import Derived.Test.YtjfldlllofjnbabHap
import Derived.Test.YtjfldlllofjnbabFFlw
namespace Go.Proofs.Ytjfldlllofjnbab
open Go.RowKit

theorem giveF_fit {l : List Flw} (h : FitJ l) : FitJ (l.map giveF) := fun i => by
  by_cases hi : i < l.length
  · have e : (l.map giveF).getD i flw0 = giveF (l.getD i flw0) := by simp [List.getD, hi]
    rw [e]
    have := neg_wrd (h i)
    unfold giveF
    dsimp only
    rw [this]
    unfold wrd
    split <;> omega
  · rw [List.getD_eq_getElem?_getD, List.getElem?_eq_none (by simpa using hi)]; decide
theorem filter_fit {l : List Flw} (h : FitJ l) (q : Flw → Bool) : FitJ (l.filter q) := fun i => by
  by_cases hi : i < (l.filter q).length
  · have e : (l.filter q).getD i flw0 = (l.filter q)[i] := by simp [List.getD, hi]
    rw [e]
    have hm := (List.mem_filter.1 (List.getElem_mem hi)).1
    obtain ⟨j, hj, ej⟩ := List.mem_iff_getElem.1 hm
    have := h j
    rw [show l.getD j flw0 = l[j] by simp [List.getD, hj], ej] at this
    exact this
  · rw [List.getD_eq_getElem?_getD, List.getElem?_eq_none (by omega)]; decide
theorem lstO_some {o : Option (List Flw)} {m : List Flw} {E : Int} {base : Nat} {e : Ending} {w : World} (h : LstO aF 37 o E base e w) (ho : o = some m) : ∃ u, e = .returned (.tuple #[u, .int .i64 0]) ∧ JL w u m := by
  rcases h with ⟨h, _⟩ | ⟨m', u, h, he, hw⟩
  · rw [ho] at h; cases h
  · rw [ho] at h
    obtain rfl := Option.some.inj h
    exact ⟨u, he, JL.own hw⟩
theorem shf_none {l : List Flw} (h : ChkF l 0 0) {g : Int → Option Int} (hg : ∀ n, 0 ≤ n → n ≤ 109572 → g n = some n) : mapO (shfF g) l l.length = some l := by
  rw [mapO_all (h := id) (fun i hi => ?_), List.map_id]
  obtain ⟨_, a, b⟩ := okF_fin (okF h hi)
  unfold shfF
  rw [hg _ a b]; rfl

set_option maxRecDepth 20000 in
set_option maxHeartbeats 12800000 in
theorem flowTwice_walk (p : Option Addr) (b off c : Nat) (l : List Flw) (x y z : Int) (w : World) (hl : JSrc aF w p b off l) (hf : FitJ l) (hc : l.length * 24 ≤ 140737488355328) (_ : JI64 x) (_ : JI64 y) (_ : JI64 z) :
    Calls Try.prog 3 #[.slice p l.length c, .int .i64 x, .int .i64 y, .int .i64 z] w fun e w' => e = .returned (.bool true) ∧ Below w.heap.size w w' := by
  have HAw := hideS awake14
  have HFe := hideS fun wx => few14_any p l.length c wx (by omega)
  by_cases hN : l.length ≤ 120
  · rw [decide_eq_true hN] at HFe
    obtain ⟨E, K, hE⟩ := chkF_ex l
    obtain ⟨g, g1, g2, _, _⟩ := months_fun 0 (by decide) (by decide)
    have HLl : Hid (∀ wx, Below w.heap.size w wx → JL wx (.slice p l.length c) l) := fun wx hb => ⟨p, b, off, c, rfl, hl.below hb⟩
    have HGi : Hid (∀ wx, Below w.heap.size w wx → Calls Try.prog 7 #[.slice p l.length c] wx fun e w' => (∃ u, e = .returned u ∧ JL w' u (l.map giveF)) ∧ Below wx.heap.size wx w') := fun wx hb => (jGive_any l p b off c l.length wx (hl.below hb) rfl hc).mono fun e w' ⟨⟨u, he, ho⟩, hb'⟩ => ⟨⟨u, he, JL.own (by rw [List.length_map]; exact ho)⟩, hb'⟩
    have HG2 : Hid (∀ u wx, JL wx u (l.map giveF) → Calls Try.prog 7 #[u] wx fun e w' => (∃ u, e = .returned u ∧ JL w' u l) ∧ Below wx.heap.size wx w') := fun u wx hj => by
      obtain ⟨q, gg, o, cc, rfl, hs⟩ := hj.ex
      refine (jGive_any (l.map giveF) q gg o cc _ wx hs rfl (by rw [List.length_map]; exact hc)).mono fun e w' ⟨⟨u, he, ho⟩, hb'⟩ => ⟨⟨u, he, JL.own (base := wx.heap.size) ?_⟩, hb'⟩
      rw [give_twice, List.length_map] at ho; exact ho
    have HSm := hideS fun u v wx hu hv => same14_any u v l wx hu hv hc hf
    have HSg := hideS fun u v wx hu hv => same14_any u v (l.map giveF) wx hu hv (by rw [List.length_map]; exact hc) (giveF_fit hf)
    have HChk := hideS fun wx (hb : Below w.heap.size w wx) => jCheck_any l p b off c l.length E K wx (hl.below hb) rfl (by omega) hf hE
    have HSc : Hid (E = 0 → (∀ wx, Below w.heap.size w wx → Calls Try.prog 10 #[.float .f64 4607182418800017408, .slice p l.length c] wx fun e w' => (∃ u, e = .returned (.tuple #[u, .int .i64 0]) ∧ JL w' u l) ∧ Below wx.heap.size wx w') ∧ (∀ wx, Below w.heap.size w wx → Calls Try.prog 10 #[.float .f64 13830554455654793216, .slice p l.length c] wx fun e w' => (∃ u, e = .returned (.tuple #[u, .int .i64 0]) ∧ JL w' u (l.map giveF)) ∧ Below wx.heap.size wx w') ∧ (∀ wx, Below w.heap.size w wx → Calls Try.prog 11 #[.slice p l.length c, .int .i64 0] wx fun e w' => (∃ u, e = .returned (.tuple #[u, .int .i64 0]) ∧ JL w' u l) ∧ Below wx.heap.size wx w')) := fun hE0 => by
      subst hE0
      have hE1 : ChkF l 0 0 := by
        cases hE with
        | fine a h => exact .fine a h
        | bad _ k _ _ _ h0 _ => exact absurd rfl h0
      refine ⟨fun wx hb => ?_, fun wx hb => ?_, fun wx hb => ?_⟩
      · exact (jScale_any l p b off c l.length 4607182418800017408 wx (hl.below hb) rfl hc (by decide) hf).mono fun e w' ⟨h1, h2⟩ => ⟨lstO_some h1 (scl_one hE1 hf), h2⟩
      · exact (jScale_any l p b off c l.length 13830554455654793216 wx (hl.below hb) rfl hc (by decide) hf).mono fun e w' ⟨h1, h2⟩ => ⟨lstO_some h1 (scl_mone hE1 hf), h2⟩
      · exact (jShift_any l p b off c l.length 0 g wx (hl.below hb) rfl hc g1).mono fun e w' ⟨h1, h2⟩ => ⟨lstO_some h1 (shf_none hE1 (g2 rfl)), h2⟩
    have HWi : Hid (∀ (m : List Flw) u s t wx, m.length ≤ 120 → JL wx u m → Calls Try.prog 8 #[u, .int .i64 s, .int .i64 t] wx fun e w' => (∃ v, e = .returned v ∧ JL w' v (m.filter (winF s t))) ∧ Below wx.heap.size wx w') := fun m u s t wx hm hj => by
      obtain ⟨q, gg, o, cc, rfl, hs⟩ := hj.ex
      exact (jWindow_any m q gg o cc _ s t wx hs rfl (by omega)).mono fun e w' ⟨⟨v, he, ho⟩, hb'⟩ => ⟨⟨v, he, JL.own ho⟩, hb'⟩
    have HSw : Hid (∀ s t u v wx, JL wx u (l.filter (winF s t)) → JL wx v (l.filter (winF s t)) → Calls Try.prog 6 #[u, v] wx fun e w' => e = .returned (.bool true) ∧ Below wx.heap.size wx w') := fun s t u v wx hu hv => same14_any u v _ wx hu hv (by have := List.length_filter_le (winF s t) l; omega) (filter_fit hf _)
    have HLf : Hid (∀ s t, (l.filter (winF s t)).length ≤ 120) := fun s t => Nat.le_trans (List.length_filter_le _ _) hN
    have HWl : Hid (x ≤ y → y ≤ z → (l.filter (winF x y)).length + (l.filter (winF y z)).length = (l.filter (winF x z)).length ∧ (l.filter (winF x z)).filter (winF x y) = l.filter (winF x y) ∧ (l.filter (winF x z)).filter (winF y z) = l.filter (winF y z)) := fun h1 h2 => ⟨win_len h1 h2 l, win_in (Int.le_refl _) h2 l, win_in h1 (Int.le_refl _) l⟩
    have HN := hideS hN
    obtain ⟨N, hNN⟩ : ∃ N, l.length = N := ⟨_, rfl⟩
    rw [hNN] at HFe HLl HGi HChk HSc ⊢
    clear hl hf hc hE g1 g2 hN hNN
    go_enter Try.func3, Try.ntmps3
    go_wp2_with fail
    refine (turned (HFe.out _)).mono ?_
    rintro e w0 ⟨rfl, rfl⟩
    go_wp2_with fail
    refine (HGi.out w (Below.refl _ _)).mono ?_
    rintro e w1 ⟨⟨v1, rfl, j1⟩, hb1⟩
    have HJ1 := hideS j1
    have HB1 := hideS hb1
    clear j1 hb1
    go_wp2_with fail
    refine (HG2.out v1 w1 HJ1.out).mono ?_
    rintro e w2 ⟨⟨v2, rfl, j2⟩, hb2⟩
    have HJ2 := hideS j2
    have HB2 := hideS (HB1.out.trans (hb2.mono HB1.out.size))
    clear j2 hb2 HJ1 HB1
    go_wp2_with fail
    refine (HSm.out v2 (.slice p N c) w2 HJ2.out (HLl.out w2 HB2.out)).mono ?_
    rintro e wq ⟨rfl, hb3⟩
    have HBq := hideS (HB2.out.trans (hb3.mono HB2.out.size))
    clear hb3 HB2 HJ2 HG2
    by_cases hxy : x ≤ y
    · by_cases hyz : y ≤ z
      · obtain ⟨wl1, wl2, wl3⟩ := HWl.out hxy hyz
        have HL1 := hideS wl1
        have HL2 := hideS wl2
        have HL3 := hideS wl3
        clear wl1 wl2 wl3 HWl
        go_wp2_with fail
        refine (HWi.out l (.slice p N c) x y wq HN.out (HLl.out wq HBq.out)).mono ?_
        rintro e w4 ⟨⟨v4, rfl, j4⟩, hb4⟩
        have HJ4 := hideS j4
        have HB4 := hideS (HBq.out.trans (hb4.mono HBq.out.size))
        clear j4 hb4
        go_wp2_with fail
        refine (HWi.out l (.slice p N c) y z w4 HN.out (HLl.out w4 HB4.out)).mono ?_
        rintro e w5 ⟨⟨v5, rfl, j5⟩, hb5⟩
        have HJ5 := hideS j5
        have HJ4' := hideS (HJ4.out.below hb5)
        have HB5 := hideS (HB4.out.trans (hb5.mono HB4.out.size))
        clear j5 hb5 HJ4
        go_wp2_with fail
        refine (HWi.out l (.slice p N c) x z w5 HN.out (HLl.out w5 HB5.out)).mono ?_
        rintro e w6 ⟨⟨v6, rfl, j6⟩, hb6⟩
        have HJ5' := hideS (HJ5.out.below hb6)
        have HJ4 := hideS (HJ4'.out.below hb6)
        have HB6 := hideS (HB5.out.trans (hb6.mono HB5.out.size))
        obtain ⟨p6, g6, o6, c6, rfl, s6⟩ := j6.ex
        obtain ⟨p4, g4, o4, c4, rfl, s4⟩ := HJ4.out.ex
        obtain ⟨p5, g5, o5, c5, rfl, s5⟩ := HJ5'.out.ex
        have HJ6 := hideS j6
        have f4 := HLf.out x y
        have f5 := HLf.out y z
        have f6 := HLf.out x z
        have HE6 := hideS HL1.out
        clear j6 hb6 HJ5 HJ4' s6 s4 s5
        have q1 : (((l.filter (winF x y)).length : Int) + ((l.filter (winF y z)).length : Int) != ((l.filter (winF x z)).length : Int)) = false := by
          have := HE6.out
          rw [bne_eq_false_iff_eq]; omega
        go_wp2_with fail
        refine (HWi.out _ _ x y w6 (HLf.out x z) HJ6.out).mono ?_
        rintro e w7 ⟨⟨v7, rfl, j7⟩, hb7⟩
        rw [HL2.out] at j7
        have HJ7 := hideS j7
        have HJ4' := hideS (HJ4.out.below hb7)
        have HJ5 := hideS (HJ5'.out.below hb7)
        have HJ6' := hideS (HJ6.out.below hb7)
        have HB7 := hideS (HB6.out.trans (hb7.mono HB6.out.size))
        clear j7 hb7
        go_wp2_with fail
        refine (HSw.out x y v7 _ w7 HJ7.out HJ4'.out).mono ?_
        rintro e w8 ⟨rfl, hb8⟩
        have HJ5' := hideS (HJ5.out.below hb8)
        have HJ6 := hideS (HJ6'.out.below hb8)
        have HB8 := hideS (HB7.out.trans (hb8.mono HB7.out.size))
        clear hb8
        go_wp2_with fail
        refine (HWi.out _ _ y z w8 (HLf.out x z) HJ6.out).mono ?_
        rintro e w9 ⟨⟨v9, rfl, j9⟩, hb9⟩
        rw [HL3.out] at j9
        have HJ9 := hideS j9
        have HJ5 := hideS (HJ5'.out.below hb9)
        have HB9 := hideS (HB8.out.trans (hb9.mono HB8.out.size))
        clear j9 hb9
        go_wp2_with fail
        refine (HSw.out y z v9 _ w9 HJ9.out HJ5.out).mono ?_
        clear HBq
        rintro e wq ⟨rfl, hb10⟩
        have HBq := hideS (HB9.out.trans (hb10.mono HB9.out.size))
        clear hb10
        clear HB9 HB8 HB7 HB6 HB5 HB4 HJ4 HJ4' HJ5 HJ5' HJ6 HJ6' HJ7 HJ9 HL1 HL2 HL3 HE6 q1 f4 f5 f6 HWi HSw HLf
        go_wp2_with fail
        refine (HChk.out wq HBq.out).mono ?_
        rintro e wr ⟨rfl, hbr⟩
        have HBr := hideS (HBq.out.trans (hbr.mono HBq.out.size))
        clear hbr HChk HBq
        by_cases hz : E = 0
        · obtain ⟨hs1, hs2, hs3⟩ := HSc.out hz
          subst hz
          have HS1 := hideS hs1
          have HS2 := hideS hs2
          have HS3 := hideS hs3
          clear hs1 hs2 hs3 HSc
          go_wp2_with fail
          refine (HS1.out wr HBr.out).mono ?_
          rintro e ws ⟨⟨u1, rfl, j1⟩, hbs⟩
          have HJ1 := hideS j1
          have HBs := hideS (HBr.out.trans (hbs.mono HBr.out.size))
          clear hbs j1 HBr
          go_wp2_with fail
          refine (HS2.out ws HBs.out).mono ?_
          rintro e wt ⟨⟨u2, rfl, j2⟩, hbt⟩
          have HJ2 := hideS j2
          have HJ1' := hideS (HJ1.out.below hbt)
          have HBt := hideS (HBs.out.trans (hbt.mono HBs.out.size))
          clear hbt j2 HBs HJ1
          go_wp2_with fail
          refine (HS3.out wt HBt.out).mono ?_
          rintro e wu ⟨⟨u3, rfl, j3⟩, hbu⟩
          have HJ3 := hideS j3
          have HJ1 := hideS (HJ1'.out.below hbu)
          have HJ2' := hideS (HJ2.out.below hbu)
          have HBu := hideS (HBt.out.trans (hbu.mono HBt.out.size))
          clear hbu j3 HBt HJ1' HJ2
          go_wp2_with fail
          refine (HSm.out u1 (.slice p N c) wu HJ1.out (HLl.out wu HBu.out)).mono ?_
          rintro e wv ⟨rfl, hbv⟩
          have HJ2 := hideS (HJ2'.out.below hbv)
          have HJ3' := hideS (HJ3.out.below hbv)
          have HBv := hideS (HBu.out.trans (hbv.mono HBu.out.size))
          clear hbv HBu HJ3 HJ2' HJ1
          go_wp2_with fail
          refine (HGi.out wv HBv.out).mono ?_
          rintro e wx ⟨⟨u4, rfl, j4⟩, hbx⟩
          have HJ4 := hideS j4
          have HJ2' := hideS (HJ2.out.below hbx)
          have HJ3 := hideS (HJ3'.out.below hbx)
          have HBx := hideS (HBv.out.trans (hbx.mono HBv.out.size))
          clear hbx j4 HBv HJ2 HJ3'
          go_wp2_with fail
          refine (HSg.out u2 u4 wx HJ2'.out HJ4.out).mono ?_
          rintro e wy ⟨rfl, hby⟩
          have HJ3' := hideS (HJ3.out.below hby)
          have HBy := hideS (HBx.out.trans (hby.mono HBx.out.size))
          clear hby HBx HJ3 HJ2' HJ4
          go_wp2_with fail
          refine (HSm.out u3 (.slice p N c) wy HJ3'.out (HLl.out wy HBy.out)).mono ?_
          rintro e wz ⟨rfl, hbz⟩
          have HBz := hideS (HBy.out.trans (hbz.mono HBy.out.size))
          clear hbz HBy HJ3'
          go_wp2_with fail
          refine (HAw.out wz).mono ?_
          rintro e wa ⟨rfl, hba⟩
          have HBa := hideS (HBz.out.trans (hba.mono HBz.out.size))
          clear hba HBz
          go_wp2_with fail
          go_ret
          exact ⟨rfl, HBa.out⟩
        · have d1 : (E != 0) = true := bne_iff_ne.2 hz
          clear HSc hz
          go_wp2_with fail
          refine (HAw.out wr).mono ?_
          rintro e wa ⟨rfl, hba⟩
          have HBa := hideS (HBr.out.trans (hba.mono HBr.out.size))
          clear hba
          go_wp2_with fail
          go_ret
          exact ⟨rfl, HBa.out⟩
      · go_wp2_with fail
        refine (HChk.out wq HBq.out).mono ?_
        rintro e wr ⟨rfl, hbr⟩
        have HBr := hideS (HBq.out.trans (hbr.mono HBq.out.size))
        clear hbr HChk HBq
        by_cases hz : E = 0
        · obtain ⟨hs1, hs2, hs3⟩ := HSc.out hz
          subst hz
          have HS1 := hideS hs1
          have HS2 := hideS hs2
          have HS3 := hideS hs3
          clear hs1 hs2 hs3 HSc
          go_wp2_with fail
          refine (HS1.out wr HBr.out).mono ?_
          rintro e ws ⟨⟨u1, rfl, j1⟩, hbs⟩
          have HJ1 := hideS j1
          have HBs := hideS (HBr.out.trans (hbs.mono HBr.out.size))
          clear hbs j1 HBr
          go_wp2_with fail
          refine (HS2.out ws HBs.out).mono ?_
          rintro e wt ⟨⟨u2, rfl, j2⟩, hbt⟩
          have HJ2 := hideS j2
          have HJ1' := hideS (HJ1.out.below hbt)
          have HBt := hideS (HBs.out.trans (hbt.mono HBs.out.size))
          clear hbt j2 HBs HJ1
          go_wp2_with fail
          refine (HS3.out wt HBt.out).mono ?_
          rintro e wu ⟨⟨u3, rfl, j3⟩, hbu⟩
          have HJ3 := hideS j3
          have HJ1 := hideS (HJ1'.out.below hbu)
          have HJ2' := hideS (HJ2.out.below hbu)
          have HBu := hideS (HBt.out.trans (hbu.mono HBt.out.size))
          clear hbu j3 HBt HJ1' HJ2
          go_wp2_with fail
          refine (HSm.out u1 (.slice p N c) wu HJ1.out (HLl.out wu HBu.out)).mono ?_
          rintro e wv ⟨rfl, hbv⟩
          have HJ2 := hideS (HJ2'.out.below hbv)
          have HJ3' := hideS (HJ3.out.below hbv)
          have HBv := hideS (HBu.out.trans (hbv.mono HBu.out.size))
          clear hbv HBu HJ3 HJ2' HJ1
          go_wp2_with fail
          refine (HGi.out wv HBv.out).mono ?_
          rintro e wx ⟨⟨u4, rfl, j4⟩, hbx⟩
          have HJ4 := hideS j4
          have HJ2' := hideS (HJ2.out.below hbx)
          have HJ3 := hideS (HJ3'.out.below hbx)
          have HBx := hideS (HBv.out.trans (hbx.mono HBv.out.size))
          clear hbx j4 HBv HJ2 HJ3'
          go_wp2_with fail
          refine (HSg.out u2 u4 wx HJ2'.out HJ4.out).mono ?_
          rintro e wy ⟨rfl, hby⟩
          have HJ3' := hideS (HJ3.out.below hby)
          have HBy := hideS (HBx.out.trans (hby.mono HBx.out.size))
          clear hby HBx HJ3 HJ2' HJ4
          go_wp2_with fail
          refine (HSm.out u3 (.slice p N c) wy HJ3'.out (HLl.out wy HBy.out)).mono ?_
          rintro e wz ⟨rfl, hbz⟩
          have HBz := hideS (HBy.out.trans (hbz.mono HBy.out.size))
          clear hbz HBy HJ3'
          go_wp2_with fail
          refine (HAw.out wz).mono ?_
          rintro e wa ⟨rfl, hba⟩
          have HBa := hideS (HBz.out.trans (hba.mono HBz.out.size))
          clear hba HBz
          go_wp2_with fail
          go_ret
          exact ⟨rfl, HBa.out⟩
        · have d1 : (E != 0) = true := bne_iff_ne.2 hz
          clear HSc hz
          go_wp2_with fail
          refine (HAw.out wr).mono ?_
          rintro e wa ⟨rfl, hba⟩
          have HBa := hideS (HBr.out.trans (hba.mono HBr.out.size))
          clear hba
          go_wp2_with fail
          go_ret
          exact ⟨rfl, HBa.out⟩
    · go_wp2_with fail
      refine (HChk.out wq HBq.out).mono ?_
      rintro e wr ⟨rfl, hbr⟩
      have HBr := hideS (HBq.out.trans (hbr.mono HBq.out.size))
      clear hbr HChk HBq
      by_cases hz : E = 0
      · obtain ⟨hs1, hs2, hs3⟩ := HSc.out hz
        subst hz
        have HS1 := hideS hs1
        have HS2 := hideS hs2
        have HS3 := hideS hs3
        clear hs1 hs2 hs3 HSc
        go_wp2_with fail
        refine (HS1.out wr HBr.out).mono ?_
        rintro e ws ⟨⟨u1, rfl, j1⟩, hbs⟩
        have HJ1 := hideS j1
        have HBs := hideS (HBr.out.trans (hbs.mono HBr.out.size))
        clear hbs j1 HBr
        go_wp2_with fail
        refine (HS2.out ws HBs.out).mono ?_
        rintro e wt ⟨⟨u2, rfl, j2⟩, hbt⟩
        have HJ2 := hideS j2
        have HJ1' := hideS (HJ1.out.below hbt)
        have HBt := hideS (HBs.out.trans (hbt.mono HBs.out.size))
        clear hbt j2 HBs HJ1
        go_wp2_with fail
        refine (HS3.out wt HBt.out).mono ?_
        rintro e wu ⟨⟨u3, rfl, j3⟩, hbu⟩
        have HJ3 := hideS j3
        have HJ1 := hideS (HJ1'.out.below hbu)
        have HJ2' := hideS (HJ2.out.below hbu)
        have HBu := hideS (HBt.out.trans (hbu.mono HBt.out.size))
        clear hbu j3 HBt HJ1' HJ2
        go_wp2_with fail
        refine (HSm.out u1 (.slice p N c) wu HJ1.out (HLl.out wu HBu.out)).mono ?_
        rintro e wv ⟨rfl, hbv⟩
        have HJ2 := hideS (HJ2'.out.below hbv)
        have HJ3' := hideS (HJ3.out.below hbv)
        have HBv := hideS (HBu.out.trans (hbv.mono HBu.out.size))
        clear hbv HBu HJ3 HJ2' HJ1
        go_wp2_with fail
        refine (HGi.out wv HBv.out).mono ?_
        rintro e wx ⟨⟨u4, rfl, j4⟩, hbx⟩
        have HJ4 := hideS j4
        have HJ2' := hideS (HJ2.out.below hbx)
        have HJ3 := hideS (HJ3'.out.below hbx)
        have HBx := hideS (HBv.out.trans (hbx.mono HBv.out.size))
        clear hbx j4 HBv HJ2 HJ3'
        go_wp2_with fail
        refine (HSg.out u2 u4 wx HJ2'.out HJ4.out).mono ?_
        rintro e wy ⟨rfl, hby⟩
        have HJ3' := hideS (HJ3.out.below hby)
        have HBy := hideS (HBx.out.trans (hby.mono HBx.out.size))
        clear hby HBx HJ3 HJ2' HJ4
        go_wp2_with fail
        refine (HSm.out u3 (.slice p N c) wy HJ3'.out (HLl.out wy HBy.out)).mono ?_
        rintro e wz ⟨rfl, hbz⟩
        have HBz := hideS (HBy.out.trans (hbz.mono HBy.out.size))
        clear hbz HBy HJ3'
        go_wp2_with fail
        refine (HAw.out wz).mono ?_
        rintro e wa ⟨rfl, hba⟩
        have HBa := hideS (HBz.out.trans (hba.mono HBz.out.size))
        clear hba HBz
        go_wp2_with fail
        go_ret
        exact ⟨rfl, HBa.out⟩
      · have d1 : (E != 0) = true := bne_iff_ne.2 hz
        clear HSc hz
        go_wp2_with fail
        refine (HAw.out wr).mono ?_
        rintro e wa ⟨rfl, hba⟩
        have HBa := hideS (HBr.out.trans (hba.mono HBr.out.size))
        clear hba
        go_wp2_with fail
        go_ret
        exact ⟨rfl, HBa.out⟩
  · rw [decide_eq_false hN] at HFe
    generalize l.length = N at *
    clear hl hf hc hN
    go_enter Try.func3, Try.ntmps3
    go_wp2_with fail
    refine (turned (HFe.out _)).mono ?_
    rintro e w0 ⟨rfl, rfl⟩
    go_wp2_with fail
    refine (HAw.out _).mono ?_
    rintro e w1 ⟨rfl, hb1⟩
    have HB1 := hideS hb1
    clear hb1
    go_wp2_with fail
    go_ret
    exact ⟨rfl, HB1.out⟩
end Go.Proofs.Ytjfldlllofjnbab
