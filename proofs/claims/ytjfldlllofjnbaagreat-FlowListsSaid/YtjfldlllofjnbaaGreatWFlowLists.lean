/- The walk of FlowLists. -/
import Derived.Test.YtjfldlllofjnbaaGreatHba
import Derived.Test.YtjfldlllofjnbaaGreatJfZ
import Derived.Test.YtjfldlllofjnbaaGreatHam
import Derived.Test.YtjfldlllofjnbaaGreatHas
import Derived.Test.YtjfldlllofjnbaaGreatFFlw
namespace Go.Proofs.YtjfldlllofjnbaaGreat
open Go.RowKit

set_option maxRecDepth 20000 in
set_option maxHeartbeats 12800000 in
theorem flowLists_walk (p : Option Addr) (b off c : Nat) (l : List Flw) (x : Nat) (y z mo : Int) (w : World) (hl : JSrc aF w p b off l) (hf : FitJ l) (hc : l.length * 24 ≤ 140737488355328) (hx : x < 18446744073709551616) (_ : JI64 y) (_ : JI64 z) (hmo : JI64 mo) :
    Calls Tryz.prog 5 #[.slice p l.length c, .float .f64 x, .int .i64 y, .int .i64 z, .int .i64 mo] w fun e w' => e = .returned (.bool true) ∧ Below w.heap.size w w' := by
  have HAw := hideS awake14
  have HFe := hideS fun wx => few14_any p l.length c wx (by omega)
  by_cases hN : l.length ≤ 120
  · rw [decide_eq_true hN] at HFe
    obtain ⟨g, g1, _, g3, g4⟩ := months_fun mo hmo.1 hmo.2
    have g5 := months_ref mo g g3 g4
    have HOf : Hid (Calls Tryz.prog 19 #[.slice p l.length c] w fun e w' => (∃ u, e = .returned u ∧ JD w' u l) ∧ Below w.heap.size w w') := (ref14Of_any l p b off c l.length w hl rfl hc).mono fun e w' ⟨⟨u, he, ho⟩, hb'⟩ => ⟨⟨u, he, JD.own ho⟩, hb'⟩
    have HSc : Hid (∀ wx, Below w.heap.size w wx → Calls Tryz.prog 20 #[.float .f64 x, .slice p l.length c] wx fun e w' => (∃ u, e = .returned (.tuple #[u, .int .i64 (errO (sclL x l) 91)]) ∧ JL w' u ((sclL x l).getD [])) ∧ Below wx.heap.size wx w') := fun wx hb => (jScale_any l p b off c l.length x wx (hl.below hb) rfl hc hx hf).mono fun e w' ⟨h1, h2⟩ => ⟨lstO_get h1, h2⟩
    have HSd : Hid (∀ v wx, JD wx v l → Calls Tryz.prog 21 #[.int .u64 (x : Int), v] wx fun e w' => (∃ u, e = .returned (.tuple #[u, .int .i64 (errO (sclL x l) 91)]) ∧ JD w' u ((sclL x l).getD [])) ∧ Below wx.heap.size wx w') := fun v wx hj => by
      obtain ⟨q, gg, cc, rfl, hs⟩ := hj.ex
      exact (ref14Scale_any l q gg 0 cc l.length x wx hs rfl hc hx hf).mono fun e w' ⟨h1, h2⟩ => ⟨lstD_get h1, h2⟩
    have HSh : Hid (∀ wx, Below w.heap.size w wx → Calls Tryz.prog 23 #[.slice p l.length c, .int .i64 mo] wx fun e w' => (∃ u, e = .returned (.tuple #[u, .int .i64 (errO (mapO (shfF g) l l.length) 51)]) ∧ JL w' u ((mapO (shfF g) l l.length).getD [])) ∧ Below wx.heap.size wx w') := fun wx hb => (jShift_any l p b off c l.length mo g wx (hl.below hb) rfl hc g1).mono fun e w' ⟨h1, h2⟩ => ⟨lstO_get h1, h2⟩
    have HSe : Hid (∀ v wx, JD wx v l → Calls Tryz.prog 24 #[v, .int .i64 mo] wx fun e w' => (∃ u, e = .returned (.tuple #[u, .int .i64 (errO (mapO (shfF g) l l.length) 51)]) ∧ JD w' u ((mapO (shfF g) l l.length).getD [])) ∧ Below wx.heap.size wx w') := fun v wx hj => by
      obtain ⟨q, gg, cc, rfl, hs⟩ := hj.ex
      exact (ref14Shift_any l q gg 0 cc l.length mo g wx hs rfl hc g5).mono fun e w' ⟨h1, h2⟩ => ⟨lstD_get h1, h2⟩
    have HGi : Hid (∀ wx, Below w.heap.size w wx → Calls Tryz.prog 25 #[.slice p l.length c] wx fun e w' => (∃ u, e = .returned u ∧ JL w' u (l.map giveF)) ∧ Below wx.heap.size wx w') := fun wx hb => (jGive_any l p b off c l.length wx (hl.below hb) rfl hc).mono fun e w' ⟨⟨u, he, ho⟩, hb'⟩ => ⟨⟨u, he, JL.own (by rw [List.length_map]; exact ho)⟩, hb'⟩
    have HGd : Hid (∀ v wx, JD wx v l → Calls Tryz.prog 26 #[v] wx fun e w' => (∃ u, e = .returned u ∧ JD w' u (l.map giveF)) ∧ Below wx.heap.size wx w') := fun v wx hj => by
      obtain ⟨q, gg, cc, rfl, hs⟩ := hj.ex
      exact (ref14Give_any l q gg 0 cc l.length wx hs rfl hc hf).mono fun e w' ⟨⟨u, he, ho⟩, hb'⟩ => ⟨⟨u, he, JD.own (by rw [List.length_map]; exact ho)⟩, hb'⟩
    have HWi : Hid (∀ wx, Below w.heap.size w wx → Calls Tryz.prog 27 #[.slice p l.length c, .int .i64 y, .int .i64 z] wx fun e w' => (∃ v, e = .returned v ∧ JL w' v (l.filter (winF y z))) ∧ Below wx.heap.size wx w') := fun wx hb => (jWindow_any l p b off c l.length y z wx (hl.below hb) rfl hc).mono fun e w' ⟨⟨v, he, ho⟩, hb'⟩ => ⟨⟨v, he, JL.own ho⟩, hb'⟩
    have HWd : Hid (∀ v wx, JD wx v l → Calls Tryz.prog 28 #[v, .int .i64 y, .int .i64 z] wx fun e w' => (∃ u, e = .returned u ∧ JD w' u (l.filter (winF y z))) ∧ Below wx.heap.size wx w') := fun v wx hj => by
      obtain ⟨q, gg, cc, rfl, hs⟩ := hj.ex
      exact (ref14Window_any l q gg 0 cc l.length y z wx hs rfl hc).mono fun e w' ⟨⟨u, he, ho⟩, hb'⟩ => ⟨⟨u, he, JD.own ho⟩, hb'⟩
    have HS1 := hideS fun u v wx hu hv => sameD_any u v ((sclL x l).getD []) wx hu hv (by have := sclL_len x l; omega) (sclL_fit hf)
    have HS2 := hideS fun u v wx hu hv => sameD_any u v ((mapO (shfF g) l l.length).getD []) wx hu hv (by have := mapO_len_le (shfF g) l l.length; omega) (shf_fit hf)
    have HS3 := hideS fun u v wx hu hv => sameD_any u v (l.map giveF) wx hu hv (by rw [List.length_map]; omega) (giveF_fit hf)
    have HS4 := hideS fun u v wx hu hv => sameD_any u v (l.filter (winF y z)) wx hu hv (by have := List.length_filter_le (winF y z) l; omega) (filter_fit hf _)
    generalize (sclL x l).getD [] = M1 at *
    generalize errO (sclL x l) 91 = E1 at *
    generalize (mapO (shfF g) l l.length).getD [] = M2 at *
    generalize errO (mapO (shfF g) l l.length) 51 = E2 at *
    generalize l.map giveF = M3 at *
    generalize l.filter (winF y z) = M4 at *
    generalize l.length = N at *
    clear hl hf hc g1 g3 g4 g5 hN hx hmo
    go_enter Tryz.func5, Tryz.ntmps5
    go_wp2_with fail
    refine (turned (HFe.out _)).mono ?_
    rintro e w0 ⟨rfl, rfl⟩
    go_wp2_with fail
    refine HOf.out.mono ?_
    rintro e w1 ⟨⟨d, rfl, j1⟩, hb1⟩
    have HD1 := hideS j1
    have HB1 := hideS hb1
    clear j1 hb1
    go_wp2_with fail
    refine (HSc.out w1 HB1.out).mono ?_
    rintro e w2 ⟨⟨u2, rfl, j2⟩, hb2⟩
    have HJ2 := hideS j2
    have HD2 := hideS (HD1.out.below hb2)
    have HB2 := hideS (HB1.out.trans (hb2.mono HB1.out.size))
    clear j2 hb2 HD1 HB1
    go_wp2_with fail
    refine (turned (bits_any x w2)).mono ?_
    rintro e w2' ⟨rfl, rfl⟩
    go_wp2_with fail
    refine (HSd.out d w2 HD2.out).mono ?_
    rintro e w3 ⟨⟨u3, rfl, j3⟩, hb3⟩
    have HJ3 := hideS j3
    have HJ2' := hideS (HJ2.out.below hb3)
    have HD3 := hideS (HD2.out.below hb3)
    have HB3 := hideS (HB2.out.trans (hb3.mono HB2.out.size))
    clear j3 hb3 HD2 HB2 HJ2
    go_wp2_with fail
    refine (HSh.out w3 HB3.out).mono ?_
    rintro e w4 ⟨⟨u4, rfl, j4⟩, hb4⟩
    have HJ4 := hideS j4
    have HJ2 := hideS (HJ2'.out.below hb4)
    have HJ3' := hideS (HJ3.out.below hb4)
    have HD4 := hideS (HD3.out.below hb4)
    have HB4 := hideS (HB3.out.trans (hb4.mono HB3.out.size))
    clear j4 hb4 HD3 HB3 HJ2' HJ3
    go_wp2_with fail
    refine (HSe.out d w4 HD4.out).mono ?_
    rintro e w5 ⟨⟨u5, rfl, j5⟩, hb5⟩
    have HJ5 := hideS j5
    have HJ4' := hideS (HJ4.out.below hb5)
    have HJ2' := hideS (HJ2.out.below hb5)
    have HJ3 := hideS (HJ3'.out.below hb5)
    have HD5 := hideS (HD4.out.below hb5)
    have HB5 := hideS (HB4.out.trans (hb5.mono HB4.out.size))
    clear j5 hb5 HD4 HB4 HJ2 HJ3' HJ4
    go_wp2_with fail
    refine (HGi.out w5 HB5.out).mono ?_
    rintro e w6 ⟨⟨u6, rfl, j6⟩, hb6⟩
    have HJ6 := hideS j6
    have HK2 := hideS (HJ2'.out.below hb6)
    have HK3 := hideS (HJ3.out.below hb6)
    have HK4 := hideS (HJ4'.out.below hb6)
    have HK5 := hideS (HJ5.out.below hb6)
    have HD6 := hideS (HD5.out.below hb6)
    have HB6 := hideS (HB5.out.trans (hb6.mono HB5.out.size))
    clear j6 hb6 HD5 HB5 HJ2' HJ3 HJ4' HJ5
    go_wp2_with fail
    refine (HGd.out d w6 HD6.out).mono ?_
    rintro e w7 ⟨⟨u7, rfl, j7⟩, hb7⟩
    have HJ7 := hideS j7
    have HJ6' := hideS (HJ6.out.below hb7)
    have HJ2 := hideS (HK2.out.below hb7)
    have HJ3 := hideS (HK3.out.below hb7)
    have HJ4 := hideS (HK4.out.below hb7)
    have HJ5 := hideS (HK5.out.below hb7)
    have HD7 := hideS (HD6.out.below hb7)
    have HB7 := hideS (HB6.out.trans (hb7.mono HB6.out.size))
    clear j7 hb7 HD6 HB6 HK2 HK3 HK4 HK5 HJ6
    go_wp2_with fail
    refine (HS3.out u6 u7 w7 HJ6'.out HJ7.out).mono ?_
    rintro e w8 ⟨rfl, hb8⟩
    have HK2 := hideS (HJ2.out.below hb8)
    have HK3 := hideS (HJ3.out.below hb8)
    have HK4 := hideS (HJ4.out.below hb8)
    have HK5 := hideS (HJ5.out.below hb8)
    have HD8 := hideS (HD7.out.below hb8)
    have HB8 := hideS (HB7.out.trans (hb8.mono HB7.out.size))
    clear hb8 HD7 HB7 HJ2 HJ3 HJ4 HJ5 HJ6' HJ7
    go_wp2_with fail
    refine (HS1.out u2 u3 w8 HK2.out HK3.out).mono ?_
    rintro e w9 ⟨rfl, hb9⟩
    have HJ4 := hideS (HK4.out.below hb9)
    have HJ5 := hideS (HK5.out.below hb9)
    have HD9 := hideS (HD8.out.below hb9)
    have HB9 := hideS (HB8.out.trans (hb9.mono HB8.out.size))
    clear hb9 HD8 HB8 HK2 HK3 HK4 HK5
    go_wp2_with fail
    refine (HWi.out w9 HB9.out).mono ?_
    rintro e wa ⟨⟨ua, rfl, ja⟩, hba⟩
    have HJa := hideS ja
    have HK4 := hideS (HJ4.out.below hba)
    have HK5 := hideS (HJ5.out.below hba)
    have HDa := hideS (HD9.out.below hba)
    have HBa := hideS (HB9.out.trans (hba.mono HB9.out.size))
    clear ja hba HD9 HB9 HJ4 HJ5
    go_wp2_with fail
    refine (HWd.out d wa HDa.out).mono ?_
    rintro e wb ⟨⟨ub, rfl, jb⟩, hbb⟩
    have HJb := hideS jb
    have HJa' := hideS (HJa.out.below hbb)
    have HJ4 := hideS (HK4.out.below hbb)
    have HJ5 := hideS (HK5.out.below hbb)
    have HBb := hideS (HBa.out.trans (hbb.mono HBa.out.size))
    clear jb hbb HDa HBa HK4 HK5 HJa
    go_wp2_with fail
    refine (HS4.out ua ub wb HJa'.out HJb.out).mono ?_
    rintro e wc ⟨rfl, hbc⟩
    have HK4 := hideS (HJ4.out.below hbc)
    have HK5 := hideS (HJ5.out.below hbc)
    have HBc := hideS (HBb.out.trans (hbc.mono HBb.out.size))
    clear hbc HBb HJ4 HJ5 HJa' HJb
    go_wp2_with fail
    refine (HS2.out u4 u5 wc HK4.out HK5.out).mono ?_
    rintro e wd ⟨rfl, hbd⟩
    have HBd := hideS (HBc.out.trans (hbd.mono HBc.out.size))
    clear hbd HBc HK4 HK5
    go_wp2_with fail
    refine (HAw.out wd).mono ?_
    rintro e we ⟨rfl, hbe⟩
    have HBe := hideS (HBd.out.trans (hbe.mono HBd.out.size))
    clear hbe HBd
    go_wp2_with fail
    go_ret
    exact ⟨rfl, HBe.out⟩
  · rw [decide_eq_false hN] at HFe
    generalize l.length = N at *
    clear hl hf hc hN
    go_enter Tryz.func5, Tryz.ntmps5
    go_wp2_with fail
    refine (turned (HFe.out _)).mono ?_
    rintro e w0 ⟨rfl, rfl⟩
    go_wp2_with fail
    refine (HAw.out _).mono ?_
    rintro e w1 ⟨rfl, hb1⟩
    have HB1 := hideS hb1
    clear hb1
    go_wp2_with fail
    go_ret
    exact ⟨rfl, HB1.out⟩
end Go.Proofs.YtjfldlllofjnbaaGreat
