/- The walk of FlowOrder. -/
import Derived.Test.YthddhgjfboeggaaHbb
import Derived.Test.YthddhgjfboeggaaWFlowTwice
import Derived.Test.YthddhgjfboeggaaXmA
import Derived.Test.YthddhgjfboeggaaLexLine
import Derived.BigQuiet
namespace Go.Proofs.Ythddhgjfboeggaa
open Go.RowKit

theorem foNet_some (m r : List Flw) (S : List (Int × Int)) (v : Value) (w : World) (hj : JL w v m) (hc : ChkF m 0 0) (hf : FitJ m) (hS : KeyR m S) (hr : netN m S S.length = some r) :
    Calls Try.prog 6 #[v] w fun e w' => (∃ u, e = .returned (.tuple #[u, .int .i64 0]) ∧ JL w' u r) ∧ Below w.heap.size w w' := by
  obtain ⟨p, g, o, c, rfl, hs⟩ := hj.ex
  refine (jNet_ok m p g o c _ w hs rfl (chk_all hc).1 hf hc).mono fun e w' ⟨S', h1, h2, h3⟩ => ?_
  obtain rfl := KeyR.unique hS h1
  exact ⟨lstO_some h2 hr, h3⟩
theorem foNet_none (m : List Flw) (S : List (Int × Int)) (v : Value) (w : World) (hj : JL w v m) (hc : ChkF m 0 0) (hf : FitJ m) (hS : KeyR m S) (hr : netN m S S.length = none) :
    Calls Try.prog 6 #[v] w fun e w' => e = .returned (.tuple #[.slice none 0 0, .int .i64 91]) ∧ Below w.heap.size w w' := by
  obtain ⟨p, g, o, c, rfl, hs⟩ := hj.ex
  refine (jNet_ok m p g o c _ w hs rfl (chk_all hc).1 hf hc).mono fun e w' ⟨S', h1, h2, h3⟩ => ?_
  obtain rfl := KeyR.unique hS h1
  rcases h2 with ⟨_, h⟩ | ⟨m', u, h, _⟩
  · exact ⟨h, h3⟩
  · rw [hr] at h; cases h
theorem foNet_bad (m : List Flw) (E K : Int) (v : Value) (w : World) (hj : JL w v m) (hm : m.length ≤ 9223372036854775807) (hc : ChkF m E K) (hf : FitJ m) (h0 : E ≠ 0) :
    Calls Try.prog 6 #[v] w fun e w' => e = .returned (.tuple #[.slice none 0 0, .int .i64 E]) ∧ Below w.heap.size w w' := by
  obtain ⟨p, g, o, c, rfl, hs⟩ := hj.ex
  exact jNet_bad m p g o c _ E K w hs rfl hm hf hc h0
/-- What the law is told of Mixed. -/
structure FoM (l : List Flw) (p : Option Addr) (c N : Nat) (pp : Option Addr) (L cp : Nat) (w : World) : Prop where
  mix : ∀ wx, Below w.heap.size w wx → Calls Try.prog 7 #[.slice p N c, .slice pp L cp] wx fun e w' => (∃ u m, e = .returned u ∧ JL w' u m ∧ m.Perm l) ∧ Below wx.heap.size wx w'
theorem foMix (l : List Flw) (p : Option Addr) (b off c N : Nat) (pp : Option Addr) (bp op cp L : Nat) (xs : List Int) (w : World) (hl : JSrc aF w p b off l) (hN : l.length = N) (hnil : p = none → N = 0 ∧ c = 0) (hc : N ≤ 120) (hx : VSrc w pp bp op L (xV xs)) (hL : L ≤ 9223372036854775807) : FoM l p c N pp L cp w :=
  ⟨fun wx hb => (mixed_any l p b off c N pp bp op cp L xs wx (hl.below hb) hN hnil (by omega) (hx.below hb) hL).mono fun e w' ⟨u, m, h1, h2, h3, h4⟩ => ⟨⟨u, m, h1, JL.own (base := wx.heap.size) (by rw [h3.length_eq, hN]; exact h2), h3⟩, h4⟩⟩

set_option maxRecDepth 20000 in
set_option maxHeartbeats 6400000 in
/-- Where Check refuses. -/
theorem flowOrder_bad (p : Option Addr) (b off c N : Nat) (l : List Flw) (pp : Option Addr) (cp L : Nat) (w : World) (E K : Int) (hl : JSrc aF w p b off l) (hN : l.length = N) (hf : FitJ l) (hN2 : N ≤ 120) (HM : FoM l p c N pp L cp w) (hE : ChkF l E K) (hE0 : E ≠ 0) :
    Calls Try.prog 3 #[.slice p N c, .slice pp L cp] w fun e w' => e = .returned (.bool true) ∧ Below w.heap.size w w' := by
  have HAw := hideS awake14
  have HFe := hideS fun wx => few14_any p N c wx (by omega)
  rw [decide_eq_true hN2] at HFe
  have HN1 := hideS (jNet_bad l p b off c N E K w hl hN (by omega) hf hE hE0)
  have HMx := hideS HM.mix
  have HN2 : Hid (∀ m u wx, JL wx u m → m.Perm l → ∃ E', (E' != 0) = true ∧ Calls Try.prog 6 #[u] wx fun e w' => e = .returned (.tuple #[.slice none 0 0, .int .i64 E']) ∧ Below wx.heap.size wx w') := fun m u wx hj hp => by
    obtain ⟨E', K', h1, h2⟩ := chk_perm hp hE hE0
    exact ⟨E', bne_iff_ne.2 h2, foNet_bad m E' K' u wx hj (by rw [hp.length_eq]; omega) h1 (fit_perm hp hf) h2⟩
  have d1 : (E != 0) = true := bne_iff_ne.2 hE0
  clear hl hN hf hN2 HM hE hE0
  go_enter Try.func3, Try.ntmps3
  go_wp2_with fail
  refine (turned (HFe.out _)).mono ?_
  rintro e w0 ⟨rfl, rfl⟩
  go_wp2_with fail
  refine HN1.out.mono ?_
  rintro e w1 ⟨rfl, hb1⟩
  have HB1 := hideS hb1
  clear hb1
  go_wp2_with fail
  refine (HMx.out w1 HB1.out).mono ?_
  rintro e w2 ⟨⟨u, m, rfl, hj, hp⟩, hb2⟩
  have HB2 := hideS (HB1.out.trans (hb2.mono HB1.out.size))
  obtain ⟨E', d2, hn2⟩ := HN2.out m u w2 hj hp
  have HN3 := hideS hn2
  clear hj hp hb2 HB1 hn2
  go_wp2_with fail
  refine HN3.out.mono ?_
  rintro e w3 ⟨rfl, hb3⟩
  have HB3 := hideS (HB2.out.trans (hb3.mono HB2.out.size))
  clear hb3 HB2
  go_wp2_with fail
  refine (HAw.out w3).mono ?_
  rintro e wa ⟨rfl, hba⟩
  have HBa := hideS (HB3.out.trans (hba.mono HB3.out.size))
  clear hba HB3
  go_wp2_with fail
  go_ret
  exact ⟨rfl, HBa.out⟩

set_option maxRecDepth 20000 in
set_option maxHeartbeats 6400000 in
/-- Where a sum is no number. -/
theorem flowOrder_none (p : Option Addr) (b off c N : Nat) (l : List Flw) (S : List (Int × Int)) (pp : Option Addr) (cp L : Nat) (w : World) (hl : JSrc aF w p b off l) (hN : l.length = N) (hf : FitJ l) (hN2 : N ≤ 120) (HM : FoM l p c N pp L cp w) (hE : ChkF l 0 0) (hS : KeyR l S) (hr : netN l S S.length = none) :
    Calls Try.prog 3 #[.slice p N c, .slice pp L cp] w fun e w' => e = .returned (.bool true) ∧ Below w.heap.size w w' := by
  have HAw := hideS awake14
  have HFe := hideS fun wx => few14_any p N c wx (by omega)
  rw [decide_eq_true hN2] at HFe
  have HN1 := hideS (foNet_none l S (.slice p N c) w ⟨p, b, off, c, by rw [hN], hl⟩ hE hf hS hr)
  have HMx := hideS HM.mix
  have HN2 : Hid (∀ m u wx, JL wx u m → m.Perm l → Calls Try.prog 6 #[u] wx fun e w' => e = .returned (.tuple #[.slice none 0 0, .int .i64 91]) ∧ Below wx.heap.size wx w') := fun m u wx hj hp => by
    obtain ⟨h1, h2, h3⟩ := net_perm hp hE hf hS
    exact foNet_none m S u wx hj h1 (fit_perm hp hf) h2 (h3.trans hr)
  clear hl hN hf hN2 HM hE hS hr
  go_enter Try.func3, Try.ntmps3
  go_wp2_with fail
  refine (turned (HFe.out _)).mono ?_
  rintro e w0 ⟨rfl, rfl⟩
  go_wp2_with fail
  refine HN1.out.mono ?_
  rintro e w1 ⟨rfl, hb1⟩
  have HB1 := hideS hb1
  clear hb1
  go_wp2_with fail
  refine (HMx.out w1 HB1.out).mono ?_
  rintro e w2 ⟨⟨u, m, rfl, hj, hp⟩, hb2⟩
  have HB2 := hideS (HB1.out.trans (hb2.mono HB1.out.size))
  have HN3 := hideS (HN2.out m u w2 hj hp)
  clear hj hp hb2 HB1
  go_wp2_with fail
  refine HN3.out.mono ?_
  rintro e w3 ⟨rfl, hb3⟩
  have HB3 := hideS (HB2.out.trans (hb3.mono HB2.out.size))
  clear hb3 HB2
  go_wp2_with fail
  refine (HAw.out w3).mono ?_
  rintro e wa ⟨rfl, hba⟩
  have HBa := hideS (HB3.out.trans (hba.mono HB3.out.size))
  clear hba HB3
  go_wp2_with fail
  go_ret
  exact ⟨rfl, HBa.out⟩
set_option maxRecDepth 20000 in
set_option maxHeartbeats 6400000 in
/-- Of many flows. -/
theorem flowOrder_many (p : Option Addr) (c N : Nat) (pp : Option Addr) (cp L : Nat) (w : World) (hc : N ≤ 9223372036854775807) (hN2 : ¬ N ≤ 120) :
    Calls Try.prog 3 #[.slice p N c, .slice pp L cp] w fun e w' => e = .returned (.bool true) ∧ Below w.heap.size w w' := by
  have HAw := hideS awake14
  have HFe := hideS fun wx => few14_any p N c wx hc
  rw [decide_eq_false hN2] at HFe
  clear hN2 hc
  go_enter Try.func3, Try.ntmps3
  go_wp2_with fail
  refine (turned (HFe.out _)).mono ?_
  rintro e w0 ⟨rfl, rfl⟩
  go_wp2_with fail
  refine (HAw.out _).mono ?_
  rintro e wa ⟨rfl, hba⟩
  have HBa := hideS hba
  clear hba
  go_wp2_with fail
  go_ret
  exact ⟨rfl, HBa.out⟩
end Go.Proofs.Ythddhgjfboeggaa
