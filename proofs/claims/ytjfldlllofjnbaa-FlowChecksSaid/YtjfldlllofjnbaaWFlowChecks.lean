/- The walk of FlowChecks. -/
import Derived.Test.YtjfldlllofjnbaaHat
import Derived.Test.YtjfldlllofjnbaaHal
namespace Go.Proofs.Ytjfldlllofjnbaa
open Go.RowKit

set_option maxRecDepth 20000 in
set_option maxHeartbeats 3200000 in
theorem flowChecks_walk (p : Option Addr) (b off c : Nat) (l : List Flw) (w : World) (hl : JSrc aF w p b off l) (hf : FitL l) (hc : l.length * 24 ≤ 140737488355328) :
    Calls Try.prog 3 #[.slice p l.length c] w fun e w' => e = .returned (.bool true) ∧ Below w.heap.size w w' := by
  obtain ⟨E, K, hE⟩ := chkF_ex l
  obtain ⟨N, hN⟩ : ∃ N, l.length = N := ⟨_, rfl⟩
  rw [hN] at hc ⊢
  have H1 := hideS (jCheck_any l p b off c N E K w hl hN (by omega) hf hE)
  have H2 := hideS fun wx (hb : Below w.heap.size w wx) => ref14Of_any l p b off c N wx (hl.below hb) hN hc
  have H3 := hideS fun q g k wx (hs : JSrc aB wx q g 0 l) => ref14Check_any l q g 0 k N E K wx hs hN (by omega) hf hE
  have H4 := hideS awake14
  have HN := hideS hN
  clear hl hf hc hE hN
  go_enter Try.func3, Try.ntmps3
  go_wp2_with fail
  refine H1.out.mono ?_
  rintro e w1 ⟨rfl, hb1⟩
  have HB1 := hideS hb1
  clear hb1
  go_wp2_with fail
  refine (H2.out w1 HB1.out).mono ?_
  rintro e w2 ⟨⟨u, rfl, ho⟩, hb2⟩
  have HB2 := hideS (HB1.out.trans (hb2.mono HB1.out.size))
  obtain ⟨q, g, k, rfl, hs, _, _, _⟩ := fown_src ho HN.out
  have H3' := hideS (H3.out q g k w2 hs)
  clear ho hb2 hs H2 H3
  go_wp2_with fail
  refine H3'.out.mono ?_
  rintro e w3 ⟨rfl, hb3⟩
  have HB3 := hideS (HB2.out.trans (hb3.mono HB2.out.size))
  clear hb3
  go_wp2_with fail
  refine (H4.out w3).mono ?_
  rintro e w4 ⟨rfl, hb4⟩
  have HB4 := hideS (HB3.out.trans (hb4.mono HB3.out.size))
  clear hb4
  go_wp2_with fail
  go_ret
  exact ⟨rfl, HB4.out⟩
end Go.Proofs.Ytjfldlllofjnbaa
