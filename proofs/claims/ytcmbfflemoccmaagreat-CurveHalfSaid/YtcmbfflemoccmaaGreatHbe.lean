/- The contracts of package rate's compound and formulasOf. The contracts of package rate's Factor, Yield and Forward. Factor, Yield and Forward: program and document tell the same; the laws' awake. -/
import Derived.Test.YtcmbfflemoccmaaGreatHbb
import Derived.Laws.EntriesVeiled
import Derived.Test.YtcmbfflemoccmaaGreatHar
import Derived.Test.YtcmbfflemoccmaaGreatHaz
namespace Go.Proofs.YtcmbfflemoccmaaGreat
open Go.RowKit

end Go.Proofs.YtcmbfflemoccmaaGreat
namespace Go.Proofs.YtcmbfflemoccmaaGreat
open Go.RowKit

set_option maxHeartbeats 1600000 in
theorem forward_ok (a b c z : Nat) (w : World) (ha : a < 18446744073709551616) (hb : b < 18446744073709551616) (hc : c < 18446744073709551616) (ask : (posB (a : Int) && posB (b : Int) && posB (c : Int)) = true) (hz : Ag (fwdO a b c) z) :
    Calls Tryz.prog 36 #[.float .f64 a, .float .f64 b, .float .f64 c] w fun e w' => e = .returned (.tuple #[.float .f64 (enyN z), .int .i64 (enyE (z : Int))]) ∧ Below w.heap.size w w' := by
  have H1 := hideS fun w => turned (isPos_any a w (u64_of_nat ha))
  have H2 := hideS fun w => turned (isPos_any b w (u64_of_nat hb))
  have H3 := hideS fun w => turned (isPos_any c w (u64_of_nat hc))
  have hcs : posB (a : Int) = true ∧ posB (b : Int) = true ∧ posB (c : Int) = true := by
    cases h1 : posB (a : Int) <;> cases h2 : posB (b : Int) <;> cases h3 : posB (c : Int) <;> simp [h1, h2, h3] at ask ⊢
  obtain ⟨h1, h2, h3⟩ := hcs
  rw [h1] at H1
  rw [h2] at H2
  rw [h3] at H3
  obtain ⟨q, ⟨q1, r1⟩, g1⟩ := op_prog .quo (by simp) 38 (agU_some ha) (agU_some hb) w
  obtain ⟨d, ⟨q2, r2⟩, g2⟩ := op_prog .sub (by simp) 38 g1 agU_one (w.drewN q1)
  obtain ⟨y, ⟨q3, r3⟩, g3⟩ := op_prog .quo (by simp) 38 g2 (agU_some hc) ((w.drewN q1).drewN q2)
  rw [World.drewN_drewN] at r3
  obtain ⟨e1, e2⟩ := eny_ag (o := fwdO a b c) g3.1 hz
  have HN := hideS fun w => number_any y w g3.u
  rw [e1, e2] at HN
  have HB : Hid (∀ q, Below w.heap.size w (w.drewN q)) := below_dN (Below.refl _ _)
  clear ha hb hc ask hz e1 e2 g1 g2 g3 h1 h2 h3
  generalize enyN z = E at *
  generalize enyE (z : Int) = F at *
  go_enter Tryz.func36, Tryz.ntmps36
  go_wp2_with fail
  refine (H1.out _).mono ?_
  rintro e w' ⟨rfl, rfl⟩
  go_wp2_with fail
  refine (H2.out _).mono ?_
  rintro e w' ⟨rfl, rfl⟩
  go_wp2_with fail
  refine (H3.out _).mono ?_
  rintro e w' ⟨rfl, rfl⟩
  go_wp2_with fail
  refine (HN.out _).mono ?_
  rintro e w' ⟨rfl, rfl⟩
  go_wp2_with fail
  go_ret2
  exact ⟨rfl, HB.out _⟩
end Go.Proofs.YtcmbfflemoccmaaGreat
namespace Go.Proofs.YtcmbfflemoccmaaGreat
open Go.RowKit

end Go.Proofs.YtcmbfflemoccmaaGreat
