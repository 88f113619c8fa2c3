/- The walk of RateFactors: Factor of any kind, rate and time. -/
import Derived.Test.YtbkmbdbjeiffpaaRaH
import Derived.Test.YtbkmbdbjeiffpaaWFnHorners
namespace Go.Proofs.Ytbkmbdbjeiffpaa
open Go.RowKit

set_option maxRecDepth 20000 in
set_option maxHeartbeats 1600000 in
theorem rateFactors_walk (kind : Int) (r t : Nat) (_ : (Lit.int .i64 kind).wf = true) (wr : (Lit.float .f64 r).wf = true) (wt : (Lit.float .f64 t).wf = true) (w : World) :
    Calls Try.prog 3 #[.int .i64 kind, .float .f64 r, .float .f64 t] w fun e w' => e = .returned (.bool true) ∧ Below w.heap.size w w' := by
  have hr := u64_of_wf wr
  have ht := u64_of_wf wt
  obtain ⟨F, E, h⟩ := factor_both kind r t (by have := hr.2; omega) (by have := ht.2; omega)
  have HP := hideS h.prog
  have HD := hideS h.doc
  have B1 := hideS (bits_any r)
  have B2 := hideS (bits_any t)
  have HIs := hideS fun w => isA F (F : Int) w (u64_of_nat h.lt) (u64_of_nat h.lt) (sameB_refl _)
  clear wr wt hr ht h
  generalize (F : Int) = u at HD HIs
  generalize (r : Int) = ri at HD B1
  generalize (t : Int) = ti at HD B2
  go_enter Try.func3, Try.ntmps3
  go_wp2_with fail
  refine (HP.out _).mono ?_
  rintro e w1 ⟨rfl, hb1⟩
  go_wp2_with fail
  refine (turned (B1.out _)).mono ?_
  rintro e w' ⟨rfl, rfl⟩
  go_wp2_with fail
  refine (turned (B2.out _)).mono ?_
  rintro e w' ⟨rfl, rfl⟩
  go_wp2_with fail
  refine (HD.out _).mono ?_
  rintro e w2 ⟨rfl, hb2⟩
  have C2 := hideS (hb1.trans (hb2.mono hb1.size))
  clear hb1 hb2
  go_wp2_with fail
  refine (HIs.out _).mono ?_
  rintro e w' ⟨rfl, rfl⟩
  go_wp2_with (go_at_call 11; refine (awake9 _).mono ?_; rintro e w3 ⟨rfl, hb3⟩)
  go_ret
  exact ⟨rfl, C2.out.trans (hb3.mono C2.out.size)⟩
end Go.Proofs.Ytbkmbdbjeiffpaa
