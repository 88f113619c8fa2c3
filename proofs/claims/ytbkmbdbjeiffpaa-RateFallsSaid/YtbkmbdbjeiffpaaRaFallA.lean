/- The walk of RateFalls: under the simple kind the factor does not rise; Forward goes with the near factor, against the far one. -/
import Derived.Test.YtbkmbdbjeiffpaaRaN
import Derived.Test.YtbkmbdbjeiffpaaHbc
namespace Go.Proofs.Ytbkmbdbjeiffpaa
open Go.RowKit

set_option maxRecDepth 20000 in
set_option maxHeartbeats 6400000 in
/-- Where nothing is asked. -/
theorem rateFalls_out (r s t u : Nat) (g1 e1 g2 e2 f1 f2 gt nb : Bool) (w : World) (hs : s < 18446744073709551616) (ht : t < 18446744073709551616) (hu : u < 18446744073709551616)
    (o1 : (FloatKind.f64.format.order r 0 == some .gt) = g1) (o2 : (FloatKind.f64.format.order r 0 == some .eq) = e1) (o3 : (FloatKind.f64.format.order s r == some .gt) = g2) (o4 : (FloatKind.f64.format.order s r == some .eq) = e2)
    (hf1 : fitB (t : Int) = f1) (hf2 : fitB (u : Int) = f2) (o5 : (FloatKind.f64.format.order t u == some .gt) = gt) (hnb : decide (NumB s) = nb)
    (h : ((g1 || e1) && (g2 || e2) && f1 && f2 && !gt && nb) = false) :
    Calls Try.prog 6 #[.float .f64 r, .float .f64 s, .float .f64 t, .float .f64 u] w fun e w' => e = .returned (.bool true) ∧ Below w.heap.size w w' := by
  have HF := hideS fun w => turned (fits_any t w (u64_of_nat ht))
  have HG := hideS fun w => turned (fits_any u w (u64_of_nat hu))
  obtain ⟨d, ⟨q, hrun⟩, hd⟩ := sub_test s hs w
  rw [hf1] at HF
  rw [hf2] at HG
  rw [hnb] at hd
  clear hs ht hu hf1 hf2 hnb
  have hc : (g1 || e1) = false ∨ ((g1 || e1) = true ∧ (g2 || e2) = false) ∨ ((g1 || e1) = true ∧ (g2 || e2) = true ∧ f1 = false) ∨ ((g1 || e1) = true ∧ (g2 || e2) = true ∧ f1 = true ∧ f2 = false) ∨ ((g1 || e1) = true ∧ (g2 || e2) = true ∧ f1 = true ∧ f2 = true ∧ gt = true) ∨ ((g1 || e1) = true ∧ (g2 || e2) = true ∧ f1 = true ∧ f2 = true ∧ gt = false ∧ nb = false) := by
    generalize (g1 || e1) = ge at h ⊢
    generalize (g2 || e2) = gs at h ⊢
    cases ge <;> cases gs <;> cases f1 <;> cases f2 <;> cases gt <;> cases nb <;> simp at h ⊢
  clear h
  rcases hc with c1 | ⟨c1, c2⟩ | ⟨c1, c2, rfl⟩ | ⟨c1, c2, rfl, rfl⟩ | ⟨c1, c2, rfl, rfl, rfl⟩ | ⟨c1, c2, rfl, rfl, rfl, rfl⟩
  all_goals
    go_enter Try.func6, Try.ntmps6
    go_wp2_with (first | (go_at_call_of 14 (Value.float FloatKind.f64 t); refine (HF.out _).mono ?_; rintro e w' ⟨rfl, rfl⟩) | (go_at_call 14; refine (HG.out _).mono ?_; rintro e w' ⟨rfl, rfl⟩) | (go_at_call 11; refine (awake9 _).mono ?_; rintro e w9 ⟨rfl, hb⟩))
    go_ret
    first | exact ⟨rfl, hb⟩ | exact ⟨rfl, hb.os, hb.tape, hb.output, hb.size, hb.block⟩

/-- What the law has at hand where it asks. -/
structure FallH (r s t u : Nat) (g1 e1 g2 e2 : Bool) : Prop where
  o1 : (FloatKind.f64.format.order r 0 == some .gt) = g1
  o2 : (FloatKind.f64.format.order r 0 == some .eq) = e1
  o3 : (FloatKind.f64.format.order s r == some .gt) = g2
  o4 : (FloatKind.f64.format.order s r == some .eq) = e2
  ge : (g1 || e1) = true
  gs : (g2 || e2) = true
  ft : ∀ w, Calls Try.prog 14 #[.float .f64 t] w fun e w' => e = .returned (.bool true) ∧ w = w'
  fu : ∀ w, Calls Try.prog 14 #[.float .f64 u] w fun e w' => e = .returned (.bool true) ∧ w = w'
  tu : (FloatKind.f64.format.order t u == some .gt) = false
  ns : floatBits .sub .f64 s s = some 0

end Go.Proofs.Ytbkmbdbjeiffpaa
