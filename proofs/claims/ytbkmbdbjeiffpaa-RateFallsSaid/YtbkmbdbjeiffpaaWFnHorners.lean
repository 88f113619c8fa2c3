/- The walk of FnHorners: any coefficients, any float. -/
import Derived.Test.YtbkmbdbjeiffpaaHau
import Derived.Test.YtbkmbdbjeiffpaaFAwake
namespace Go.Proofs.Ytbkmbdbjeiffpaa
open Go.RowKit

theorem isA (a : Nat) (u : Int) (w : World) (h : Hid (U64 a)) (h' : Hid (U64 u)) (hs : Hid (sameB (a : Int) u = true)) :
    Calls Try.prog 10 #[.float .f64 a, .int .u64 u] w fun e w' => e = .returned (.bool true) ∧ w = w' := by
  have := is_any a u w h.out h'.out
  rw [hs.out] at this
  exact this.mono fun _ _ ⟨a, b⟩ => ⟨a, b.symm⟩
theorem below_dr2 {B : Nat} {w w1 w2 : World} (hb : Below B w w1) (h : ∃ q, w2 = w1.drewN q) : Below B w w2 := by
  obtain ⟨q, rfl⟩ := h
  exact ⟨hb.os, hb.tape, hb.output, hb.size, hb.block⟩
theorem ag_lt {o : Option Nat} {r : Nat} (h : Ag o r) (ho : ∀ q, o = some q → q < 18446744073709551616) : r < 18446744073709551616 := by
  cases o with
  | none => exact (ag_none h).2
  | some q => rw [ag_some h]; exact ho q rfl
theorem horn_lt {cs : List Nat} {x : Nat} (hf : FitL cs) : ∀ k q, hornAt cs x k = some q → q < 18446744073709551616
  | 0, q, h => by
    have : cs.getD (cs.length - 1) 0 = q := Option.some.inj h
    rw [← this]; exact hf.get _
  | k + 1, q, h => by
    have h2 : stepO x (hornAt cs x k) (cs.getD (cs.length - 2 - k) 0) = some q := h
    rw [← stepO_cn] at h2
    exact float_lt (by simp) h2
theorem hornO_lt {cs : List Nat} {x : Nat} (hf : FitL cs) (q : Nat) (h : hornO cs x = some q) : q < 18446744073709551616 := by
  unfold hornO at h
  split at h
  · have : 0 = q := Option.some.inj h
    omega
  · exact horn_lt hf _ q h
theorem cn_hornO_lt {cs : List Nat} {x : Nat} (hf : FitL cs) : cn (hornO cs x) < 18446744073709551616 := by
  cases h : hornO cs x with
  | none => decide
  | some q => exact hornO_lt hf q h
