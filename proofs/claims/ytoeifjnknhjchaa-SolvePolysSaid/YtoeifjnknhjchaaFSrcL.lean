/- Slices of floats that came in, as lists. -/
import Derived.Test.YtoeifjnknhjchaaHal
import Derived.ProofKit
import Derived.OpenShut
import Derived.Carry
import Derived.Deep.Slices
namespace Go.Proofs.Ytoeifjnknhjchaa
open Go.ChangeShapes Go.WideShapes Go.ChangeAt Go.RowKit

theorem four_laid : laidOutB Try.prog = true := by kernel_rfl
theorem cellsF : Try.prog.cellsOf 23 = 1 := by kernel_rfl

theorem elem_f64 {H : Type} {enc : TypeId × Value → H} {P : Program} {w : World} {base n : Nat} {spare : Nat → Bool} {held : Bool} {e : TypeId} {v : Value} {x : DataW H × List MemPlace} (ht : P.underlying e = some (.float .f64)) (h : DataW.trod enc P w base spare held n e [v] = some x) :
    ∃ b, v = .float .f64 b ∧ b < 18446744073709551616 := by
  cases n with
  | zero => simp [DataW.trod] at h
  | succ n =>
    cases v with
    | float k b =>
      simp only [DataW.trod, ht] at h
      by_cases hw : k = .f64 ∧ (Lit.float .f64 b).wf = true
      · obtain ⟨rfl, hw⟩ := hw
        exact ⟨b, rfl, by simpa [Lit.wf] using hw⟩
      · rw [if_neg hw] at h; cases h
    | _ => simp [DataW.trod, ht] at h

def bitsV : Value → Nat
  | .float _ b => b
  | _ => 0

/-- A slice of floats that came in: its first k, as a list. -/
theorem source {H : Type} {enc : TypeId × Value → H} {W : World} {ao : Option Addr} {len cap : Nat} {d : DataW H} {ps : List MemPlace} (h : DataW.Trod enc Try.prog W 0 (fun _ => true) true 22 (.slice ao len cap) d ps) :
    len ≤ cap ∧ cap ≤ maxLen ∧ ∀ k, k ≤ len → ∃ b off xs, xs.length = k ∧ Src W ao b off xs ∧ FitL xs := by
  obtain ⟨fuel, hf⟩ := h
  rcases Go.Deep.open_slice1 Try.underlying22 cellsF hf with ⟨hcs, _⟩ | ⟨a, len', cap', m, n, V, D, Pl, hcs, _, hl, hm, hmm, _, hc⟩
  · simp [Value.cells] at hcs
    obtain ⟨rfl, rfl, rfl⟩ := hcs
    exact ⟨Nat.le_refl _, Nat.zero_le _, fun k hk => ⟨0, 0, [], by simp; omega, ⟨fun h => by simp at h, fun h => by simp at h, fun j hj => by simp at hj⟩, fun x hx => by simp at hx⟩⟩
  · simp [Value.cells] at hcs
    obtain ⟨rfl, rfl, rfl⟩ := hcs
    simp only [if_true] at hmm
    subst hmm
    refine ⟨hl, hm, fun k hk => ?_⟩
    obtain ⟨b, off, spot⟩ := a
    have hv : ∀ i, i < k → W.cell? (Addr.add ⟨b, off, spot⟩ i) = some (.float .f64 (bitsV (V i))) ∧ bitsV (V i) < 18446744073709551616 := fun i hi => by
      obtain ⟨h1, h2⟩ := hc i (by omega)
      obtain ⟨z, hz, hz2⟩ := elem_f64 Try.underlying23 h2
      rw [hz] at h1 ⊢
      exact ⟨h1, hz2⟩
    have hg : ∀ i, i < k → ((List.range k).map fun i => bitsV (V i)).getD i 0 = bitsV (V i) := fun i hi => by simp [List.getD, hi]
    refine ⟨b, off, (List.range k).map fun i => bitsV (V i), by simp, ⟨fun h0 => ?_, fun h0 => ?_, fun j hj => ?_⟩, fun x hx => ?_⟩
    · have h1 := (hv 0 (by simpa using h0)).1
      have h2 := World.cell?_spot h1
      rw [show spot = none by simpa [Addr.add] using h2]
    · have h1 := (hv 0 (by simpa using h0)).1
      have h3 := World.block_lt_of_cell? _ _ h1
      simpa [Addr.add] using h3
    · have hj' : j < k := by simpa using hj
      have h1 := (hv j hj').1
      have h2 : spot = none := by simpa [Addr.add] using World.cell?_spot (hv 0 (by omega)).1
      subst h2
      rw [hg j hj', ← h1, Addr.add_lit]
    · obtain ⟨i, hi, rfl⟩ := List.mem_map.1 hx
      exact (hv i (by simpa using hi)).2

end Go.Proofs.Ytoeifjnknhjchaa
