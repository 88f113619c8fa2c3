/- Slices of ints that came in, as lists. -/
import Derived.Test.YtejpplcccbiplaaSrcI
import Derived.Test.YtejpplcccbiplaaFSrc
namespace Go.Proofs.Ytejpplcccbiplaa
open Go.ChangeShapes Go.WideShapes Go.ChangeAt Go.RowKit

theorem cellsI : Try.prog.cellsOf 3 = 1 := by kernel_rfl

theorem elem_i64 {H : Type} {enc : TypeId × Value → H} {P : Program} {w : World} {base n : Nat} {spare : Nat → Bool} {held : Bool} {e : TypeId} {v : Value} {x : DataW H × List MemPlace} (ht : P.underlying e = some (.int .i64)) (h : DataW.trod enc P w base spare held n e [v] = some x) :
    ∃ b, v = .int .i64 b ∧ (Lit.int .i64 b).wf = true := by
  cases n with
  | zero => simp [DataW.trod] at h
  | succ n =>
    cases v with
    | int k b =>
      simp only [DataW.trod, ht] at h
      by_cases hw : k = .i64 ∧ (Lit.int .i64 b).wf = true
      · obtain ⟨rfl, hw⟩ := hw
        exact ⟨b, rfl, hw⟩
      · rw [if_neg hw] at h; cases h
    | _ => simp [DataW.trod, ht] at h

def intV : Value → Int
  | .int _ b => b
  | _ => 0

/-- A slice of ints that came in: its first k, as a list. -/
theorem sourceI {H : Type} {enc : TypeId × Value → H} {W : World} {ao : Option Addr} {len cap : Nat} {d : DataW H} {ps : List MemPlace} (h : DataW.Trod enc Try.prog W 0 (fun _ => true) true 23 (.slice ao len cap) d ps) :
    len ≤ cap ∧ cap ≤ maxLen ∧ ∀ k, k ≤ len → ∃ b off xs, xs.length = k ∧ SrcI W ao b off xs := by
  obtain ⟨fuel, hf⟩ := h
  rcases Go.Deep.open_slice1 Try.underlying23 cellsI hf with ⟨hcs, _⟩ | ⟨a, len', cap', m, n, V, D, Pl, hcs, _, hl, hm, hmm, _, hc⟩
  · simp [Value.cells] at hcs
    obtain ⟨rfl, rfl, rfl⟩ := hcs
    exact ⟨Nat.le_refl _, Nat.zero_le _, fun k hk => ⟨0, 0, [], by simp; omega, ⟨fun h => by simp at h, fun h => by simp at h, fun j hj => by simp at hj⟩⟩⟩
  · simp [Value.cells] at hcs
    obtain ⟨rfl, rfl, rfl⟩ := hcs
    simp only [if_true] at hmm
    subst hmm
    refine ⟨hl, hm, fun k hk => ?_⟩
    obtain ⟨b, off, spot⟩ := a
    have hv : ∀ i, i < k → W.cell? (Addr.add ⟨b, off, spot⟩ i) = some (.int .i64 (intV (V i))) := fun i hi => by
      obtain ⟨h1, h2⟩ := hc i (by omega)
      obtain ⟨z, hz, hz2⟩ := elem_i64 Try.underlying3 h2
      rw [hz] at h1 ⊢
      exact h1
    have hg : ∀ i, i < k → ((List.range k).map fun i => intV (V i)).getD i 0 = intV (V i) := fun i hi => by simp [List.getD, hi]
    refine ⟨b, off, (List.range k).map fun i => intV (V i), by simp, ⟨fun h0 => ?_, fun h0 => ?_, fun j hj => ?_⟩⟩
    · have h1 := hv 0 (by simpa using h0)
      have h2 := World.cell?_spot h1
      rw [show spot = none by simpa [Addr.add] using h2]
    · have h1 := hv 0 (by simpa using h0)
      have h3 := World.block_lt_of_cell? _ _ h1
      simpa [Addr.add] using h3
    · have hj' : j < k := by simpa using hj
      have h1 := hv j hj'
      have h2 : spot = none := by simpa [Addr.add] using World.cell?_spot (hv 0 (by omega))
      subst h2
      rw [hg j hj', ← h1, Addr.add_lit]
end Go.Proofs.Ytejpplcccbiplaa
