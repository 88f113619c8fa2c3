/- The statement of IeeeSorts: for every input the law answers true, and what it was handed reads as before. -/
import Derived.Test.YtkmhfjklldhfjaaWIeeeSorts
import Derived.ProofKit
import Derived.OpenShut
import Derived.Carry
import Derived.Deep.Slices
namespace Go.Proofs.Ytkmhfjklldhfjaa
open Go.ChangeShapes Go.WideShapes Go.ChangeAt Go.RowKit

theorem sorts_laid : laidOutB Try.prog = true := by kernel_rfl
theorem cellsF : Try.prog.cellsOf 23 = 1 := by kernel_rfl

theorem elem_f64 {H : Type} {enc : TypeId × Value → H} {P : Program} {w : World} {base n : Nat} {spare : Nat → Bool} {held : Bool} {e : TypeId} {v : Value} {x : DataW H × List MemPlace} (ht : P.underlying e = some (.float .f64)) (h : DataW.trod enc P w base spare held n e [v] = some x) :
    ∃ b, v = .float .f64 b ∧ b < 18446744073709551616 := by
  cases n with
  | zero => simp [DataW.trod] at h
  | succ n =>
    cases v with
    | float k b =>
      simp only [DataW.trod, ht] at h
      by_cases hw : k = .f64 ∧ (Lit.float .f64 b).wf = true
      · obtain ⟨rfl, hw⟩ := hw
        exact ⟨b, rfl, by simpa [Lit.wf] using hw⟩
      · rw [if_neg hw] at h; cases h
    | _ => simp [DataW.trod, ht] at h

def bitsV : Value → Nat
  | .float _ b => b
  | _ => 0

/-- A slice of floats that came in: its first k, as a list. -/
theorem source {H : Type} {enc : TypeId × Value → H} {W : World} {ao : Option Addr} {len cap : Nat} {d : DataW H} {ps : List MemPlace} (h : DataW.Trod enc Try.prog W 0 (fun _ => true) true 22 (.slice ao len cap) d ps) :
    len ≤ cap ∧ cap ≤ maxLen ∧ ∀ k, k ≤ len → ∃ b off xs, xs.length = k ∧ Src W ao b off xs ∧ Fit xs := by
  obtain ⟨fuel, hf⟩ := h
  rcases Go.Deep.open_slice1 Try.underlying22 cellsF hf with ⟨hcs, _⟩ | ⟨a, len', cap', m, n, V, D, Pl, hcs, _, hl, hm, hmm, _, hc⟩
  · simp [Value.cells] at hcs
    obtain ⟨rfl, rfl, rfl⟩ := hcs
    exact ⟨Nat.le_refl _, Nat.zero_le _, fun k hk => ⟨0, 0, [], by simp; omega, ⟨fun h => by simp at h, fun h => by simp at h, fun j hj => by simp at hj⟩, fun x hx => by simp at hx⟩⟩
  · simp [Value.cells] at hcs
    obtain ⟨rfl, rfl, rfl⟩ := hcs
    simp only [if_true] at hmm
    subst hmm
    refine ⟨hl, hm, fun k hk => ?_⟩
    obtain ⟨b, off, spot⟩ := a
    have hv : ∀ i, i < k → W.cell? (Addr.add ⟨b, off, spot⟩ i) = some (.float .f64 (bitsV (V i))) ∧ bitsV (V i) < 18446744073709551616 := fun i hi => by
      obtain ⟨h1, h2⟩ := hc i (by omega)
      obtain ⟨z, hz, hz2⟩ := elem_f64 Try.underlying23 h2
      rw [hz] at h1 ⊢
      exact ⟨h1, hz2⟩
    have hg : ∀ i, i < k → ((List.range k).map fun i => bitsV (V i)).getD i 0 = bitsV (V i) := fun i hi => by simp [List.getD, hi]
    refine ⟨b, off, (List.range k).map fun i => bitsV (V i), by simp, ⟨fun h0 => ?_, fun h0 => ?_, fun j hj => ?_⟩, fun x hx => ?_⟩
    · have h1 := (hv 0 (by simpa using h0)).1
      have h2 := World.cell?_spot h1
      rw [show spot = none by simpa [Addr.add] using h2]
    · have h1 := (hv 0 (by simpa using h0)).1
      have h3 := World.block_lt_of_cell? _ _ h1
      simpa [Addr.add] using h3
    · have hj' : j < k := by simpa using hj
      have h1 := (hv j hj').1
      have h2 : spot = none := by simpa [Addr.add] using World.cell?_spot (hv 0 (by omega)).1
      subst h2
      rw [hg j hj', ← h1, Addr.add_lit]
    · obtain ⟨i, hi, rfl⟩ := List.mem_map.1 hx
      exact (hv i (by simpa using hi)).2

theorem ieeeSorts_own : ownKnob Try.prog.godebug = none := by kernel_rfl

set_option maxRecDepth 100000 in
theorem ieeeSorts_lifted (os : Os) (started : os.Started) (H : Type) (enc : TypeId × Value → H) :
    ReturnsInHanded {} Try.checked os 3 .any (Rows.ieeeSortsSpec.pre6 enc Try.prog Try.f3 Rows.ieeeSortsRow.domain false) (Rows.ieeeSortsSpec.post enc Try.prog Try.f3 false true false false) := by
  refine returnsInHanded_of_change (C := Try.checked) ieeeSorts_own started (by kernel_rfl) Try.func3
    (ChangeSpec.witness6 (enc := enc) (C := Try.checked) false ⟨#[], #[.slice none 0 0, .float .f64 0, .float .f64 0], []⟩ 8 (by kernel_rfl) (by kernel_rfl) (by kernel_rfl) (by kernel_rfl)) ?_
  intro W base args ds gs before hval0 hW hcnd _
  have hval : ∀ (j : Nat) t v, Try.f3.params[j]? = some t → args[j]? = some v → Value.okWide Try.prog W .any base t v := hval0
  have hW' := hW
  obtain ⟨p, q, hA0, hV, rfl, hfz, hnd⟩ := hW
  have hA : DataW.TrodAll enc Try.prog W 0 (fun _ => true) true Try.f3.params.toList args.toList ds p := hA0
  rw [Try.params3] at hA hval
  obtain ⟨v0, vs0, d0, ds0, p0, q0, hargs, rfl, rfl, h0, r0⟩ := trodAll_cons hA
  obtain ⟨v1, vs1, d1, ds1, p1, q1, rfl, rfl, rfl, h1, r1⟩ := trodAll_cons r0
  obtain ⟨v2, vs2, d2, ds2, p2, q2, rfl, rfl, rfl, h2, r2⟩ := trodAll_cons r1
  obtain ⟨rfl, rfl, rfl⟩ := trodAll_nil r2
  obtain rfl : args = #[v0, v1, v2] := by cases args; simp_all
  obtain ⟨rfl, rfl⟩ := trodVars_none hV
  obtain ⟨ao, len, cap, rfl⟩ := okWide_slice Try.underlying22 (hval 0 22 v0 rfl rfl)
  obtain ⟨a1, rfl, rfl, rfl, w1⟩ := open_float Try.underlying23 (hval 1 23 v1 rfl rfl) h1
  obtain ⟨a2, rfl, rfl, rfl, w2⟩ := open_float Try.underlying23 (hval 2 23 v2 rfl rfl) h2
  clear hA0 hval0
  simp only [List.append_nil] at hW'
  have hlt : ∀ x ∈ p0, x.block < W.heap.size := fun x hx => by simpa using hW'.lt x (by simpa using hx)
  have hwalk : Calls Try.prog 3 #[.slice ao len cap, .float .f64 a1, .float .f64 a2] W fun e w' => e = .returned (.bool true) ∧ Below W.heap.size W w' := by
    obtain ⟨hl, hm, hsrc⟩ := source h0
    by_cases hn : len ≤ 200
    · obtain ⟨b, off, xs, hx, hs, hf⟩ := hsrc len (Nat.le_refl _)
      have := sorts_small ao b off cap xs a1 a2 W hs hf (by omega) (u64_of_wf w1) (u64_of_wf w2)
      rw [hx] at this
      exact this
    · obtain ⟨b, off, xs, hx, hs, hf⟩ := hsrc 200 (by omega)
      exact sorts_great ao b off cap xs len a1 a2 W hs hf (by omega) hl (by simpa [maxLen] using hm) hx (u64_of_wf w1) (u64_of_wf w2)
  refine hwalk.mono fun e W' ⟨he, hg⟩ => ?_
  subst he
  exact ⟨_, rfl, _, _, _, [], _, [], hW', (trodAll_cons_mk (shut_bool Try.underlying4 _) trodAll_mk0), (trodAll_cons_mk (Below.trod sorts_laid (by kernel_rfl) (of_decide_eq_true (by kernel_rfl)) h0 hg hlt) (trodAll_cons_mk (shut_float Try.underlying23 w1) (trodAll_cons_mk (shut_float Try.underlying23 w2) trodAll_mk0))), rfl, hg.frame _, fun h => by cases h⟩

theorem ieeeSorts_holds : Rows.IeeeSortsSaid :=
  OpenClaim.holds_of_wide 3 Try.f3 rfl rfl rfl rfl rfl rfl rfl ⟨rfl, rfl, rfl, rfl, rfl⟩ rfl rfl rfl rfl rfl (by kernel_rfl) Try.func3 (by kernel_rfl)
    (of_decide_eq_true (by kernel_rfl)) (by unfold Func.isWrapper; rw [if_neg (by decide +kernel)]; exact ⟨rfl, rfl⟩)
    (fun os started H enc _ => ieeeSorts_lifted os started H enc)
#print axioms ieeeSorts_holds
end Go.Proofs.Ytkmhfjklldhfjaa
