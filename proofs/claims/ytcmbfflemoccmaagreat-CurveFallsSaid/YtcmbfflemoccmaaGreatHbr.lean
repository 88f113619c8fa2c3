/- What a curve's factors keep, in plain words. The law's awake: the document's example. -/
import Derived.Test.YtcmbfflemoccmaaGreatHbq
import Derived.Test.YtcmbfflemoccmaaGreatHas
namespace Go.Proofs.YtcmbfflemoccmaaGreat
open Go.RowKit

inductive FacO (base kind : Int) (ds : List Int) (fs : List Nat) (n : Int) : Nat → Int → Prop
  | bad (E : Int) (h : CurR base kind ds fs E) (hE : E ≠ 0) : FacO base kind ds fs n 0 E
  | ok (h : OkV base kind ds fs) (V : Nat) (E : Int) (hA : AtO kind (ctX base ds) (ctY fs) n V E) : FacO base kind ds fs n V E
theorem facO_ex (base kind : Int) (ds : List Int) (fs : List Nat) (n : Int) : ∃ V E, FacO base kind ds fs n V E := by
  obtain ⟨E, h⟩ := curR_ex base kind ds fs
  by_cases hE : E = 0
  · subst hE
    obtain ⟨V, E, hA⟩ := atO_ex kind (ctX base ds) (ctY fs) n
    exact ⟨V, E, .ok (curR_ok h) V E hA⟩
  · exact ⟨0, E, .bad E h hE⟩
theorem ctX_len (base : Int) (ds : List Int) : (ctX base ds).length = ds.length + 1 := rfl
theorem ctY_len (fs : List Nat) : (ctY fs).length = fs.length + 1 := rfl
theorem ctY_at (fs : List Nat) (i : Nat) : (ctY fs).getD i 0 = prvF fs i := by cases i <;> rfl
theorem ctY_lt {fs : List Nat} (hf : ∀ i < fs.length, fs.getD i 0 < 18446744073709551616) : ∀ i < (ctY fs).length, (ctY fs).getD i 0 < 18446744073709551616 := fun i hi => by
  cases i with
  | zero => exact (by decide : (4607182418800017408 : Nat) < 18446744073709551616)
  | succ i => exact hf i (by rw [ctY_len] at hi; omega)
theorem ctY_u {fs : List Nat} (hf : ∀ i < fs.length, fs.getD i 0 < 18446744073709551616) : ∀ i < (ctY fs).length, U64 ((ctY fs).getD i 0 : Nat) := fun i hi => u64N (ctY_lt hf i hi)
theorem cur_node {base kind : Int} {ds : List Int} {fs : List Nat} (ok : OkV base kind ds fs) {i : Nat} (hi : i ≤ ds.length) : AtO kind (ctX base ds) (ctY fs) (prvC base ds i) (prvF fs i) 0 := by
  have okT := ok.table
  have hl := ctX_len base ds
  have hx : ∀ j, (ctX base ds).getD j 0 = prvC base ds j := ctX_at base ds
  have le : ∀ j k, j ≤ k → k ≤ ds.length → prvC base ds j ≤ prvC base ds k := fun j k hjk hk => by
    rcases Nat.lt_or_eq_of_le hjk with h | h
    · have := okT.rise h (by omega)
      rw [hx, hx] at this; omega
    · rw [h]; exact Int.le_refl _
  have hk : FindR (ctX base ds) (prvC base ds i) i := ⟨by omega, by rw [hx]; exact Int.le_refl _, fun h => by
    have := okT.step h
    rw [hx] at this; exact this⟩
  have := AtO.node (kind := kind) (ys := ctY fs) i okT (.at_ okT (by rw [hx]; exact le 0 i (Nat.zero_le _) hi) (by rw [hx, hl, Nat.add_sub_cancel]; exact le i _ hi (Nat.le_refl _)) i hk (fun j hj => ⟨by omega, by rw [hx]; exact le (j + 1) i hj hi⟩)) hk (hx i)
  rw [ctY_at] at this
  exact this
theorem node_pos {base kind : Int} {ds : List Int} {fs : List Nat} (ok : OkV base kind ds fs) : ∀ i ≤ ds.length, 0 < rankI (prvF fs i : Nat) ∧ nanB (prvF fs i : Nat) = false
  | 0, _ => by
    show 0 < rankI (4607182418800017408 : Nat) ∧ nanB (4607182418800017408 : Nat) = false
    exact ⟨by decide, by decide⟩
  | i + 1, hi => by
    have h := (nodC_fine (ok.node i (by omega))).2.2.2
    show 0 < rankI (fs.getD i 0 : Nat) ∧ nanB (fs.getD i 0 : Nat) = false
    unfold ltB at h
    simp only [Bool.and_eq_true, Bool.not_eq_true', decide_eq_true_eq] at h
    have r0 : rankI 0 = 0 := by decide
    exact ⟨by rw [← r0]; exact h.2, h.1.2⟩
theorem fall_step {base kind : Int} {ds : List Int} {fs : List Nat} (ok : OkV base kind ds fs) (h : fallB fs = true) : ∀ i < ds.length, rankI (prvF fs (i + 1) : Nat) ≤ rankI (prvF fs i : Nat) := fun i hi => by
  have hR := fallR_of fs
  rw [h] at hR
  cases hR with
  | yes hy =>
    have := hy i (by rw [ok.len]; exact hi)
    have p := node_pos ok i (by omega)
    have q := node_pos ok (i + 1) (by omega)
    have e : ltB (prvF fs i : Nat) (prvF fs (i + 1) : Nat) = false := this
    rw [ltB_iff p.2 q.2, decide_eq_false_iff_not] at e
    omega
theorem fall_one {base kind : Int} {ds : List Int} {fs : List Nat} (ok : OkV base kind ds fs) (h : fallB fs = true) : ∀ i ≤ ds.length, rankI (prvF fs i : Nat) ≤ rankI (4607182418800017408 : Nat)
  | 0, _ => Int.le_refl _
  | i + 1, hi => Int.le_trans (fall_step ok h i (by omega)) (fall_one ok h i (by omega))
theorem fac_pos {base kind a : Int} {ds : List Int} {fs : List Nat} {W : Nat} (ok : OkV base kind ds fs) (hf : ∀ i < fs.length, fs.getD i 0 < 18446744073709551616) (h : AtO kind (ctX base ds) (ctY fs) a W 0) : W < 18446744073709551616 ∧ nanB (W : Nat) = false ∧ 0 < rankI (W : Nat) ∧ (fallB fs = true → rankI (W : Nat) ≤ rankI (4607182418800017408 : Nat)) := by
  obtain ⟨k, _, _, hk, h1, h2, h3, h4⟩ := atO_held h (ctY_u hf)
  rw [ctX_len] at hk h3 h4
  rw [ctY_at, ctY_at] at h3
  rw [ctY_at] at h4
  have p := node_pos ok k (by omega)
  refine ⟨h1, h2, ?_, fun hF => ?_⟩
  · by_cases hl : k + 1 < ds.length + 1
    · have := (h3 hl).1
      have q := node_pos ok (k + 1) (by omega)
      omega
    · have := h4 hl; omega
  · have p1 := fall_one ok hF k (by omega)
    by_cases hl : k + 1 < ds.length + 1
    · have := (h3 hl).2
      have q := fall_one ok hF (k + 1) (by omega)
      omega
    · have := h4 hl; omega
theorem fac_sink {base kind a b : Int} {ds : List Int} {fs : List Nat} {W X : Nat} (ok : OkV base kind ds fs) (hf : ∀ i < fs.length, fs.getD i 0 < 18446744073709551616) (hF : fallB fs = true) (h4 : kind ≠ 4) (hab : a ≤ b) (hA : AtO kind (ctX base ds) (ctY fs) a W 0) (hB : AtO kind (ctX base ds) (ctY fs) b X 0) : rankI (X : Nat) ≤ rankI (W : Nat) := by
  obtain ⟨k, okT, _, hk, a1⟩ := atR_of hA h4
  obtain ⟨j, _, _, hj, b1⟩ := atR_of hB h4
  refine at_sink okT (ctY_u hf) hk hj a1 b1 hab (fun i hi => ?_)
  rw [ctY_at, ctY_at]
  exact fall_step ok hF i (by rw [ctX_len] at hi; omega)
end Go.Proofs.YtcmbfflemoccmaaGreat
namespace Go.Proofs.YtcmbfflemoccmaaGreat
open Go.RowKit

end Go.Proofs.YtcmbfflemoccmaaGreat
