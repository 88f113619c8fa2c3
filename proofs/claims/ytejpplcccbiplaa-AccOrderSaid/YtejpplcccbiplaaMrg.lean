/- Sums of floats in any order, and in parts: plain facts. -/
import Derived.Test.YtejpplcccbiplaaAccP
namespace Go.Proofs.Ytejpplcccbiplaa

theorem mt_comm {s t : Nat} (hs : s ≤ 3) (ht : t ≤ 3) : mt s t = mt t s := by
  rcases (show s = 0 ∨ s = 1 ∨ s = 2 ∨ s = 3 by omega) with rfl | rfl | rfl | rfl <;> rcases (show t = 0 ∨ t = 1 ∨ t = 2 ∨ t = 3 by omega) with rfl | rfl | rfl | rfl <;> rfl
theorem mt_assoc {s t u : Nat} (hs : s ≤ 3) (ht : t ≤ 3) (hu : u ≤ 3) : mt (mt s t) u = mt s (mt t u) := by
  rcases (show s = 0 ∨ s = 1 ∨ s = 2 ∨ s = 3 by omega) with rfl | rfl | rfl | rfl <;> rcases (show t = 0 ∨ t = 1 ∨ t = 2 ∨ t = 3 by omega) with rfl | rfl | rfl | rfl <;> rcases (show u = 0 ∨ u = 1 ∨ u = 2 ∨ u = 3 by omega) with rfl | rfl | rfl | rfl <;> rfl
theorem mt_zero {s t : Nat} : mt s t = 0 ↔ s = 0 ∧ t = 0 := by
  constructor
  · intro h; exact merge_zero (a := ⟨s, 0⟩) (d := ⟨t, 0⟩) h
  · rintro ⟨rfl, rfl⟩; rfl
theorem St.Ok.merge {a b : St} (h : a.Ok) (h' : b.Ok) : (a.merge b).Ok := by
  refine ⟨mt_lt h.s3 h'.s3, fun hn => ?_⟩
  unfold St.merge at hn ⊢
  exact if_neg hn
theorem merge_comm {a b : St} (h : a.Ok) (h' : b.Ok) : a.merge b = b.merge a := by
  unfold St.merge
  have e := mt_comm h.s3 h'.s3
  apply st_ext
  · exact e
  · show (if mt a.s b.s = 0 then a.N + b.N else 0) = if mt b.s a.s = 0 then b.N + a.N else 0
    rw [e, Int.add_comm]
theorem merge_assoc {a b c : St} (h : a.Ok) (h' : b.Ok) (h'' : c.Ok) : (a.merge b).merge c = a.merge (b.merge c) := by
  have e := mt_assoc h.s3 h'.s3 h''.s3
  apply st_ext
  · exact e
  · show (if mt (mt a.s b.s) c.s = 0 then (if mt a.s b.s = 0 then a.N + b.N else 0) + c.N else 0) = if mt a.s (mt b.s c.s) = 0 then a.N + (if mt b.s c.s = 0 then b.N + c.N else 0) else 0
    by_cases h0 : mt (mt a.s b.s) c.s = 0
    · have h1 := mt_zero.1 h0
      have h2 : mt a.s (mt b.s c.s) = 0 := by rw [← e]; exact h0
      rw [if_pos h0, if_pos h2, if_pos h1.1, if_pos (mt_zero.1 h2).2]; omega
    · rw [if_neg h0, if_neg (by rw [← e]; exact h0)]
theorem merge_nil {a : St} (h : a.Ok) : (⟨0, 0⟩ : St).merge a = a := by
  have e : mt 0 a.s = a.s := by
    have := h.s3
    rcases (show a.s = 0 ∨ a.s = 1 ∨ a.s = 2 ∨ a.s = 3 by omega) with h1 | h1 | h1 | h1 <;> rw [h1] <;> rfl
  apply st_ext
  · exact e
  · show (if mt 0 a.s = 0 then 0 + a.N else 0) = a.N
    rw [e]
    by_cases h0 : a.s = 0
    · rw [if_pos h0]; omega
    · rw [if_neg h0, h.n0 h0]
theorem oneS_ok (u : Int) : (oneS u).Ok := by
  unfold oneS
  split
  · exact ⟨Nat.zero_le _, fun h => absurd rfl h⟩
  · exact ⟨endN_le u, fun _ => rfl⟩
theorem nil_ok : (⟨0, 0⟩ : St).Ok := ⟨Nat.zero_le _, fun _ => rfl⟩
theorem addS_ok {a : St} (h : a.Ok) (x : Nat) : (addS a x).Ok := h.merge (oneS_ok _)
theorem fold_ok : ∀ (l : List Nat) {a : St}, a.Ok → (l.foldl addS a).Ok
  | [], _, h => h
  | x :: l, _, h => fold_ok l (addS_ok h x)
theorem sumS_def (l : List Nat) : sumS l = l.foldl addS ⟨0, 0⟩ := rfl
theorem addS_def (a : St) (x : Nat) : addS a x = a.merge (oneS (x : Int)) := rfl
/-- A fold from a state on is that state, and the sum. -/
theorem fold_merge : ∀ (l : List Nat) {a : St}, a.Ok → l.foldl addS a = a.merge (sumS l)
  | [], a, h => by
    rw [sumS_def, List.foldl_nil, List.foldl_nil, merge_comm h nil_ok, merge_nil h]
  | x :: l, a, h => by
    have hl : (sumS l).Ok := fold_ok l nil_ok
    rw [sumS_def, List.foldl_cons, List.foldl_cons, fold_merge l (addS_ok h x), fold_merge l (addS_ok nil_ok x), addS_def, addS_def, merge_nil (oneS_ok _), merge_assoc h (oneS_ok _) hl]
theorem sumS_ok (l : List Nat) : (sumS l).Ok := fold_ok l nil_ok
theorem sumS_cons (x : Nat) (l : List Nat) : sumS (x :: l) = (oneS (x : Int)).merge (sumS l) := by
  rw [sumS_def, List.foldl_cons, fold_merge l (addS_ok nil_ok x), addS_def, merge_nil (oneS_ok _)]
theorem sumS_perm {a b : List Nat} (h : a.Perm b) : sumS a = sumS b := by
  induction h with
  | nil => rfl
  | cons x _ ih => rw [sumS_cons, sumS_cons, ih]
  | swap x y l =>
    rw [sumS_cons, sumS_cons, sumS_cons, sumS_cons, ← merge_assoc (oneS_ok _) (oneS_ok _) (sumS_ok l), ← merge_assoc (oneS_ok _) (oneS_ok _) (sumS_ok l), merge_comm (oneS_ok (y : Int)) (oneS_ok (x : Int))]
  | trans _ _ h1 h2 => exact h1.trans h2
theorem sumS_snoc (l : List Nat) (x : Nat) : sumS (l ++ [x]) = (sumS l).merge (oneS (x : Int)) := by
  rw [sumS_def, List.foldl_append, List.foldl_cons, List.foldl_nil, addS_def, ← sumS_def]
/-- Two states that go on together: what comes to the one or to the other comes to both. -/
theorem both_fst {a b : St} (h : a.Ok) (h' : b.Ok) (u : Int) : (a.merge (oneS u)).merge b = (a.merge b).merge (oneS u) := by
  rw [merge_assoc h (oneS_ok u) h', merge_comm (oneS_ok u) h', ← merge_assoc h h' (oneS_ok u)]
theorem both_snd {a b : St} (h : a.Ok) (h' : b.Ok) (u : Int) : a.merge (b.merge (oneS u)) = (a.merge b).merge (oneS u) := (merge_assoc h h' (oneS_ok u)).symm
theorem same_self {a b : St} (h : a = b) : sameSt a b = true := by subst h; unfold sameSt; simp
/-- Two places of a list changed round. -/
theorem swap_perm {l : List Nat} {i k : Nat} (hi : i < l.length) (hk : k < l.length) : ((l.set i (l.getD k 0)).set k (l.getD i 0)).Perm l := by
  have e1 : l.getD k 0 = l[k] := by simp [List.getD, List.getElem?_eq_getElem hk]
  have e2 : l.getD i 0 = l[i] := by simp [List.getD, List.getElem?_eq_getElem hi]
  rw [e1, e2]
  exact List.set_set_perm hi hk
end Go.Proofs.Ytejpplcccbiplaa
