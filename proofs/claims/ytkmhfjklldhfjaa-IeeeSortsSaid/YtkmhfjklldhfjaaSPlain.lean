/- Plain words on the order of floats: the place of a float, lists that are sorted by it. -/
import Derived.Test.YtkmhfjklldhfjaaSteps2
namespace Go.Proofs.Ytkmhfjklldhfjaa

/-- The place of a float in the order of Less: all NaNs have one, the last. -/
def placeI (u : Int) : Int := if nanB u then 18446744073709551615 else if sgB u then 18446744073709551615 - u else 9223372036854775808 + u
def lessB (u v : Int) : Bool := decide (placeI u < placeI v)

theorem place_nan {u : Int} (h : nanB u = true) : placeI u = 18446744073709551615 := by simp [placeI, h]
theorem place_neg {u : Int} (h : nanB u = false) (h' : sgB u = true) : placeI u = 18446744073709551615 - u := by simp [placeI, h, h']
theorem place_pos {u : Int} (h : nanB u = false) (h' : sgB u = false) : placeI u = 9223372036854775808 + u := by simp [placeI, h, h']
theorem nan_iff (u : Int) : nanB u = true ↔ 9218868437227405312 < szI u := by simp [nanB]
theorem num_iff (u : Int) : nanB u = false ↔ szI u ≤ 9218868437227405312 := by simp [nanB]
theorem neg_iff (u : Int) : sgB u = true ↔ 9223372036854775808 ≤ u := by simp [sgB]
theorem pos_iff (u : Int) : sgB u = false ↔ u < 9223372036854775808 := by simp [sgB]

/-- Every float is a NaN, below the sign bit, or above. -/
theorem place_cases {u : Int} (h : U64 u) :
    (nanB u = true ∧ placeI u = 18446744073709551615) ∨
    (nanB u = false ∧ sgB u = true ∧ szI u = u - 9223372036854775808 ∧ rankI u = 9223372036854775808 - u ∧ placeI u = 18446744073709551615 - u ∧ 9223372036854775808 ≤ u ∧ u ≤ 18442240474082181120) ∨
    (nanB u = false ∧ sgB u = false ∧ szI u = u ∧ rankI u = u ∧ placeI u = 9223372036854775808 + u ∧ 0 ≤ u ∧ u ≤ 9218868437227405312) := by
  cases h1 : nanB u
  · cases h2 : sgB u
    · have h3 := szI_of_pos h h2
      have h4 := (num_iff u).1 h1
      exact Or.inr (Or.inr ⟨rfl, rfl, h3, by rw [rank_pos h1 h2, h3], place_pos h1 h2, h.1, by omega⟩)
    · have h3 := szI_of_neg h h2
      have h4 := (num_iff u).1 h1
      have h5 := (neg_iff u).1 h2
      exact Or.inr (Or.inl ⟨rfl, rfl, h3, by rw [rank_neg h1 h2, h3]; omega, place_neg h1 h2, h5, by omega⟩)
  · exact Or.inl ⟨rfl, place_nan h1⟩

theorem place_bounds {u : Int} (h : U64 u) : 0 ≤ placeI u ∧ placeI u ≤ 18446744073709551615 := by
  rcases place_cases h with ⟨_, e⟩ | ⟨_, _, _, _, e, h1, h2⟩ | ⟨_, _, _, _, e, h1, h2⟩ <;> rw [e] <;> omega

theorem same_place {u v : Int} (hu : U64 u) (hv : U64 v) (h : placeI u = placeI v) : sameB u v = true := by
  rcases place_cases hu with ⟨n1, e1⟩ | ⟨n1, s1, _, _, e1, a1, b1⟩ | ⟨n1, s1, _, _, e1, a1, b1⟩ <;> rcases place_cases hv with ⟨n2, e2⟩ | ⟨n2, s2, _, _, e2, a2, b2⟩ | ⟨n2, s2, _, _, e2, a2, b2⟩
  · exact sameB_nan n1 n2
  all_goals rw [e1, e2] at h
  all_goals first
    | (exfalso; omega)
    | (have : u = v := by omega
       subst this; exact sameB_refl _)

/-- What the document's Less answers, part by part. -/
theorem less_nan {u v : Int} (hu : U64 u) (hv : U64 v) (h : nanB u = true ∨ nanB v = true) : lessB u v = (!nanB u && nanB v) := by
  unfold lessB
  rcases place_cases hu with ⟨n1, e1⟩ | ⟨n1, s1, _, _, e1, a1, b1⟩ | ⟨n1, s1, _, _, e1, a1, b1⟩ <;> rcases place_cases hv with ⟨n2, e2⟩ | ⟨n2, s2, _, _, e2, a2, b2⟩ | ⟨n2, s2, _, _, e2, a2, b2⟩
  all_goals simp only [n1, n2, Bool.false_eq_true, or_self] at h
  all_goals rw [n1, n2, e1, e2]
  all_goals simp only [Bool.not_true, Bool.not_false, Bool.and_true, Bool.and_false, decide_eq_true_eq, decide_eq_false_iff_not]
  all_goals omega
theorem less_zero {u v : Int} (hu : U64 u) (hv : U64 v) (h1 : szI u = 0) (h2 : szI v = 0) : lessB u v = decide (v < u) := by
  have n1 : nanB u = false := (num_iff u).2 (by omega)
  have n2 : nanB v = false := (num_iff v).2 (by omega)
  unfold lessB
  apply decide_eq_decide.2
  rcases place_cases hu with ⟨n3, _⟩ | ⟨_, s1, z1, _, e1, a1, b1⟩ | ⟨_, s1, z1, _, e1, a1, b1⟩
  · rw [n1] at n3; cases n3
  all_goals
    rcases place_cases hv with ⟨n3, _⟩ | ⟨_, s2, z2, _, e2, a2, b2⟩ | ⟨_, s2, z2, _, e2, a2, b2⟩
    · rw [n2] at n3; cases n3
    all_goals (rw [e1, e2]; omega)
theorem less_num {u v : Int} (hu : U64 u) (hv : U64 v) (n1 : nanB u = false) (n2 : nanB v = false) (h : szI u ≠ 0 ∨ szI v ≠ 0) : lessB u v = decide (rankI u < rankI v) := by
  unfold lessB
  apply decide_eq_decide.2
  rcases place_cases hu with ⟨n3, _⟩ | ⟨_, s1, z1, r1, e1, a1, b1⟩ | ⟨_, s1, z1, r1, e1, a1, b1⟩
  · rw [n1] at n3; cases n3
  all_goals
    rcases place_cases hv with ⟨n3, _⟩ | ⟨_, s2, z2, r2, e2, a2, b2⟩ | ⟨_, s2, z2, r2, e2, a2, b2⟩
    · rw [n2] at n3; cases n3
    all_goals (rw [e1, e2, r1, r2]; omega)

/-- A list by its places, rising. -/
def Rising (l : List Nat) : Prop := l.Pairwise fun (a b : Nat) => placeI (a : Int) ≤ placeI (b : Int)

theorem eq_of_rising : ∀ {a b : List Int}, a.Perm b → a.Pairwise (· ≤ ·) → b.Pairwise (· ≤ ·) → a = b
  | [], b, h, _, _ => by rw [List.nil_perm.1 h]
  | x :: a, [], h, _, _ => by simp at h
  | x :: a, y :: b, h, h1, h2 => by
    rw [List.pairwise_cons] at h1 h2
    have hx : x ∈ y :: b := h.subset (by simp)
    have hy : y ∈ x :: a := h.symm.subset (by simp)
    have e : x = y := by
      rcases List.mem_cons.1 hx with rfl | hx
      · rfl
      · rcases List.mem_cons.1 hy with rfl | hy
        · rfl
        · have := h1.1 _ hy; have := h2.1 _ hx; omega
    subst e
    rw [eq_of_rising h.cons_inv h1.2 h2.2]

theorem places_eq {a b : List Nat} (h : a.Perm b) (h1 : Rising a) (h2 : Rising b) : a.map (fun x : Nat => placeI x) = b.map (fun x : Nat => placeI x) :=
  eq_of_rising (h.map _) (List.pairwise_map.2 h1) (List.pairwise_map.2 h2)

/-- What fits 64 bits, all of a list. -/
def Fit (l : List Nat) : Prop := ∀ x ∈ l, x < 18446744073709551616
theorem Fit.perm {a b : List Nat} (h : Fit b) (hp : a.Perm b) : Fit a := fun x hx => h x (hp.subset hx)
theorem Fit.get {l : List Nat} (h : Fit l) {i : Nat} (hi : i < l.length) : U64 ((l.getD i 0 : Nat) : Int) := by
  have e : l.getD i 0 = l[i] := by simp [List.getD, List.getElem?_eq_getElem hi]
  rw [e]
  exact u64_of_nat (h _ (List.getElem_mem hi))

/-- Two lists that are the same floats, place by place. -/
def Alike (a b : List Nat) : Prop := a.length = b.length ∧ ∀ i, i < a.length → sameB (a.getD i 0 : Nat) (b.getD i 0 : Nat) = true

theorem alike_of_rising {a b : List Nat} (hf : Fit b) (h : a.Perm b) (h1 : Rising a) (h2 : Rising b) : Alike a b := by
  refine ⟨h.length_eq, fun i hi => ?_⟩
  have hl := h.length_eq
  have e := places_eq h h1 h2
  refine same_place ((hf.perm h).get hi) (hf.get (by omega)) ?_
  have e2 := congrArg (fun l : List Int => l[i]?) e
  simp only [List.getElem?_map] at e2
  have g1 : a[i]? = some (a.getD i 0) := by simp [List.getD, List.getElem?_eq_getElem hi]
  have g2 : b[i]? = some (b.getD i 0) := by simp [List.getD, List.getElem?_eq_getElem (show i < b.length by omega)]
  rw [g1, g2] at e2
  simpa using e2
theorem alike_self {a : List Nat} : Alike a a := ⟨rfl, fun _ _ => sameB_refl _⟩

/-- A new one put in behind those that are not behind it, ahead of those that are: a list that rises still. -/
theorem rising_insert {ys : List Nat} {x k : Nat} (h : Rising ys) (hk : k ≤ ys.length) (hlo : k = 0 ∨ lessB x (ys.getD (k - 1) 0 : Nat) = false) (hhi : ∀ j, k ≤ j → j < ys.length → lessB x (ys.getD j 0 : Nat) = true) :
    Rising (ys.take k ++ x :: ys.drop k) := by
  have hg : ∀ j, (hj : j < ys.length) → ys.getD j 0 = ys[j] := fun j hj => by simp [List.getD, List.getElem?_eq_getElem hj]
  unfold Rising at *
  rw [List.pairwise_iff_getElem] at h
  rw [List.pairwise_append, List.pairwise_cons]
  have hx : ∀ a : Nat, a ∈ ys.drop k → placeI x ≤ placeI a := by
    intro a ha
    obtain ⟨j, hj, rfl⟩ := List.getElem_of_mem ha
    rw [List.length_drop] at hj
    have h3 := hhi (k + j) (by omega) (by omega)
    rw [hg _ (by omega)] at h3
    simp only [lessB, decide_eq_true_eq] at h3
    rw [List.getElem_drop]; omega
  have hy : ∀ a : Nat, a ∈ ys.take k → placeI a ≤ placeI x := by
    intro a ha
    obtain ⟨j, hj, rfl⟩ := List.getElem_of_mem ha
    rw [List.length_take] at hj
    rw [List.getElem_take]
    rcases hlo with rfl | hlo
    · omega
    · rw [hg _ (by omega)] at hlo
      simp only [lessB, decide_eq_false_iff_not] at hlo
      by_cases hjk : j = k - 1
      · subst hjk; omega
      · have := h j (k - 1) (by omega) (by omega) (by omega); omega
  refine ⟨?_, ⟨hx, ?_⟩, ?_⟩
  · rw [List.pairwise_iff_getElem]
    intro i j hi hj hij
    rw [List.length_take] at hi hj
    rw [List.getElem_take, List.getElem_take]
    exact h i j (by omega) (by omega) hij
  · rw [List.pairwise_iff_getElem]
    intro i j hi hj hij
    rw [List.length_drop] at hi hj
    rw [List.getElem_drop, List.getElem_drop]
    exact h (k + i) (k + j) (by omega) (by omega) (by omega)
  · intro a ha b hb
    rcases List.mem_cons.1 hb with rfl | hb
    · exact hy a ha
    · have := hy a ha; have := hx b hb; omega
theorem perm_insert (ys : List Nat) (x k : Nat) : (ys.take k ++ x :: ys.drop k).Perm (ys ++ [x]) := by
  refine List.perm_middle.trans ?_
  rw [List.take_append_drop]
  exact (List.perm_append_singleton x ys).symm
end Go.Proofs.Ytkmhfjklldhfjaa
