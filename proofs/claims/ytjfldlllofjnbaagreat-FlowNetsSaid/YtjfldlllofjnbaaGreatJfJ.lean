/- The document's way to the keys: each time the least one above the last. -/
import Derived.Test.YtjfldlllofjnbaaGreatHba
namespace Go.Proofs.YtjfldlllofjnbaaGreat
open Go.RowKit

/-- A key as one number. -/
def kN (x : Int × Int) : Int := x.1 * 1048576 + x.2
theorem kN_lt {x y : Int × Int} (hx : KeyB x) (hy : KeyB y) : kN x < kN y ↔ ltK x y := by
  obtain ⟨a, b, c, d⟩ := hx
  obtain ⟨a', b', c', d'⟩ := hy
  unfold kN ltK
  constructor
  · intro h
    rcases Int.lt_trichotomy x.1 y.1 with h1 | h1 | h1
    · exact Or.inl h1
    · exact Or.inr ⟨h1, by omega⟩
    · omega
  · rintro (h | ⟨h, h'⟩)
    · omega
    · omega
theorem kN_bd {x : Int × Int} (h : KeyB x) : 0 ≤ kN x ∧ kN x ≤ 114894679044 := by
  obtain ⟨a, b, c, d⟩ := h
  unfold kN; omega
theorem kN_parts {x : Int × Int} (h : KeyB x) : kN x % 1048576 = x.2 ∧ kN x / 1048576 = x.1 := by
  obtain ⟨a, b, c, d⟩ := h
  unfold kN; omega
theorem kN_inj {x y : Int × Int} (hx : KeyB x) (hy : KeyB y) (h : kN x = kN y) : x = y := by
  have a := kN_parts hx
  have b := kN_parts hy
  rw [h] at a
  exact Prod.ext (a.2.symm.trans b.2) (a.1.symm.trans b.1)
/-- The least key above the last one, among the first k flows; -1 where there is none. -/
def leastN (l : List Flw) (last : Int) : Nat → Int
  | 0 => -1
  | k + 1 => if last < kN (keyF (l.getD k flw0)) ∧ (leastN l last k < 0 ∨ kN (keyF (l.getD k flw0)) < leastN l last k) then kN (keyF (l.getD k flw0)) else leastN l last k
theorem leastN_is (l : List Flw) (last : Int) (hk : ∀ i < l.length, KeyB (keyF (l.getD i flw0))) : ∀ k, k ≤ l.length →
    (leastN l last k = -1 ∧ ∀ i < k, kN (keyF (l.getD i flw0)) ≤ last) ∨ (∃ i < k, leastN l last k = kN (keyF (l.getD i flw0)) ∧ last < leastN l last k ∧ ∀ i' < k, last < kN (keyF (l.getD i' flw0)) → leastN l last k ≤ kN (keyF (l.getD i' flw0)))
  | 0, _ => Or.inl ⟨rfl, fun i hi => by omega⟩
  | k + 1, h => by
    have b0 := (kN_bd (hk k (by omega))).1
    have e : leastN l last (k + 1) = if last < kN (keyF (l.getD k flw0)) ∧ (leastN l last k < 0 ∨ kN (keyF (l.getD k flw0)) < leastN l last k) then kN (keyF (l.getD k flw0)) else leastN l last k := rfl
    rcases leastN_is l last hk k (by omega) with ⟨h1, h2⟩ | ⟨i, hi, h1, h2, h3⟩
    · by_cases c : last < kN (keyF (l.getD k flw0))
      · rw [if_pos ⟨c, Or.inl (by omega)⟩] at e
        refine Or.inr ⟨k, by omega, e, by omega, fun i' hi' hl => ?_⟩
        by_cases d : i' < k
        · have := h2 i' d; omega
        · obtain rfl : i' = k := by omega
          omega
      · rw [if_neg (fun hh => c hh.1)] at e
        refine Or.inl ⟨by omega, fun i hi => ?_⟩
        by_cases d : i < k
        · exact h2 i d
        · obtain rfl : i = k := by omega
          omega
    · have b1 := (kN_bd (hk i (by omega))).1
      by_cases c : last < kN (keyF (l.getD k flw0)) ∧ (leastN l last k < 0 ∨ kN (keyF (l.getD k flw0)) < leastN l last k)
      · rw [if_pos c] at e
        refine Or.inr ⟨k, by omega, e, by omega, fun i' hi' hl => ?_⟩
        by_cases d : i' < k
        · have := h3 i' d hl; omega
        · obtain rfl : i' = k := by omega
          omega
      · rw [if_neg c] at e
        refine Or.inr ⟨i, by omega, by omega, by omega, fun i' hi' hl => ?_⟩
        by_cases d : i' < k
        · have := h3 i' d hl; omega
        · obtain rfl : i' = k := by omega
          omega
/-- The last key ahead of place j. -/
def lastJ (S : List (Int × Int)) : Nat → Int
  | 0 => -1
  | j + 1 => kN (S.getD j key0)
theorem KeyR.get {l : List Flw} {S : List (Int × Int)} (h : KeyR l S) {i j : Nat} (hij : i < j) (hj : j < S.length) : ltK (S.getD i key0) (S.getD j key0) := by
  have := (List.pairwise_iff_getElem.1 h.rise) i j (by omega) hj hij
  rw [List.getD_eq_getElem?_getD, List.getD_eq_getElem?_getD, List.getElem?_eq_getElem (by omega), List.getElem?_eq_getElem hj]
  exact this
theorem KeyR.at_ {l : List Flw} {S : List (Int × Int)} (h : KeyR l S) {j : Nat} (hj : j < S.length) : ∃ i < l.length, keyF (l.getD i flw0) = S.getD j key0 := by
  refine (h.mem _).1 ?_
  rw [List.getD_eq_getElem?_getD, List.getElem?_eq_getElem hj]
  exact List.getElem_mem hj
theorem KeyR.of {l : List Flw} {S : List (Int × Int)} (h : KeyR l S) {i : Nat} (hi : i < l.length) : ∃ j < S.length, S.getD j key0 = keyF (l.getD i flw0) := by
  obtain ⟨j, hj, e⟩ := List.mem_iff_getElem.1 ((h.mem (keyF (l.getD i flw0))).2 ⟨i, hi, rfl⟩)
  refine ⟨j, hj, ?_⟩
  rw [List.getD_eq_getElem?_getD, List.getElem?_eq_getElem hj]
  exact e
/-- What is found above the last key. -/
theorem least_at {l : List Flw} {S : List (Int × Int)} (h : KeyR l S) (hk : ∀ i < l.length, KeyB (keyF (l.getD i flw0))) {j : Nat} (hj : j ≤ S.length) : leastN l (lastJ S j) l.length = if j < S.length then kN (S.getD j key0) else -1 := by
  have hS : ∀ n < S.length, KeyB (S.getD n key0) := fun n hn => by
    obtain ⟨i, hi, e⟩ := h.at_ hn
    rw [← e]; exact hk i hi
  have hl : ∀ n < S.length, lastJ S j < kN (S.getD n key0) ↔ j ≤ n := fun n hn => by
    cases j with
    | zero => exact ⟨fun _ => Nat.zero_le _, fun _ => by have := (kN_bd (hS n hn)).1; show -1 < _; omega⟩
    | succ m =>
      show kN (S.getD m key0) < _ ↔ _
      rw [kN_lt (hS m (by omega)) (hS n hn)]
      constructor
      · intro a
        rcases Nat.lt_trichotomy m n with c | c | c
        · exact c
        · subst c; exact absurd a (ltK_irrefl _)
        · exact absurd (ltK_trans a (h.get c (by omega))) (ltK_irrefl _)
      · intro a; exact h.get a hn
  rcases leastN_is l (lastJ S j) hk l.length (Nat.le_refl _) with ⟨h1, h2⟩ | ⟨i, hi, h1, h2, h3⟩
  · by_cases c : j < S.length
    · obtain ⟨i, hi, e⟩ := h.at_ c
      have := h2 i hi
      rw [e] at this
      have := (hl j c).2 (Nat.le_refl _)
      omega
    · rw [if_neg c]; exact h1
  · obtain ⟨n, hn, e⟩ := h.of hi
    rw [h1, ← e] at h2
    have hjn := (hl n hn).1 h2
    rw [if_pos (by omega)]
    obtain ⟨i', hi', e'⟩ := h.at_ (show j < S.length by omega)
    have h4 := h3 i' hi' (by rw [e']; exact (hl j (by omega)).2 (Nat.le_refl _))
    rw [e', h1, ← e] at h4
    rw [h1, ← e]
    rcases Nat.eq_or_lt_of_le hjn with c | c
    · rw [c]
    · have := (kN_lt (hS j (by omega)) (hS n hn)).2 (h.get c hn)
      omega
end Go.Proofs.YtjfldlllofjnbaaGreat
