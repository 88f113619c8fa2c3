/- Plain arithmetic on the bits of a binary64, as whole numbers: no word of the program. Plain numbers by their words of 64 bits, below 0 by wrap-round: no word of the program. -/
import Derived.Laws.BitsAllLaws
import Derived.Laws.Bits64b
namespace Go.Proofs.YtiiajhomdpfafaaGreatDoor

def szI (u : Int) : Int := u % 9223372036854775808
def sgB (u : Int) : Bool := decide (9223372036854775808 ≤ u)
def nanB (u : Int) : Bool := decide (9218868437227405312 < szI u)
def rankI (u : Int) : Int := if nanB u then 0 else if sgB u then -(szI u) else szI u
def U64 (u : Int) : Prop := 0 ≤ u ∧ u < 18446744073709551616

theorem szI_lo (u : Int) : 0 ≤ szI u := by unfold szI; omega
theorem szI_hi (u : Int) : szI u ≤ 9223372036854775807 := by unfold szI; omega
theorem and_mask63 (b : Nat) : b &&& 9223372036854775807 = b % 9223372036854775808 := by
  have := Nat.and_two_pow_sub_one_eq_mod b 63
  simpa using this

theorem andNot_sz {u : Int} (h : U64 u) : bits .andNot .u64 u 9223372036854775808 = szI u := by
  obtain ⟨b, rfl⟩ := Int.eq_ofNat_of_zero_le h.1
  have := u64_andNot_nat b 9223372036854775808 (by have := h.2; omega) (by decide)
  rw [show ((9223372036854775808 : Nat) : Int) = 9223372036854775808 from rfl] at this
  rw [this, show (18446744073709551615 - 9223372036854775808 : Nat) = 9223372036854775807 from rfl, and_mask63]
  unfold szI; omega

theorem and_pow (b k : Nat) : b &&& 2 ^ k = if b.testBit k then 2 ^ k else 0 := by
  apply Nat.eq_of_testBit_eq
  intro i
  rw [Nat.testBit_and, Nat.testBit_two_pow]
  by_cases hi : k = i
  · subst hi; cases b.testBit k <;> simp
  · cases b.testBit k <;> simp [hi]

theorem and_sg {u : Int} (h : U64 u) : bits .and .u64 u 9223372036854775808 = if sgB u then 9223372036854775808 else 0 := by
  obtain ⟨b, rfl⟩ := Int.eq_ofNat_of_zero_le h.1
  have hb : b < 18446744073709551616 := by have := h.2; omega
  have := bits_and_u64_nat b 9223372036854775808 hb (by decide)
  rw [show ((9223372036854775808 : Nat) : Int) = 9223372036854775808 from rfl] at this
  rw [this]
  have e : b &&& 9223372036854775808 = if sgB b then 9223372036854775808 else 0 := by
    have h2 := and_pow b 63
    have h3 : b.testBit 63 = sgB b := by
      rw [Nat.testBit_eq_decide_div_mod_eq]
      unfold sgB
      apply decide_eq_decide.2
      omega
    rw [h3] at h2
    rw [show (2 : Nat) ^ 63 = 9223372036854775808 from rfl] at h2
    exact h2
  rw [e]; cases sgB b <;> rfl

theorem u64_of_nat {b : Nat} (h : b < 18446744073709551616) : U64 (b : Int) := by unfold U64; omega
end Go.Proofs.YtiiajhomdpfafaaGreatDoor
namespace Go.Proofs.YtiiajhomdpfafaaGreatDoor

def ps (f : Nat → Nat) : Nat → Nat
  | 0 => 0
  | k + 1 => ps f k + f k * 2 ^ (64 * k)
theorem pow64 (k : Nat) : (2 : Nat) ^ (64 * (k + 1)) = 18446744073709551616 * 2 ^ (64 * k) := by
  rw [show 64 * (k + 1) = 64 + 64 * k by omega, Nat.pow_add]
theorem pow64_pos (k : Nat) : 0 < (2 : Nat) ^ (64 * k) := Nat.two_pow_pos _
def FitF (f : Nat → Nat) : Prop := ∀ i, f i < 18446744073709551616
theorem ps_lt {f : Nat → Nat} (h : FitF f) : ∀ k, ps f k < 2 ^ (64 * k)
  | 0 => by simp [ps]
  | k + 1 => by
    have h1 := ps_lt h k
    have h2 : f k + 1 ≤ 18446744073709551616 := h k
    have h3 : (f k + 1) * 2 ^ (64 * k) ≤ 18446744073709551616 * 2 ^ (64 * k) := Nat.mul_le_mul_right _ h2
    rw [Nat.add_mul, Nat.one_mul] at h3
    rw [pow64, ps]; omega
theorem ps_congr {f g : Nat → Nat} : ∀ {k : Nat}, (∀ i, i < k → f i = g i) → ps f k = ps g k
  | 0, _ => rfl
  | k + 1, h => by rw [ps, ps, ps_congr (fun i hi => h i (by omega)), h k (by omega)]
theorem ps_inj {f g : Nat → Nat} (hf : FitF f) (hg : FitF g) : ∀ {k : Nat}, ps f k = ps g k → ∀ i, i < k → f i = g i
  | 0, _, i, hi => by omega
  | k + 1, h, i, hi => by
    rw [ps, ps] at h
    have h1 := ps_lt hf k
    have h2 := ps_lt hg k
    have hp := pow64_pos k
    have e : f k = g k := by
      have a : (ps f k + f k * 2 ^ (64 * k)) / 2 ^ (64 * k) = f k := by rw [Nat.add_mul_div_right _ _ hp, Nat.div_eq_of_lt h1, Nat.zero_add]
      have b : (ps g k + g k * 2 ^ (64 * k)) / 2 ^ (64 * k) = g k := by rw [Nat.add_mul_div_right _ _ hp, Nat.div_eq_of_lt h2, Nat.zero_add]
      rw [← a, ← b, h]
    by_cases hk : i = k
    · subst hk; exact e
    · rw [e] at h; exact ps_inj hf hg (k := k) (by omega) i (by omega)

def endW (xs : List Nat) : Nat := xs.getD (xs.length - 1) 0
def wd (xs : List Nat) (i : Nat) : Nat := if i < xs.length then xs.getD i 0 else endW xs
def FitW (xs : List Nat) : Prop := FitF fun i => xs.getD i 0
theorem FitW.wd {xs : List Nat} (h : FitW xs) : FitF (wd xs) := fun i => by
  unfold Proofs.YtiiajhomdpfafaaGreatDoor.wd endW; split
  · exact h i
  · exact h _

structure Sg (xs : List Nat) (N : Int) : Prop where
  fit : FitW xs
  last : endW xs = 0 ∨ endW xs = 18446744073709551615
  eq : N = (ps (wd xs) xs.length : Int) - (if endW xs = 0 then 0 else 2 ^ (64 * xs.length))

theorem wd_past {xs : List Nat} {i : Nat} (h : xs.length ≤ i) : wd xs i = endW xs := by unfold wd; rw [if_neg (by omega)]
theorem pow64i (k : Nat) : (2 : Int) ^ (64 * (k + 1)) = 18446744073709551616 * 2 ^ (64 * k) := by
  have := pow64 k
  have h2 : ((2 ^ (64 * (k + 1)) : Nat) : Int) = ((18446744073709551616 * 2 ^ (64 * k) : Nat) : Int) := by rw [this]
  simpa using h2
theorem natpow (k : Nat) : ((2 ^ (64 * k) : Nat) : Int) = 2 ^ (64 * k) := by simp
theorem Sg.ext {xs : List Nat} {N : Int} (h : Sg xs N) {n : Nat} (hn : xs.length ≤ n) : N = (ps (wd xs) n : Int) - (if endW xs = 0 then 0 else 2 ^ (64 * n)) := by
  induction n with
  | zero => have := h.eq; rw [show xs.length = 0 by omega] at this; exact this
  | succ n ih =>
    by_cases hk : xs.length = n + 1
    · have := h.eq; rw [hk] at this; exact this
    · have h1 := ih (by omega)
      rw [ps, wd_past (by omega), pow64i]
      rcases h.last with e | e
      · rw [e] at h1 ⊢; simp at h1 ⊢; exact h1
      · rw [e] at h1 ⊢
        rw [if_neg (by decide)] at h1 ⊢
        have h3 := natpow n
        rw [Int.natCast_add, Int.natCast_mul, h3]
        generalize (2 : Int) ^ (64 * n) = P at *
        omega
theorem Sg.range {xs : List Nat} {N : Int} (h : Sg xs N) {n : Nat} (hn : xs.length ≤ n + 1) : (endW xs = 0 → 0 ≤ N ∧ N < 2 ^ (64 * n)) ∧ (endW xs ≠ 0 → -(2 ^ (64 * n)) ≤ N ∧ N < 0) := by
  have h1 := h.ext hn
  have h2 := ps_lt h.fit.wd n
  have h4 : (ps (wd xs) n : Int) < 2 ^ (64 * n) := by have := natpow n; omega
  rw [ps, pow64i] at h1
  have hp := pow64_pos n
  have h3 := natpow n
  have hw : wd xs n = endW xs := by
    unfold wd; split
    · unfold endW; congr 1; omega
    · rfl
  rw [hw] at h1
  constructor
  · intro e
    rw [e] at h1
    simp at h1
    omega
  · intro e
    have e2 : endW xs = 18446744073709551615 := by rcases h.last with e1 | e1; exact absurd e1 e; exact e1
    rw [if_neg e, e2, Int.natCast_add, Int.natCast_mul, h3] at h1
    generalize (2 : Int) ^ (64 * n) = P at *
    omega

theorem Sg.same {xs ys : List Nat} {N M : Int} (h : Sg xs N) (h' : Sg ys M) : N = M ↔ ∀ i, i < max xs.length ys.length → wd xs i = wd ys i := by
  obtain ⟨n, hn⟩ : ∃ n, n = max xs.length ys.length := ⟨_, rfl⟩
  rw [← hn]
  have e1 := h.ext (n := n) (by omega)
  have e2 := h'.ext (n := n) (by omega)
  constructor
  · rintro rfl
    by_cases hs : n = 0
    · intro i hi; omega
    have r1 := h.range (n := n) (by omega)
    have r2 := h'.range (n := n) (by omega)
    have hz : endW xs = 0 ↔ endW ys = 0 := by
      constructor
      · intro a; rcases Nat.eq_zero_or_pos (endW ys) with b | b
        · exact b
        · have := r1.1 a; have := r2.2 (by omega); omega
      · intro a; rcases Nat.eq_zero_or_pos (endW xs) with b | b
        · exact b
        · have := r2.1 a; have := r1.2 (by omega); omega
    have e3 : ps (wd xs) n = ps (wd ys) n := by
      by_cases a : endW xs = 0
      · rw [if_pos a] at e1; rw [if_pos (hz.1 a)] at e2; omega
      · rw [if_neg a] at e1; rw [if_neg (fun b => a (hz.2 b))] at e2; omega
    exact ps_inj h.fit.wd h'.fit.wd e3
  · intro hw
    by_cases hs : n = 0
    · have a : xs = [] := List.length_eq_zero_iff.1 (by omega)
      have b : ys = [] := List.length_eq_zero_iff.1 (by omega)
      subst a; subst b
      rw [hs] at e1 e2; rw [e1, e2]
    · have e3 := ps_congr hw
      have hl : endW xs = endW ys := by
        have := hw (n - 1) (by omega)
        unfold wd at this
        have la : (if n - 1 < xs.length then xs.getD (n - 1) 0 else endW xs) = endW xs := by
          split
          · unfold endW; congr 1; omega
          · rfl
        have lb : (if n - 1 < ys.length then ys.getD (n - 1) 0 else endW ys) = endW ys := by
          split
          · unfold endW; congr 1; omega
          · rfl
        rw [la, lb] at this; exact this
      rw [e1, e2, e3, hl]

theorem getD_app {xs ys : List Nat} {i : Nat} : (xs ++ ys).getD i 0 = if i < xs.length then xs.getD i 0 else ys.getD (i - xs.length) 0 := by
  simp only [List.getD]
  by_cases h : i < xs.length
  · rw [if_pos h, List.getElem?_append_left h]
  · rw [if_neg h, List.getElem?_append_right (by omega)]
theorem getD_snoc {xs : List Nat} {x i : Nat} : (xs ++ [x]).getD i 0 = if i < xs.length then xs.getD i 0 else if i = xs.length then x else 0 := by
  rw [getD_app]
  by_cases h : i < xs.length
  · rw [if_pos h, if_pos h]
  · rw [if_neg h, if_neg h]
    by_cases h2 : i = xs.length
    · rw [if_pos h2, h2, Nat.sub_self]; rfl
    · rw [if_neg h2]
      obtain ⟨j, hj⟩ : ∃ j, i - xs.length = j + 1 := ⟨i - xs.length - 1, by omega⟩
      rw [hj]; rfl
theorem endW_snoc (xs : List Nat) (x : Nat) : endW (xs ++ [x]) = x := by
  unfold endW
  rw [getD_snoc, List.length_append, List.length_singleton, Nat.add_sub_cancel, if_neg (by omega), if_pos rfl]
theorem FitW.snoc {xs : List Nat} {x : Nat} (h : FitW xs) (hx : x < 18446744073709551616) : FitW (xs ++ [x]) := fun i => by
  show (xs ++ [x]).getD i 0 < _
  rw [getD_snoc]
  by_cases h1 : i < xs.length
  · rw [if_pos h1]; exact h i
  · rw [if_neg h1]; split
    · exact hx
    · decide
theorem wd_snoc_end {xs : List Nat} (i : Nat) : wd (xs ++ [endW xs]) i = wd xs i := by
  unfold wd
  rw [endW_snoc, getD_snoc, List.length_append, List.length_singleton]
  by_cases h : i < xs.length
  · rw [if_pos h, if_pos h, if_pos (by omega)]
  · rw [if_neg h, if_neg h]
    by_cases h2 : i = xs.length
    · rw [if_pos h2, if_pos (by omega)]
    · rw [if_neg (show ¬ i < xs.length + 1 by omega)]
theorem Sg.more {xs : List Nat} {N : Int} (h : Sg xs N) : Sg (xs ++ [endW xs]) N := by
  refine ⟨h.fit.snoc (by rcases h.last with e | e <;> rw [e] <;> decide), by rw [endW_snoc]; exact h.last, ?_⟩
  rw [endW_snoc, ps_congr (fun i _ => wd_snoc_end i), List.length_append, List.length_singleton]
  exact h.ext (by omega)

def settle (ys : List Nat) : List Nat := if endW ys = 0 ∨ endW ys = 18446744073709551615 then ys else ys ++ [if endW ys < 9223372036854775808 then 0 else 18446744073709551615]
def Rel (s : Int) (y x f : Nat → Nat) (c k : Nat) : Prop := (ps y k : Int) + s * ((c : Int) * 2 ^ (64 * k)) = ps x k + s * ps f k
theorem Rel.start (s : Int) (y x f : Nat → Nat) : Rel s y x f 0 0 := by simp [Rel, ps]
theorem Rel.step {s : Int} {y x f : Nat → Nat} {c c' k : Nat} (h : Rel s y x f c k) (hs : (y k : Int) + s * ((c' : Int) * 18446744073709551616) = x k + s * ((f k : Int) + c)) : Rel s y x f c' (k + 1) := by
  unfold Rel at *
  rw [ps, ps, ps, pow64i, Int.natCast_add, Int.natCast_add, Int.natCast_add, Int.natCast_mul, Int.natCast_mul, Int.natCast_mul, natpow]
  generalize (2 : Int) ^ (64 * k) = P at *
  have h2 : ((y k : Int) + s * ((c' : Int) * 18446744073709551616)) * P = ((x k : Int) + s * ((f k : Int) + c)) * P := by rw [hs]
  simp only [Int.add_mul, Int.mul_add, Int.mul_assoc] at h2 h ⊢
  rw [Int.mul_comm 18446744073709551616 P] at h2
  rw [Int.mul_comm 18446744073709551616 P]
  generalize s * ((c' : Int) * (P * 18446744073709551616)) = A at *
  generalize s * ((c : Int) * P) = B at *
  generalize s * ((f k : Int) * P) = C at *
  generalize (y k : Int) * P = D at *
  generalize (x k : Int) * P = F at *
  omega
theorem Rel.rest {s : Int} {y x f : Nat → Nat} {k n : Nat} (h : Rel s y x f 0 k) (hk : k ≤ n) (hr : ∀ j, k ≤ j → j < n → y j = x j ∧ f j = 0) : Rel s y x f 0 n := by
  induction n with
  | zero => rw [show k = 0 by omega] at h; exact h
  | succ n ih =>
    by_cases e : k = n + 1
    · subst e; exact h
    · have h1 := ih (by omega) (fun j hj hj2 => hr j hj (by omega))
      refine h1.step ?_
      have := hr n (by omega) (by omega)
      rw [this.1, this.2]; simp
theorem Rel.congr {s : Int} {y y' x x' f f' : Nat → Nat} {c k : Nat} (h : Rel s y x f c k) (h1 : ∀ i, i < k → y i = y' i) (h2 : ∀ i, i < k → x i = x' i) (h3 : ∀ i, i < k → f i = f' i) : Rel s y' x' f' c k := by
  unfold Rel at *
  rw [← ps_congr h1, ← ps_congr h2, ← ps_congr h3]; exact h
end Go.Proofs.YtiiajhomdpfafaaGreatDoor
