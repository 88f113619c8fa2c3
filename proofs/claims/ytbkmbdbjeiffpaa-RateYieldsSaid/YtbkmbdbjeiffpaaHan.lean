/- Plain numbers by their words of 64 bits, below 0 by wrap-round: no word of the program. Sums, differences and turned numbers by their words; a number's leading bits, rounded once. -/
import Derived.Laws.BitsAllLaws
import Derived.Laws.Bits64b
import Derived.Test.YtbkmbdbjeiffpaaHab
namespace Go.Proofs.Ytbkmbdbjeiffpaa

/-- The first k words of f, as a number. -/
def ps (f : Nat → Nat) : Nat → Nat
  | 0 => 0
  | k + 1 => ps f k + f k * 2 ^ (64 * k)
theorem pow64 (k : Nat) : (2 : Nat) ^ (64 * (k + 1)) = 18446744073709551616 * 2 ^ (64 * k) := by
  rw [show 64 * (k + 1) = 64 + 64 * k by omega, Nat.pow_add]
theorem pow64_pos (k : Nat) : 0 < (2 : Nat) ^ (64 * k) := Nat.two_pow_pos _
def FitF (f : Nat → Nat) : Prop := ∀ i, f i < 18446744073709551616
theorem ps_lt {f : Nat → Nat} (h : FitF f) : ∀ k, ps f k < 2 ^ (64 * k)
  | 0 => by simp [ps]
  | k + 1 => by
    have h1 := ps_lt h k
    have h2 : f k + 1 ≤ 18446744073709551616 := h k
    have h3 : (f k + 1) * 2 ^ (64 * k) ≤ 18446744073709551616 * 2 ^ (64 * k) := Nat.mul_le_mul_right _ h2
    rw [Nat.add_mul, Nat.one_mul] at h3
    rw [pow64, ps]; omega
theorem ps_congr {f g : Nat → Nat} : ∀ {k : Nat}, (∀ i, i < k → f i = g i) → ps f k = ps g k
  | 0, _ => rfl
  | k + 1, h => by rw [ps, ps, ps_congr (fun i hi => h i (by omega)), h k (by omega)]
theorem ps_zero : ∀ k, ps (fun _ => 0) k = 0
  | 0 => rfl
  | k + 1 => by rw [ps, ps_zero k]; simp
theorem ps_le {f : Nat → Nat} {k n : Nat} (h : k ≤ n) : ps f k ≤ ps f n := by
  induction n with
  | zero => rw [show k = 0 by omega]; exact Nat.le_refl _
  | succ n ih =>
    by_cases hk : k = n + 1
    · subst hk; exact Nat.le_refl _
    · have := ih (by omega); rw [ps]; omega
theorem ps_eq_zero {f : Nat → Nat} : ∀ {k : Nat}, ps f k = 0 → ∀ i, i < k → f i = 0
  | 0, _, i, hi => by omega
  | k + 1, h, i, hi => by
    rw [ps] at h
    have hp := pow64_pos k
    by_cases hk : i = k
    · subst hk
      have h2 : f i * 2 ^ (64 * i) = 0 := by omega
      rcases Nat.mul_eq_zero.1 h2 with h3 | h3
      · exact h3
      · omega
    · exact ps_eq_zero (k := k) (by omega) i (by omega)
theorem ps_inj {f g : Nat → Nat} (hf : FitF f) (hg : FitF g) : ∀ {k : Nat}, ps f k = ps g k → ∀ i, i < k → f i = g i
  | 0, _, i, hi => by omega
  | k + 1, h, i, hi => by
    rw [ps, ps] at h
    have h1 := ps_lt hf k
    have h2 := ps_lt hg k
    have hp := pow64_pos k
    have e : f k = g k := by
      have a : (ps f k + f k * 2 ^ (64 * k)) / 2 ^ (64 * k) = f k := by rw [Nat.add_mul_div_right _ _ hp, Nat.div_eq_of_lt h1, Nat.zero_add]
      have b : (ps g k + g k * 2 ^ (64 * k)) / 2 ^ (64 * k) = g k := by rw [Nat.add_mul_div_right _ _ hp, Nat.div_eq_of_lt h2, Nat.zero_add]
      rw [← a, ← b, h]
    by_cases hk : i = k
    · subst hk; exact e
    · rw [e] at h; exact ps_inj hf hg (k := k) (by omega) i (by omega)

/-- The word that goes on behind the last. -/
def endW (xs : List Nat) : Nat := xs.getD (xs.length - 1) 0
/-- A word, behind the last too. -/
def wd (xs : List Nat) (i : Nat) : Nat := if i < xs.length then xs.getD i 0 else endW xs
def FitW (xs : List Nat) : Prop := FitF fun i => xs.getD i 0
theorem FitW.wd {xs : List Nat} (h : FitW xs) : FitF (wd xs) := fun i => by
  unfold Proofs.Ytbkmbdbjeiffpaa.wd endW; split
  · exact h i
  · exact h _

/-- The words xs are the number N, below 0 by wrap-round, with a last word that is nothing but sign. -/
structure Sg (xs : List Nat) (N : Int) : Prop where
  fit : FitW xs
  last : endW xs = 0 ∨ endW xs = 18446744073709551615
  eq : N = (ps (wd xs) xs.length : Int) - (if endW xs = 0 then 0 else 2 ^ (64 * xs.length))

theorem sg_nil : Sg [] 0 := ⟨fun i => by simp, Or.inl rfl, by simp [ps, endW]⟩
theorem wd_past {xs : List Nat} {i : Nat} (h : xs.length ≤ i) : wd xs i = endW xs := by unfold wd; rw [if_neg (by omega)]
theorem pow64i (k : Nat) : (2 : Int) ^ (64 * (k + 1)) = 18446744073709551616 * 2 ^ (64 * k) := by
  have := pow64 k
  have h2 : ((2 ^ (64 * (k + 1)) : Nat) : Int) = ((18446744073709551616 * 2 ^ (64 * k) : Nat) : Int) := by rw [this]
  simpa using h2
theorem natpow (k : Nat) : ((2 ^ (64 * k) : Nat) : Int) = 2 ^ (64 * k) := by simp
/-- Whatever length from its own on. -/
theorem Sg.ext {xs : List Nat} {N : Int} (h : Sg xs N) {n : Nat} (hn : xs.length ≤ n) : N = (ps (wd xs) n : Int) - (if endW xs = 0 then 0 else 2 ^ (64 * n)) := by
  induction n with
  | zero => have := h.eq; rw [show xs.length = 0 by omega] at this; exact this
  | succ n ih =>
    by_cases hk : xs.length = n + 1
    · have := h.eq; rw [hk] at this; exact this
    · have h1 := ih (by omega)
      rw [ps, wd_past (by omega), pow64i]
      rcases h.last with e | e
      · rw [e] at h1 ⊢; simp at h1 ⊢; exact h1
      · rw [e] at h1 ⊢
        rw [if_neg (by decide)] at h1 ⊢
        have h3 := natpow n
        rw [Int.natCast_add, Int.natCast_mul, h3]
        generalize (2 : Int) ^ (64 * n) = P at *
        omega
/-- The sign, and how far from 0. -/
theorem Sg.range {xs : List Nat} {N : Int} (h : Sg xs N) {n : Nat} (hn : xs.length ≤ n + 1) : (endW xs = 0 → 0 ≤ N ∧ N < 2 ^ (64 * n)) ∧ (endW xs ≠ 0 → -(2 ^ (64 * n)) ≤ N ∧ N < 0) := by
  have h1 := h.ext hn
  have h2 := ps_lt h.fit.wd n
  have h4 : (ps (wd xs) n : Int) < 2 ^ (64 * n) := by have := natpow n; omega
  rw [ps, pow64i] at h1
  have hp := pow64_pos n
  have h3 := natpow n
  have hw : wd xs n = endW xs := by
    unfold wd; split
    · unfold endW; congr 1; omega
    · rfl
  rw [hw] at h1
  constructor
  · intro e
    rw [e] at h1
    simp at h1
    omega
  · intro e
    have e2 : endW xs = 18446744073709551615 := by rcases h.last with e1 | e1; exact absurd e1 e; exact e1
    rw [if_neg e, e2, Int.natCast_add, Int.natCast_mul, h3] at h1
    generalize (2 : Int) ^ (64 * n) = P at *
    omega

/-- One number's words are one: of whatever length. -/
theorem Sg.same {xs ys : List Nat} {N M : Int} (h : Sg xs N) (h' : Sg ys M) : N = M ↔ ∀ i, i < max xs.length ys.length → wd xs i = wd ys i := by
  obtain ⟨n, hn⟩ : ∃ n, n = max xs.length ys.length := ⟨_, rfl⟩
  rw [← hn]
  have e1 := h.ext (n := n) (by omega)
  have e2 := h'.ext (n := n) (by omega)
  constructor
  · rintro rfl
    by_cases hs : n = 0
    · intro i hi; omega
    have r1 := h.range (n := n) (by omega)
    have r2 := h'.range (n := n) (by omega)
    have hz : endW xs = 0 ↔ endW ys = 0 := by
      constructor
      · intro a; rcases Nat.eq_zero_or_pos (endW ys) with b | b
        · exact b
        · have := r1.1 a; have := r2.2 (by omega); omega
      · intro a; rcases Nat.eq_zero_or_pos (endW xs) with b | b
        · exact b
        · have := r2.1 a; have := r1.2 (by omega); omega
    have e3 : ps (wd xs) n = ps (wd ys) n := by
      by_cases a : endW xs = 0
      · rw [if_pos a] at e1; rw [if_pos (hz.1 a)] at e2; omega
      · rw [if_neg a] at e1; rw [if_neg (fun b => a (hz.2 b))] at e2; omega
    exact ps_inj h.fit.wd h'.fit.wd e3
  · intro hw
    by_cases hs : n = 0
    · have a : xs = [] := List.length_eq_zero_iff.1 (by omega)
      have b : ys = [] := List.length_eq_zero_iff.1 (by omega)
      subst a; subst b
      rw [hs] at e1 e2; rw [e1, e2]
    · have e3 := ps_congr hw
      have hl : endW xs = endW ys := by
        have := hw (n - 1) (by omega)
        unfold wd at this
        have la : (if n - 1 < xs.length then xs.getD (n - 1) 0 else endW xs) = endW xs := by
          split
          · unfold endW; congr 1; omega
          · rfl
        have lb : (if n - 1 < ys.length then ys.getD (n - 1) 0 else endW ys) = endW ys := by
          split
          · unfold endW; congr 1; omega
          · rfl
        rw [la, lb] at this; exact this
      rw [e1, e2, e3, hl]

theorem getD_app {xs ys : List Nat} {i : Nat} : (xs ++ ys).getD i 0 = if i < xs.length then xs.getD i 0 else ys.getD (i - xs.length) 0 := by
  simp only [List.getD]
  by_cases h : i < xs.length
  · rw [if_pos h, List.getElem?_append_left h]
  · rw [if_neg h, List.getElem?_append_right (by omega)]
theorem getD_snoc {xs : List Nat} {x i : Nat} : (xs ++ [x]).getD i 0 = if i < xs.length then xs.getD i 0 else if i = xs.length then x else 0 := by
  rw [getD_app]
  by_cases h : i < xs.length
  · rw [if_pos h, if_pos h]
  · rw [if_neg h, if_neg h]
    by_cases h2 : i = xs.length
    · rw [if_pos h2, h2, Nat.sub_self]; rfl
    · rw [if_neg h2]
      obtain ⟨j, hj⟩ : ∃ j, i - xs.length = j + 1 := ⟨i - xs.length - 1, by omega⟩
      rw [hj]; rfl
theorem endW_snoc (xs : List Nat) (x : Nat) : endW (xs ++ [x]) = x := by
  unfold endW
  rw [getD_snoc, List.length_append, List.length_singleton, Nat.add_sub_cancel, if_neg (by omega), if_pos rfl]
theorem FitW.snoc {xs : List Nat} {x : Nat} (h : FitW xs) (hx : x < 18446744073709551616) : FitW (xs ++ [x]) := fun i => by
  show (xs ++ [x]).getD i 0 < _
  rw [getD_snoc]
  by_cases h1 : i < xs.length
  · rw [if_pos h1]; exact h i
  · rw [if_neg h1]; split
    · exact hx
    · decide
theorem wd_snoc_end {xs : List Nat} (i : Nat) : wd (xs ++ [endW xs]) i = wd xs i := by
  unfold wd
  rw [endW_snoc, getD_snoc, List.length_append, List.length_singleton]
  by_cases h : i < xs.length
  · rw [if_pos h, if_pos h, if_pos (by omega)]
  · rw [if_neg h, if_neg h]
    by_cases h2 : i = xs.length
    · rw [if_pos h2, if_pos (by omega)]
    · rw [if_neg (show ¬ i < xs.length + 1 by omega)]
/-- One word more of the sign. -/
theorem Sg.more {xs : List Nat} {N : Int} (h : Sg xs N) : Sg (xs ++ [endW xs]) N := by
  refine ⟨h.fit.snoc (by rcases h.last with e | e <;> rw [e] <;> decide), by rw [endW_snoc]; exact h.last, ?_⟩
  rw [endW_snoc, ps_congr (fun i _ => wd_snoc_end i), List.length_append, List.length_singleton]
  exact h.ext (by omega)

/-- What a sum or a difference leaves, settled. -/
def settle (ys : List Nat) : List Nat := if endW ys = 0 ∨ endW ys = 18446744073709551615 then ys else ys ++ [if endW ys < 9223372036854775808 then 0 else 18446744073709551615]
theorem wd_in {xs : List Nat} {n : Nat} (h : n ≤ xs.length) : ps (wd xs) n = ps (fun i => xs.getD i 0) n := ps_congr fun i hi => by unfold wd; rw [if_pos (by omega)]
theorem sg_settle {ys : List Nat} {N q : Int} (hf : FitW ys) (hl : 0 < ys.length) (he : (ps (fun i => ys.getD i 0) ys.length : Int) = N + q * 2 ^ (64 * ys.length)) (h1 : -(2 ^ (64 * ys.length)) ≤ 2 * N) (h2 : 2 * N < 2 ^ (64 * ys.length)) : Sg (settle ys) N := by
  obtain ⟨n, hn⟩ : ∃ n, ys.length = n + 1 := ⟨ys.length - 1, by omega⟩
  have ht : endW ys = ys.getD n 0 := by unfold endW; rw [hn, Nat.add_sub_cancel]
  have htf : endW ys < 18446744073709551616 := by rw [ht]; exact hf n
  have hr := ps_lt hf n
  have hp := pow64_pos n
  have hi := natpow n
  have hwd : ps (wd ys) ys.length = ps (fun i => ys.getD i 0) ys.length := wd_in (Nat.le_refl _)
  have hs : (ps (fun i => ys.getD i 0) ys.length : Int) = ps (fun i => ys.getD i 0) n + (endW ys : Int) * 2 ^ (64 * n) := by
    rw [hn, ps, ← ht, Int.natCast_add, Int.natCast_mul, hi]
  have hq : q = 0 ∨ q = 1 := by
    have hS := ps_lt hf ys.length
    have hS2 : (ps (fun i => ys.getD i 0) ys.length : Int) < 2 ^ (64 * ys.length) := by have := natpow ys.length; omega
    have hP : (0 : Int) < 2 ^ (64 * ys.length) := by have := pow64_pos ys.length; have := natpow ys.length; omega
    generalize (2 : Int) ^ (64 * ys.length) = R at *
    have a : q * R < 2 * R := by omega
    have b : (-1) * R < q * R := by omega
    have a2 := Int.lt_of_mul_lt_mul_right a (by omega)
    have b2 := Int.lt_of_mul_lt_mul_right b (by omega)
    omega
  have hR : (2 : Int) ^ (64 * ys.length) = 18446744073709551616 * 2 ^ (64 * n) := by rw [hn]; exact pow64i n
  unfold settle
  by_cases hb : endW ys = 0 ∨ endW ys = 18446744073709551615
  · rw [if_pos hb]
    refine ⟨hf, hb, ?_⟩
    rw [hwd]
    rcases hb with e | e
    · rw [if_pos e]
      rw [e] at hs
      rcases hq with rfl | rfl
      · omega
      · rw [hR] at h1 h2 he
        generalize (2 : Int) ^ (64 * n) = P at *
        omega
    · rw [if_neg (by omega)]
      rw [e] at hs
      rcases hq with rfl | rfl
      · rw [hR] at h1 h2
        generalize (2 : Int) ^ (64 * n) = P at *
        omega
      · omega
  · rw [if_neg hb]
    have hb1 : endW ys ≠ 0 := fun e => hb (Or.inl e)
    have hb2 : endW ys ≠ 18446744073709551615 := fun e => hb (Or.inr e)
    obtain ⟨s, hsv⟩ : ∃ s, s = if endW ys < 9223372036854775808 then 0 else 18446744073709551615 := ⟨_, rfl⟩
    rw [← hsv]
    have hss : (endW ys < 9223372036854775808 ∧ s = 0 ∧ q = 0) ∨ (9223372036854775808 ≤ endW ys ∧ s = 18446744073709551615 ∧ q = 1) := by
      by_cases hc : endW ys < 9223372036854775808
      · rw [if_pos hc] at hsv
        refine Or.inl ⟨hc, hsv, ?_⟩
        rcases hq with rfl | rfl
        · rfl
        · exfalso
          have h5 : (endW ys : Int) * 2 ^ (64 * n) ≤ 9223372036854775807 * 2 ^ (64 * n) := Int.mul_le_mul_of_nonneg_right (by omega) (by omega)
          rw [hR] at h1 h2 he
          generalize (2 : Int) ^ (64 * n) = P at *
          generalize (endW ys : Int) * P = Q at *
          omega
      · rw [if_neg hc] at hsv
        refine Or.inr ⟨by omega, hsv, ?_⟩
        rcases hq with rfl | rfl
        · exfalso
          have h5 : 9223372036854775808 * 2 ^ (64 * n) ≤ (endW ys : Int) * 2 ^ (64 * n) := Int.mul_le_mul_of_nonneg_right (by omega) (by omega)
          rw [hR] at h1 h2 he
          generalize (2 : Int) ^ (64 * n) = P at *
          generalize (endW ys : Int) * P = Q at *
          omega
        · rfl
    refine ⟨hf.snoc (by rcases hss with h | h <;> omega), by rw [endW_snoc]; rcases hss with h | h <;> omega, ?_⟩
    rw [endW_snoc, List.length_append, List.length_singleton, ps]
    have e1 : ps (wd (ys ++ [s])) ys.length = ps (fun i => ys.getD i 0) ys.length := ps_congr fun i hi => by
      unfold wd
      rw [List.length_append, List.length_singleton, if_pos (by omega), getD_snoc, if_pos hi]
    have e2 : wd (ys ++ [s]) ys.length = s := by
      unfold wd
      rw [List.length_append, List.length_singleton, if_pos (by omega), getD_snoc, if_neg (by omega), if_pos rfl]
    rw [e1, e2, Int.natCast_add, Int.natCast_mul, natpow, pow64i, he]
    generalize (2 : Int) ^ (64 * ys.length) = R at *
    rcases hss with ⟨_, rfl, rfl⟩ | ⟨_, rfl, rfl⟩
    · simp
    · rw [if_neg (by decide)]; omega

/-- Word by word with a carry: s is 1 or -1, ys what is told, xs what was there, f what is added or taken away. -/
def Rel (s : Int) (y x f : Nat → Nat) (c k : Nat) : Prop := (ps y k : Int) + s * ((c : Int) * 2 ^ (64 * k)) = ps x k + s * ps f k
theorem Rel.start (s : Int) (y x f : Nat → Nat) : Rel s y x f 0 0 := by simp [Rel, ps]
theorem Rel.step {s : Int} {y x f : Nat → Nat} {c c' k : Nat} (h : Rel s y x f c k) (hs : (y k : Int) + s * ((c' : Int) * 18446744073709551616) = x k + s * ((f k : Int) + c)) : Rel s y x f c' (k + 1) := by
  unfold Rel at *
  rw [ps, ps, ps, pow64i, Int.natCast_add, Int.natCast_add, Int.natCast_add, Int.natCast_mul, Int.natCast_mul, Int.natCast_mul, natpow]
  generalize (2 : Int) ^ (64 * k) = P at *
  have h2 : ((y k : Int) + s * ((c' : Int) * 18446744073709551616)) * P = ((x k : Int) + s * ((f k : Int) + c)) * P := by rw [hs]
  simp only [Int.add_mul, Int.mul_add, Int.mul_assoc] at h2 h ⊢
  rw [Int.mul_comm 18446744073709551616 P] at h2
  rw [Int.mul_comm 18446744073709551616 P]
  generalize s * ((c' : Int) * (P * 18446744073709551616)) = A at *
  generalize s * ((c : Int) * P) = B at *
  generalize s * ((f k : Int) * P) = C at *
  generalize (y k : Int) * P = D at *
  generalize (x k : Int) * P = F at *
  omega
/-- Where nothing is carried any more, and nothing added: the rest stays. -/
theorem Rel.rest {s : Int} {y x f : Nat → Nat} {k n : Nat} (h : Rel s y x f 0 k) (hk : k ≤ n) (hr : ∀ j, k ≤ j → j < n → y j = x j ∧ f j = 0) : Rel s y x f 0 n := by
  induction n with
  | zero => rw [show k = 0 by omega] at h; exact h
  | succ n ih =>
    by_cases e : k = n + 1
    · subst e; exact h
    · have h1 := ih (by omega) (fun j hj hj2 => hr j hj (by omega))
      refine h1.step ?_
      have := hr n (by omega) (by omega)
      rw [this.1, this.2]; simp
theorem Rel.congr {s : Int} {y y' x x' f f' : Nat → Nat} {c k : Nat} (h : Rel s y x f c k) (h1 : ∀ i, i < k → y i = y' i) (h2 : ∀ i, i < k → x i = x' i) (h3 : ∀ i, i < k → f i = f' i) : Rel s y' x' f' c k := by
  unfold Rel at *
  rw [← ps_congr h1, ← ps_congr h2, ← ps_congr h3]; exact h
end Go.Proofs.Ytbkmbdbjeiffpaa
namespace Go.Proofs.Ytbkmbdbjeiffpaa

/-- Two numbers of at most n words each, word by word added. -/
theorem sg_plus {xs vs ys : List Nat} {N M : Int} {c n : Nat} (h : Sg xs N) (h' : Sg vs M) (hx : xs.length ≤ n + 1) (hv : vs.length ≤ n + 1) (hy : ys.length = n + 1) (hf : FitW ys) (hr : Rel 1 (fun i => ys.getD i 0) (wd xs) (wd vs) c (n + 1)) : Sg (settle ys) (N + M) := by
  have e1 := h.ext hx
  have e2 := h'.ext hv
  have r1 := h.range hx
  have r2 := h'.range hv
  have b1 : -(2 ^ (64 * n)) ≤ N ∧ N < 2 ^ (64 * n) := by
    have := pow64_pos n; have := natpow n
    by_cases e : endW xs = 0
    · have := r1.1 e; omega
    · have := r1.2 e; omega
  have b2 : -(2 ^ (64 * n)) ≤ M ∧ M < 2 ^ (64 * n) := by
    have := pow64_pos n; have := natpow n
    by_cases e : endW vs = 0
    · have := r2.1 e; omega
    · have := r2.2 e; omega
  have hp : (0 : Int) < 2 ^ (64 * n) := by have := pow64_pos n; have := natpow n; omega
  obtain ⟨a, ha⟩ : ∃ a : Int, N = (ps (wd xs) (n + 1) : Int) - a * 2 ^ (64 * (n + 1)) := by
    by_cases e : endW xs = 0
    · exact ⟨0, by rw [if_pos e] at e1; rw [Int.zero_mul]; exact e1⟩
    · exact ⟨1, by rw [if_neg e] at e1; rw [Int.one_mul]; exact e1⟩
  obtain ⟨b, hb⟩ : ∃ b : Int, M = (ps (wd vs) (n + 1) : Int) - b * 2 ^ (64 * (n + 1)) := by
    by_cases e : endW vs = 0
    · exact ⟨0, by rw [if_pos e] at e2; rw [Int.zero_mul]; exact e2⟩
    · exact ⟨1, by rw [if_neg e] at e2; rw [Int.one_mul]; exact e2⟩
  unfold Rel at hr
  refine sg_settle (q := a + b - c) hf (by omega) ?_ ?_ ?_
  · rw [hy, Int.sub_mul, Int.add_mul]; omega
  · rw [hy, pow64i]; omega
  · rw [hy, pow64i]; omega

/-- A number of at most n words, and what is added or taken away at the place of its words. -/
theorem sg_with {xs ys : List Nat} {N s : Int} {f : Nat → Nat} {c n : Nat} {F : Nat} (h : Sg xs N) (hx : xs.length = n + 1) (hy : ys.length = n + 1) (hf : FitW ys) (hs : s = 1 ∨ s = -1) (hF : ps f (n + 1) = F) (hb : 4 * (F : Int) ≤ 2 ^ (64 * (n + 1))) (hr : Rel s (fun i => ys.getD i 0) (fun i => xs.getD i 0) f c (n + 1)) : Sg (settle ys) (N + s * F) := by
  have e1 := h.ext (n := n + 1) (by omega)
  rw [wd_in (by omega)] at e1
  have r1 := h.range (n := n) (by omega)
  have b1 : -(2 ^ (64 * n)) ≤ N ∧ N < 2 ^ (64 * n) := by
    have := pow64_pos n; have := natpow n
    by_cases e : endW xs = 0
    · have := r1.1 e; omega
    · have := r1.2 e; omega
  have hp : (0 : Int) < 2 ^ (64 * n) := by have := pow64_pos n; have := natpow n; omega
  obtain ⟨a, ha⟩ : ∃ a : Int, N = (ps (fun i => xs.getD i 0) (n + 1) : Int) - a * 2 ^ (64 * (n + 1)) := by
    by_cases e : endW xs = 0
    · exact ⟨0, by rw [if_pos e] at e1; rw [Int.zero_mul]; exact e1⟩
    · exact ⟨1, by rw [if_neg e] at e1; rw [Int.one_mul]; exact e1⟩
  unfold Rel at hr
  rw [hF] at hr
  rw [pow64i] at hb
  have hsF : -(4 * F : Int) ≤ 4 * (s * F) ∧ 4 * (s * F) ≤ 4 * (F : Int) := by
    rcases hs with rfl | rfl <;> constructor <;> omega
  refine sg_settle (q := a - s * c) hf (by omega) ?_ ?_ ?_
  · rw [hy, Int.sub_mul, Int.mul_assoc s]; omega
  · rw [hy, pow64i]; omega
  · rw [hy, pow64i]; omega

/-- The words of what is taken from 0. -/
theorem inv_val {xs ys : List Nat} {N : Int} {c : Nat} (h : Sg xs N) (hy : ys.length = xs.length) (hr : Rel (-1) (fun i => ys.getD i 0) (fun _ => 0) (fun i => xs.getD i 0) c xs.length) : ∃ q : Int, (ps (fun i => ys.getD i 0) ys.length : Int) = -N + q * 2 ^ (64 * ys.length) := by
  have e1 := h.eq
  rw [wd_in (Nat.le_refl _)] at e1
  unfold Rel at hr
  rw [ps_zero] at hr
  by_cases e : endW xs = 0
  · refine ⟨c, ?_⟩
    rw [if_pos e] at e1
    rw [hy]; omega
  · refine ⟨(c : Int) - 1, ?_⟩
    rw [if_neg e] at e1
    rw [hy, Int.sub_mul]; omega
theorem sg_turned {xs ys : List Nat} {N : Int} {c : Nat} (h : Sg xs N) (hy : ys.length = xs.length) (hf : FitW ys) (hr : Rel (-1) (fun i => ys.getD i 0) (fun _ => 0) (fun i => xs.getD i 0) c xs.length) : Sg (settle ys) (-N) := by
  by_cases h0 : xs.length = 0
  · have e1 : xs = [] := List.length_eq_zero_iff.1 h0
    have e2 : ys = [] := List.length_eq_zero_iff.1 (by omega)
    subst e1; subst e2
    have := h.eq
    simp [ps, endW] at this
    subst this
    simpa [settle, endW] using sg_nil
  · obtain ⟨q, hq⟩ := inv_val h hy hr
    obtain ⟨n, hn⟩ : ∃ n, xs.length = n + 1 := ⟨xs.length - 1, by omega⟩
    have r1 := h.range (n := n) (by omega)
    have hp : (0 : Int) < 2 ^ (64 * n) := by have := pow64_pos n; have := natpow n; omega
    have b1 : -(2 ^ (64 * n)) ≤ N ∧ N < 2 ^ (64 * n) := by
      by_cases e : endW xs = 0
      · have := r1.1 e; omega
      · have := r1.2 e; omega
    refine sg_settle hf (by omega) hq ?_ ?_
    · rw [hy, hn, pow64i]; omega
    · rw [hy, hn, pow64i]; omega
/-- The size, where the number is below 0. -/
theorem inv_size {xs ys : List Nat} {N : Int} {c : Nat} (h : Sg xs N) (he : endW xs ≠ 0) (hy : ys.length = xs.length) (hf : FitW ys) (hr : Rel (-1) (fun i => ys.getD i 0) (fun _ => 0) (fun i => xs.getD i 0) c xs.length) : N < 0 ∧ (ps (fun i => ys.getD i 0) ys.length : Int) = -N := by
  have h0 : xs.length ≠ 0 := by
    intro e
    apply he
    have : xs = [] := List.length_eq_zero_iff.1 e
    subst this; rfl
  obtain ⟨n, hn⟩ : ∃ n, xs.length = n + 1 := ⟨xs.length - 1, by omega⟩
  have r1 := (h.range (n := n) (by omega)).2 he
  refine ⟨r1.2, ?_⟩
  have hp : (0 : Int) < 2 ^ (64 * n) := by have := pow64_pos n; have := natpow n; omega
  obtain ⟨q, hq⟩ := inv_val h hy hr
  have b := ps_lt hf ys.length
  have b2 : (ps (fun i => ys.getD i 0) ys.length : Int) < 2 ^ (64 * ys.length) := by have := natpow ys.length; omega
  rw [hy, hn] at hq b2 ⊢
  have hR := pow64i n
  generalize (2 : Int) ^ (64 * (n + 1)) = R at *
  have a : q * R < 1 * R := by omega
  have b3 : (-1) * R < q * R := by omega
  have a2 := Int.lt_of_mul_lt_mul_right a (by omega)
  have b4 := Int.lt_of_mul_lt_mul_right b3 (by omega)
  have : q = 0 := by omega
  subst this; omega

/-- The pieces of a product of two words, put off by some bits. -/
theorem piece1 {hi lo off : Nat} (ho : off < 64) (hl : lo < 18446744073709551616) : (hi * 2 ^ off % 18446744073709551616) ||| (lo / 2 ^ (64 - off)) = hi * 2 ^ off % 18446744073709551616 + lo / 2 ^ (64 - off) := by
  have e : (18446744073709551616 : Nat) = 2 ^ off * 2 ^ (64 - off) := by rw [← Nat.pow_add, show off + (64 - off) = 64 by omega]
  have h1 : hi * 2 ^ off % 18446744073709551616 = 2 ^ off * (hi % 2 ^ (64 - off)) := by
    rw [e, Nat.mul_comm hi, Nat.mul_mod_mul_left]
  have h2 : lo / 2 ^ (64 - off) < 2 ^ off := by
    rw [Nat.div_lt_iff_lt_mul (Nat.two_pow_pos _), ← e]; exact hl
  rw [h1, ← Nat.two_pow_add_eq_or_of_lt h2]
theorem pieces_sum {hi lo off : Nat} (ho : off < 64) :
    lo * 2 ^ off % 18446744073709551616 + (hi * 2 ^ off % 18446744073709551616 + lo / 2 ^ (64 - off)) * 18446744073709551616 + hi / 2 ^ (64 - off) * (18446744073709551616 * 18446744073709551616) = (hi * 18446744073709551616 + lo) * 2 ^ off := by
  have e : (18446744073709551616 : Nat) = 2 ^ off * 2 ^ (64 - off) := by rw [← Nat.pow_add, show off + (64 - off) = 64 by omega]
  have hd : ∀ x : Nat, x / 2 ^ (64 - off) = x * 2 ^ off / 18446744073709551616 := fun x => by
    rw [e, Nat.mul_comm x, Nat.mul_div_mul_left _ _ (Nat.two_pow_pos _)]
  rw [hd lo, hd hi, Nat.add_mul (hi * 18446744073709551616)]
  have e1 := Nat.div_add_mod (lo * 2 ^ off) 18446744073709551616
  have e2 := Nat.div_add_mod (hi * 2 ^ off) 18446744073709551616
  have e3 : hi * 18446744073709551616 * 2 ^ off = hi * 2 ^ off * 18446744073709551616 := by rw [Nat.mul_right_comm]
  rw [e3]
  generalize lo * 2 ^ off = A at *
  generalize hi * 2 ^ off = B at *
  omega

/-- Bits behind those that are kept count but as one. -/
theorem rne_sticky {M t d : Nat} (hd : 2 ≤ d) : rne (if M % 2 ^ t = 0 then M / 2 ^ t else (if M / 2 ^ t % 2 = 1 then M / 2 ^ t else M / 2 ^ t + 1)) d = rne M (d + t) := by
  by_cases h0 : M % 2 ^ t = 0
  · rw [if_pos h0]
    have e : M = M / 2 ^ t * 2 ^ t := by have := Nat.div_add_mod M (2 ^ t); rw [h0, Nat.add_zero, Nat.mul_comm] at this; exact this.symm
    conv => rhs; rw [e]
    rw [rne_scale]
  · rw [if_neg h0]
    obtain ⟨a, ha⟩ : ∃ a, a = M / 2 ^ t := ⟨_, rfl⟩
    obtain ⟨r, hr⟩ : ∃ r, r = M % 2 ^ t := ⟨_, rfl⟩
    rw [← ha]
    have hM : M = a * 2 ^ t + r := by rw [ha, hr, Nat.mul_comm]; exact (Nat.div_add_mod M (2 ^ t)).symm
    have hrt : r < 2 ^ t := by rw [hr]; exact Nat.mod_lt _ (Nat.two_pow_pos _)
    have hr0 : r ≠ 0 := by rw [hr]; exact h0
    obtain ⟨D, hD⟩ : ∃ D, (2 : Nat) ^ d = 4 * D := ⟨2 ^ (d - 2), by rw [show (4 : Nat) = 2 ^ 2 from rfl, ← Nat.pow_add]; congr 1; omega⟩
    have hDp : 0 < D := by have := Nat.two_pow_pos d; omega
    obtain ⟨b, hb⟩ : ∃ b, b = if a % 2 = 1 then a else a + 1 := ⟨_, rfl⟩
    rw [← hb]
    have hbd : b / 2 ^ d = a / 2 ^ d ∧ b % 2 ^ d = a % 2 ^ d + (b - a) ∧ b % 2 = 1 := by
      by_cases ho : a % 2 = 1
      · rw [if_pos ho] at hb; subst hb; simp [ho]
      · rw [if_neg ho] at hb
        have h1 : a % 2 ^ d % 2 = 0 := by rw [hD, show 4 * D = 2 * (2 * D) by omega, Nat.mod_mul_right_mod]; omega
        have h2 := Nat.mod_lt a (Nat.two_pow_pos d)
        have h3 : a % 2 ^ d + 1 < 2 ^ d := by omega
        have h4 := Nat.div_add_mod a (2 ^ d)
        have e : b = a % 2 ^ d + 1 + 2 ^ d * (a / 2 ^ d) := by omega
        refine ⟨?_, ?_, by omega⟩
        · rw [e, Nat.add_mul_div_left _ _ (Nat.two_pow_pos _), Nat.div_eq_of_lt h3, Nat.zero_add]
        · rw [e, Nat.add_mul_mod_self_left, Nat.mod_eq_of_lt h3]; omega
    have hMd : M / 2 ^ (d + t) = a / 2 ^ d := by rw [Nat.add_comm, Nat.pow_add, ← Nat.div_div_eq_div_mul, ← ha]
    have hMm : M % 2 ^ (d + t) = a % 2 ^ d * 2 ^ t + r := by
      rw [Nat.add_comm, Nat.pow_add, Nat.mod_mul, ← ha, ← hr, Nat.mul_comm (2 ^ t)]; omega
    unfold rne
    rw [hbd.1, hMd, hbd.2.1, hMm, Nat.add_comm d t, Nat.pow_add 2 t d]
    have hcond : ∀ (x : Nat), x = a % 2 ^ d → b - a ≤ 1 → (b - a = 0 ↔ x % 2 = 1) → ((2 ^ d < 2 * (x + (b - a)) ∨ (2 ^ d = 2 * (x + (b - a)) ∧ a / 2 ^ d % 2 = 1)) ↔ (2 ^ t * 2 ^ d < 2 * (x * 2 ^ t + r) ∨ (2 ^ t * 2 ^ d = 2 * (x * 2 ^ t + r) ∧ a / 2 ^ d % 2 = 1))) := by
      intro x hx h1 h2
      have hT := Nat.two_pow_pos t
      generalize (2 : Nat) ^ t = T at *
      rw [hD]
      have key : 4 * D < 2 * (x + (b - a)) ↔ T * (4 * D) < 2 * (x * T + r) := by
        constructor
        · intro h
          have h5 : 2 * D ≤ x := by omega
          have h6 : 2 * D * T ≤ x * T := Nat.mul_le_mul_right _ h5
          have h7 : T * (4 * D) = 2 * (2 * D * T) := by rw [Nat.mul_comm T, show 4 * D = 2 * (2 * D) by omega, Nat.mul_assoc]
          omega
        · intro h
          have h7 : T * (4 * D) = 2 * (2 * D * T) := by rw [Nat.mul_comm T, show 4 * D = 2 * (2 * D) by omega, Nat.mul_assoc]
          rcases Nat.lt_or_ge x (2 * D) with h5 | h5
          · have h6 : (x + 1) * T ≤ 2 * D * T := Nat.mul_le_mul_right _ h5
            rw [Nat.add_mul, Nat.one_mul] at h6
            omega
          · omega
      have k2 : ¬ (4 * D = 2 * (x + (b - a))) := by omega
      have k3 : ¬ (T * (4 * D) = 2 * (x * T + r)) := by
        have h7 : T * (4 * D) = 2 * (2 * D * T) := by rw [Nat.mul_comm T, show 4 * D = 2 * (2 * D) by omega, Nat.mul_assoc]
        intro h
        have h8 : 2 * D * T = x * T + r := by omega
        rcases Nat.lt_or_ge x (2 * D) with h5 | h5
        · have h6 : (x + 1) * T ≤ 2 * D * T := Nat.mul_le_mul_right _ h5
          rw [Nat.add_mul, Nat.one_mul] at h6
          omega
        · have h6 : 2 * D * T ≤ x * T := Nat.mul_le_mul_right _ h5
          omega
      rw [key]
      constructor
      · rintro (h | h)
        · exact Or.inl h
        · exact absurd h.1 k2
      · rintro (h | h)
        · exact Or.inl h
        · exact absurd h.1 k3
    have h1 : a % 2 ^ d % 2 = a % 2 := by rw [hD, show 4 * D = 2 * (2 * D) by omega, Nat.mod_mul_right_mod]
    have := hcond (a % 2 ^ d) rfl (by by_cases ho : a % 2 = 1; rw [if_pos ho] at hb; omega; rw [if_neg ho] at hb; omega) (by rw [h1]; by_cases ho : a % 2 = 1; rw [if_pos ho] at hb; omega; rw [if_neg ho] at hb; omega)
    simp only [this]
end Go.Proofs.Ytbkmbdbjeiffpaa
