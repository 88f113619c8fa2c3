/- Sums, differences and turned numbers by their words; a number's leading bits, rounded once. -/
import Derived.Test.YtlbpekncaikabaaWd
import Derived.Test.YtlbpekncaikabaaRnd
namespace Go.Proofs.Ytlbpekncaikabaa

/-- Two numbers of at most n words each, word by word added. -/
theorem sg_plus {xs vs ys : List Nat} {N M : Int} {c n : Nat} (h : Sg xs N) (h' : Sg vs M) (hx : xs.length ≤ n + 1) (hv : vs.length ≤ n + 1) (hy : ys.length = n + 1) (hf : FitW ys) (hr : Rel 1 (fun i => ys.getD i 0) (wd xs) (wd vs) c (n + 1)) : Sg (settle ys) (N + M) := by
  have e1 := h.ext hx
  have e2 := h'.ext hv
  have r1 := h.range hx
  have r2 := h'.range hv
  have b1 : -(2 ^ (64 * n)) ≤ N ∧ N < 2 ^ (64 * n) := by
    have := pow64_pos n; have := natpow n
    by_cases e : endW xs = 0
    · have := r1.1 e; omega
    · have := r1.2 e; omega
  have b2 : -(2 ^ (64 * n)) ≤ M ∧ M < 2 ^ (64 * n) := by
    have := pow64_pos n; have := natpow n
    by_cases e : endW vs = 0
    · have := r2.1 e; omega
    · have := r2.2 e; omega
  have hp : (0 : Int) < 2 ^ (64 * n) := by have := pow64_pos n; have := natpow n; omega
  obtain ⟨a, ha⟩ : ∃ a : Int, N = (ps (wd xs) (n + 1) : Int) - a * 2 ^ (64 * (n + 1)) := by
    by_cases e : endW xs = 0
    · exact ⟨0, by rw [if_pos e] at e1; rw [Int.zero_mul]; exact e1⟩
    · exact ⟨1, by rw [if_neg e] at e1; rw [Int.one_mul]; exact e1⟩
  obtain ⟨b, hb⟩ : ∃ b : Int, M = (ps (wd vs) (n + 1) : Int) - b * 2 ^ (64 * (n + 1)) := by
    by_cases e : endW vs = 0
    · exact ⟨0, by rw [if_pos e] at e2; rw [Int.zero_mul]; exact e2⟩
    · exact ⟨1, by rw [if_neg e] at e2; rw [Int.one_mul]; exact e2⟩
  unfold Rel at hr
  refine sg_settle (q := a + b - c) hf (by omega) ?_ ?_ ?_
  · rw [hy, Int.sub_mul, Int.add_mul]; omega
  · rw [hy, pow64i]; omega
  · rw [hy, pow64i]; omega

/-- A number of at most n words, and what is added or taken away at the place of its words. -/
theorem sg_with {xs ys : List Nat} {N s : Int} {f : Nat → Nat} {c n : Nat} {F : Nat} (h : Sg xs N) (hx : xs.length = n + 1) (hy : ys.length = n + 1) (hf : FitW ys) (hs : s = 1 ∨ s = -1) (hF : ps f (n + 1) = F) (hb : 4 * (F : Int) ≤ 2 ^ (64 * (n + 1))) (hr : Rel s (fun i => ys.getD i 0) (fun i => xs.getD i 0) f c (n + 1)) : Sg (settle ys) (N + s * F) := by
  have e1 := h.ext (n := n + 1) (by omega)
  rw [wd_in (by omega)] at e1
  have r1 := h.range (n := n) (by omega)
  have b1 : -(2 ^ (64 * n)) ≤ N ∧ N < 2 ^ (64 * n) := by
    have := pow64_pos n; have := natpow n
    by_cases e : endW xs = 0
    · have := r1.1 e; omega
    · have := r1.2 e; omega
  have hp : (0 : Int) < 2 ^ (64 * n) := by have := pow64_pos n; have := natpow n; omega
  obtain ⟨a, ha⟩ : ∃ a : Int, N = (ps (fun i => xs.getD i 0) (n + 1) : Int) - a * 2 ^ (64 * (n + 1)) := by
    by_cases e : endW xs = 0
    · exact ⟨0, by rw [if_pos e] at e1; rw [Int.zero_mul]; exact e1⟩
    · exact ⟨1, by rw [if_neg e] at e1; rw [Int.one_mul]; exact e1⟩
  unfold Rel at hr
  rw [hF] at hr
  rw [pow64i] at hb
  have hsF : -(4 * F : Int) ≤ 4 * (s * F) ∧ 4 * (s * F) ≤ 4 * (F : Int) := by
    rcases hs with rfl | rfl <;> constructor <;> omega
  refine sg_settle (q := a - s * c) hf (by omega) ?_ ?_ ?_
  · rw [hy, Int.sub_mul, Int.mul_assoc s]; omega
  · rw [hy, pow64i]; omega
  · rw [hy, pow64i]; omega

/-- The words of what is taken from 0. -/
theorem inv_val {xs ys : List Nat} {N : Int} {c : Nat} (h : Sg xs N) (hy : ys.length = xs.length) (hr : Rel (-1) (fun i => ys.getD i 0) (fun _ => 0) (fun i => xs.getD i 0) c xs.length) : ∃ q : Int, (ps (fun i => ys.getD i 0) ys.length : Int) = -N + q * 2 ^ (64 * ys.length) := by
  have e1 := h.eq
  rw [wd_in (Nat.le_refl _)] at e1
  unfold Rel at hr
  rw [ps_zero] at hr
  by_cases e : endW xs = 0
  · refine ⟨c, ?_⟩
    rw [if_pos e] at e1
    rw [hy]; omega
  · refine ⟨(c : Int) - 1, ?_⟩
    rw [if_neg e] at e1
    rw [hy, Int.sub_mul]; omega
theorem sg_turned {xs ys : List Nat} {N : Int} {c : Nat} (h : Sg xs N) (hy : ys.length = xs.length) (hf : FitW ys) (hr : Rel (-1) (fun i => ys.getD i 0) (fun _ => 0) (fun i => xs.getD i 0) c xs.length) : Sg (settle ys) (-N) := by
  by_cases h0 : xs.length = 0
  · have e1 : xs = [] := List.length_eq_zero_iff.1 h0
    have e2 : ys = [] := List.length_eq_zero_iff.1 (by omega)
    subst e1; subst e2
    have := h.eq
    simp [ps, endW] at this
    subst this
    simpa [settle, endW] using sg_nil
  · obtain ⟨q, hq⟩ := inv_val h hy hr
    obtain ⟨n, hn⟩ : ∃ n, xs.length = n + 1 := ⟨xs.length - 1, by omega⟩
    have r1 := h.range (n := n) (by omega)
    have hp : (0 : Int) < 2 ^ (64 * n) := by have := pow64_pos n; have := natpow n; omega
    have b1 : -(2 ^ (64 * n)) ≤ N ∧ N < 2 ^ (64 * n) := by
      by_cases e : endW xs = 0
      · have := r1.1 e; omega
      · have := r1.2 e; omega
    refine sg_settle hf (by omega) hq ?_ ?_
    · rw [hy, hn, pow64i]; omega
    · rw [hy, hn, pow64i]; omega
/-- The size, where the number is below 0. -/
theorem inv_size {xs ys : List Nat} {N : Int} {c : Nat} (h : Sg xs N) (he : endW xs ≠ 0) (hy : ys.length = xs.length) (hf : FitW ys) (hr : Rel (-1) (fun i => ys.getD i 0) (fun _ => 0) (fun i => xs.getD i 0) c xs.length) : N < 0 ∧ (ps (fun i => ys.getD i 0) ys.length : Int) = -N := by
  have h0 : xs.length ≠ 0 := by
    intro e
    apply he
    have : xs = [] := List.length_eq_zero_iff.1 e
    subst this; rfl
  obtain ⟨n, hn⟩ : ∃ n, xs.length = n + 1 := ⟨xs.length - 1, by omega⟩
  have r1 := (h.range (n := n) (by omega)).2 he
  refine ⟨r1.2, ?_⟩
  have hp : (0 : Int) < 2 ^ (64 * n) := by have := pow64_pos n; have := natpow n; omega
  obtain ⟨q, hq⟩ := inv_val h hy hr
  have b := ps_lt hf ys.length
  have b2 : (ps (fun i => ys.getD i 0) ys.length : Int) < 2 ^ (64 * ys.length) := by have := natpow ys.length; omega
  rw [hy, hn] at hq b2 ⊢
  have hR := pow64i n
  generalize (2 : Int) ^ (64 * (n + 1)) = R at *
  have a : q * R < 1 * R := by omega
  have b3 : (-1) * R < q * R := by omega
  have a2 := Int.lt_of_mul_lt_mul_right a (by omega)
  have b4 := Int.lt_of_mul_lt_mul_right b3 (by omega)
  have : q = 0 := by omega
  subst this; omega

/-- The pieces of a product of two words, put off by some bits. -/
theorem piece1 {hi lo off : Nat} (ho : off < 64) (hl : lo < 18446744073709551616) : (hi * 2 ^ off % 18446744073709551616) ||| (lo / 2 ^ (64 - off)) = hi * 2 ^ off % 18446744073709551616 + lo / 2 ^ (64 - off) := by
  have e : (18446744073709551616 : Nat) = 2 ^ off * 2 ^ (64 - off) := by rw [← Nat.pow_add, show off + (64 - off) = 64 by omega]
  have h1 : hi * 2 ^ off % 18446744073709551616 = 2 ^ off * (hi % 2 ^ (64 - off)) := by
    rw [e, Nat.mul_comm hi, Nat.mul_mod_mul_left]
  have h2 : lo / 2 ^ (64 - off) < 2 ^ off := by
    rw [Nat.div_lt_iff_lt_mul (Nat.two_pow_pos _), ← e]; exact hl
  rw [h1, ← Nat.two_pow_add_eq_or_of_lt h2]
theorem pieces_sum {hi lo off : Nat} (ho : off < 64) :
    lo * 2 ^ off % 18446744073709551616 + (hi * 2 ^ off % 18446744073709551616 + lo / 2 ^ (64 - off)) * 18446744073709551616 + hi / 2 ^ (64 - off) * (18446744073709551616 * 18446744073709551616) = (hi * 18446744073709551616 + lo) * 2 ^ off := by
  have e : (18446744073709551616 : Nat) = 2 ^ off * 2 ^ (64 - off) := by rw [← Nat.pow_add, show off + (64 - off) = 64 by omega]
  have hd : ∀ x : Nat, x / 2 ^ (64 - off) = x * 2 ^ off / 18446744073709551616 := fun x => by
    rw [e, Nat.mul_comm x, Nat.mul_div_mul_left _ _ (Nat.two_pow_pos _)]
  rw [hd lo, hd hi, Nat.add_mul (hi * 18446744073709551616)]
  have e1 := Nat.div_add_mod (lo * 2 ^ off) 18446744073709551616
  have e2 := Nat.div_add_mod (hi * 2 ^ off) 18446744073709551616
  have e3 : hi * 18446744073709551616 * 2 ^ off = hi * 2 ^ off * 18446744073709551616 := by rw [Nat.mul_right_comm]
  rw [e3]
  generalize lo * 2 ^ off = A at *
  generalize hi * 2 ^ off = B at *
  omega

/-- Bits behind those that are kept count but as one. -/
theorem rne_sticky {M t d : Nat} (hd : 2 ≤ d) : rne (if M % 2 ^ t = 0 then M / 2 ^ t else (if M / 2 ^ t % 2 = 1 then M / 2 ^ t else M / 2 ^ t + 1)) d = rne M (d + t) := by
  by_cases h0 : M % 2 ^ t = 0
  · rw [if_pos h0]
    have e : M = M / 2 ^ t * 2 ^ t := by have := Nat.div_add_mod M (2 ^ t); rw [h0, Nat.add_zero, Nat.mul_comm] at this; exact this.symm
    conv => rhs; rw [e]
    rw [rne_scale]
  · rw [if_neg h0]
    obtain ⟨a, ha⟩ : ∃ a, a = M / 2 ^ t := ⟨_, rfl⟩
    obtain ⟨r, hr⟩ : ∃ r, r = M % 2 ^ t := ⟨_, rfl⟩
    rw [← ha]
    have hM : M = a * 2 ^ t + r := by rw [ha, hr, Nat.mul_comm]; exact (Nat.div_add_mod M (2 ^ t)).symm
    have hrt : r < 2 ^ t := by rw [hr]; exact Nat.mod_lt _ (Nat.two_pow_pos _)
    have hr0 : r ≠ 0 := by rw [hr]; exact h0
    obtain ⟨D, hD⟩ : ∃ D, (2 : Nat) ^ d = 4 * D := ⟨2 ^ (d - 2), by rw [show (4 : Nat) = 2 ^ 2 from rfl, ← Nat.pow_add]; congr 1; omega⟩
    have hDp : 0 < D := by have := Nat.two_pow_pos d; omega
    obtain ⟨b, hb⟩ : ∃ b, b = if a % 2 = 1 then a else a + 1 := ⟨_, rfl⟩
    rw [← hb]
    have hbd : b / 2 ^ d = a / 2 ^ d ∧ b % 2 ^ d = a % 2 ^ d + (b - a) ∧ b % 2 = 1 := by
      by_cases ho : a % 2 = 1
      · rw [if_pos ho] at hb; subst hb; simp [ho]
      · rw [if_neg ho] at hb
        have h1 : a % 2 ^ d % 2 = 0 := by rw [hD, show 4 * D = 2 * (2 * D) by omega, Nat.mod_mul_right_mod]; omega
        have h2 := Nat.mod_lt a (Nat.two_pow_pos d)
        have h3 : a % 2 ^ d + 1 < 2 ^ d := by omega
        have h4 := Nat.div_add_mod a (2 ^ d)
        have e : b = a % 2 ^ d + 1 + 2 ^ d * (a / 2 ^ d) := by omega
        refine ⟨?_, ?_, by omega⟩
        · rw [e, Nat.add_mul_div_left _ _ (Nat.two_pow_pos _), Nat.div_eq_of_lt h3, Nat.zero_add]
        · rw [e, Nat.add_mul_mod_self_left, Nat.mod_eq_of_lt h3]; omega
    have hMd : M / 2 ^ (d + t) = a / 2 ^ d := by rw [Nat.add_comm, Nat.pow_add, ← Nat.div_div_eq_div_mul, ← ha]
    have hMm : M % 2 ^ (d + t) = a % 2 ^ d * 2 ^ t + r := by
      rw [Nat.add_comm, Nat.pow_add, Nat.mod_mul, ← ha, ← hr, Nat.mul_comm (2 ^ t)]; omega
    unfold rne
    rw [hbd.1, hMd, hbd.2.1, hMm, Nat.add_comm d t, Nat.pow_add 2 t d]
    have hcond : ∀ (x : Nat), x = a % 2 ^ d → b - a ≤ 1 → (b - a = 0 ↔ x % 2 = 1) → ((2 ^ d < 2 * (x + (b - a)) ∨ (2 ^ d = 2 * (x + (b - a)) ∧ a / 2 ^ d % 2 = 1)) ↔ (2 ^ t * 2 ^ d < 2 * (x * 2 ^ t + r) ∨ (2 ^ t * 2 ^ d = 2 * (x * 2 ^ t + r) ∧ a / 2 ^ d % 2 = 1))) := by
      intro x hx h1 h2
      have hT := Nat.two_pow_pos t
      generalize (2 : Nat) ^ t = T at *
      rw [hD]
      have key : 4 * D < 2 * (x + (b - a)) ↔ T * (4 * D) < 2 * (x * T + r) := by
        constructor
        · intro h
          have h5 : 2 * D ≤ x := by omega
          have h6 : 2 * D * T ≤ x * T := Nat.mul_le_mul_right _ h5
          have h7 : T * (4 * D) = 2 * (2 * D * T) := by rw [Nat.mul_comm T, show 4 * D = 2 * (2 * D) by omega, Nat.mul_assoc]
          omega
        · intro h
          have h7 : T * (4 * D) = 2 * (2 * D * T) := by rw [Nat.mul_comm T, show 4 * D = 2 * (2 * D) by omega, Nat.mul_assoc]
          rcases Nat.lt_or_ge x (2 * D) with h5 | h5
          · have h6 : (x + 1) * T ≤ 2 * D * T := Nat.mul_le_mul_right _ h5
            rw [Nat.add_mul, Nat.one_mul] at h6
            omega
          · omega
      have k2 : ¬ (4 * D = 2 * (x + (b - a))) := by omega
      have k3 : ¬ (T * (4 * D) = 2 * (x * T + r)) := by
        have h7 : T * (4 * D) = 2 * (2 * D * T) := by rw [Nat.mul_comm T, show 4 * D = 2 * (2 * D) by omega, Nat.mul_assoc]
        intro h
        have h8 : 2 * D * T = x * T + r := by omega
        rcases Nat.lt_or_ge x (2 * D) with h5 | h5
        · have h6 : (x + 1) * T ≤ 2 * D * T := Nat.mul_le_mul_right _ h5
          rw [Nat.add_mul, Nat.one_mul] at h6
          omega
        · have h6 : 2 * D * T ≤ x * T := Nat.mul_le_mul_right _ h5
          omega
      rw [key]
      constructor
      · rintro (h | h)
        · exact Or.inl h
        · exact absurd h.1 k2
      · rintro (h | h)
        · exact Or.inl h
        · exact absurd h.1 k3
    have h1 : a % 2 ^ d % 2 = a % 2 := by rw [hD, show 4 * D = 2 * (2 * D) by omega, Nat.mod_mul_right_mod]
    have := hcond (a % 2 ^ d) rfl (by by_cases ho : a % 2 = 1; rw [if_pos ho] at hb; omega; rw [if_neg ho] at hb; omega) (by rw [h1]; by_cases ho : a % 2 = 1; rw [if_pos ho] at hb; omega; rw [if_neg ho] at hb; omega)
    simp only [this]
end Go.Proofs.Ytlbpekncaikabaa
