/- Sums, differences and turned numbers by their words; a number's leading bits, rounded once. A great whole number rounded by its leading bits: what is behind them counts but as one bit. -/
import Derived.Test.YtcbbbkngjdlcjaaGbb
import Derived.Test.YtcbbbkngjdlcjaaGap
import Derived.Test.YtcbbbkngjdlcjaaGaw
namespace Go.Proofs.Ytcbbbkngjdlcjaa

/-- Two numbers of at most n words each, word by word added. -/
theorem sg_plus {xs vs ys : List Nat} {N M : Int} {c n : Nat} (h : Sg xs N) (h' : Sg vs M) (hx : xs.length ≤ n + 1) (hv : vs.length ≤ n + 1) (hy : ys.length = n + 1) (hf : FitW ys) (hr : Rel 1 (fun i => ys.getD i 0) (wd xs) (wd vs) c (n + 1)) : Sg (settle ys) (N + M) := by
  have e1 := h.ext hx
  have e2 := h'.ext hv
  have r1 := h.range hx
  have r2 := h'.range hv
  have b1 : -(2 ^ (64 * n)) ≤ N ∧ N < 2 ^ (64 * n) := by
    have := pow64_pos n; have := natpow n
    by_cases e : endW xs = 0
    · have := r1.1 e; omega
    · have := r1.2 e; omega
  have b2 : -(2 ^ (64 * n)) ≤ M ∧ M < 2 ^ (64 * n) := by
    have := pow64_pos n; have := natpow n
    by_cases e : endW vs = 0
    · have := r2.1 e; omega
    · have := r2.2 e; omega
  have hp : (0 : Int) < 2 ^ (64 * n) := by have := pow64_pos n; have := natpow n; omega
  obtain ⟨a, ha⟩ : ∃ a : Int, N = (ps (wd xs) (n + 1) : Int) - a * 2 ^ (64 * (n + 1)) := by
    by_cases e : endW xs = 0
    · exact ⟨0, by rw [if_pos e] at e1; rw [Int.zero_mul]; exact e1⟩
    · exact ⟨1, by rw [if_neg e] at e1; rw [Int.one_mul]; exact e1⟩
  obtain ⟨b, hb⟩ : ∃ b : Int, M = (ps (wd vs) (n + 1) : Int) - b * 2 ^ (64 * (n + 1)) := by
    by_cases e : endW vs = 0
    · exact ⟨0, by rw [if_pos e] at e2; rw [Int.zero_mul]; exact e2⟩
    · exact ⟨1, by rw [if_neg e] at e2; rw [Int.one_mul]; exact e2⟩
  unfold Rel at hr
  refine sg_settle (q := a + b - c) hf (by omega) ?_ ?_ ?_
  · rw [hy, Int.sub_mul, Int.add_mul]; omega
  · rw [hy, pow64i]; omega
  · rw [hy, pow64i]; omega

/-- A number of at most n words, and what is added or taken away at the place of its words. -/
theorem sg_with {xs ys : List Nat} {N s : Int} {f : Nat → Nat} {c n : Nat} {F : Nat} (h : Sg xs N) (hx : xs.length = n + 1) (hy : ys.length = n + 1) (hf : FitW ys) (hs : s = 1 ∨ s = -1) (hF : ps f (n + 1) = F) (hb : 4 * (F : Int) ≤ 2 ^ (64 * (n + 1))) (hr : Rel s (fun i => ys.getD i 0) (fun i => xs.getD i 0) f c (n + 1)) : Sg (settle ys) (N + s * F) := by
  have e1 := h.ext (n := n + 1) (by omega)
  rw [wd_in (by omega)] at e1
  have r1 := h.range (n := n) (by omega)
  have b1 : -(2 ^ (64 * n)) ≤ N ∧ N < 2 ^ (64 * n) := by
    have := pow64_pos n; have := natpow n
    by_cases e : endW xs = 0
    · have := r1.1 e; omega
    · have := r1.2 e; omega
  have hp : (0 : Int) < 2 ^ (64 * n) := by have := pow64_pos n; have := natpow n; omega
  obtain ⟨a, ha⟩ : ∃ a : Int, N = (ps (fun i => xs.getD i 0) (n + 1) : Int) - a * 2 ^ (64 * (n + 1)) := by
    by_cases e : endW xs = 0
    · exact ⟨0, by rw [if_pos e] at e1; rw [Int.zero_mul]; exact e1⟩
    · exact ⟨1, by rw [if_neg e] at e1; rw [Int.one_mul]; exact e1⟩
  unfold Rel at hr
  rw [hF] at hr
  rw [pow64i] at hb
  have hsF : -(4 * F : Int) ≤ 4 * (s * F) ∧ 4 * (s * F) ≤ 4 * (F : Int) := by
    rcases hs with rfl | rfl <;> constructor <;> omega
  refine sg_settle (q := a - s * c) hf (by omega) ?_ ?_ ?_
  · rw [hy, Int.sub_mul, Int.mul_assoc s]; omega
  · rw [hy, pow64i]; omega
  · rw [hy, pow64i]; omega

/-- The words of what is taken from 0. -/
theorem inv_val {xs ys : List Nat} {N : Int} {c : Nat} (h : Sg xs N) (hy : ys.length = xs.length) (hr : Rel (-1) (fun i => ys.getD i 0) (fun _ => 0) (fun i => xs.getD i 0) c xs.length) : ∃ q : Int, (ps (fun i => ys.getD i 0) ys.length : Int) = -N + q * 2 ^ (64 * ys.length) := by
  have e1 := h.eq
  rw [wd_in (Nat.le_refl _)] at e1
  unfold Rel at hr
  rw [ps_zero] at hr
  by_cases e : endW xs = 0
  · refine ⟨c, ?_⟩
    rw [if_pos e] at e1
    rw [hy]; omega
  · refine ⟨(c : Int) - 1, ?_⟩
    rw [if_neg e] at e1
    rw [hy, Int.sub_mul]; omega
theorem sg_turned {xs ys : List Nat} {N : Int} {c : Nat} (h : Sg xs N) (hy : ys.length = xs.length) (hf : FitW ys) (hr : Rel (-1) (fun i => ys.getD i 0) (fun _ => 0) (fun i => xs.getD i 0) c xs.length) : Sg (settle ys) (-N) := by
  by_cases h0 : xs.length = 0
  · have e1 : xs = [] := List.length_eq_zero_iff.1 h0
    have e2 : ys = [] := List.length_eq_zero_iff.1 (by omega)
    subst e1; subst e2
    have := h.eq
    simp [ps, endW] at this
    subst this
    simpa [settle, endW] using sg_nil
  · obtain ⟨q, hq⟩ := inv_val h hy hr
    obtain ⟨n, hn⟩ : ∃ n, xs.length = n + 1 := ⟨xs.length - 1, by omega⟩
    have r1 := h.range (n := n) (by omega)
    have hp : (0 : Int) < 2 ^ (64 * n) := by have := pow64_pos n; have := natpow n; omega
    have b1 : -(2 ^ (64 * n)) ≤ N ∧ N < 2 ^ (64 * n) := by
      by_cases e : endW xs = 0
      · have := r1.1 e; omega
      · have := r1.2 e; omega
    refine sg_settle hf (by omega) hq ?_ ?_
    · rw [hy, hn, pow64i]; omega
    · rw [hy, hn, pow64i]; omega
/-- The size, where the number is below 0. -/
theorem inv_size {xs ys : List Nat} {N : Int} {c : Nat} (h : Sg xs N) (he : endW xs ≠ 0) (hy : ys.length = xs.length) (hf : FitW ys) (hr : Rel (-1) (fun i => ys.getD i 0) (fun _ => 0) (fun i => xs.getD i 0) c xs.length) : N < 0 ∧ (ps (fun i => ys.getD i 0) ys.length : Int) = -N := by
  have h0 : xs.length ≠ 0 := by
    intro e
    apply he
    have : xs = [] := List.length_eq_zero_iff.1 e
    subst this; rfl
  obtain ⟨n, hn⟩ : ∃ n, xs.length = n + 1 := ⟨xs.length - 1, by omega⟩
  have r1 := (h.range (n := n) (by omega)).2 he
  refine ⟨r1.2, ?_⟩
  have hp : (0 : Int) < 2 ^ (64 * n) := by have := pow64_pos n; have := natpow n; omega
  obtain ⟨q, hq⟩ := inv_val h hy hr
  have b := ps_lt hf ys.length
  have b2 : (ps (fun i => ys.getD i 0) ys.length : Int) < 2 ^ (64 * ys.length) := by have := natpow ys.length; omega
  rw [hy, hn] at hq b2 ⊢
  have hR := pow64i n
  generalize (2 : Int) ^ (64 * (n + 1)) = R at *
  have a : q * R < 1 * R := by omega
  have b3 : (-1) * R < q * R := by omega
  have a2 := Int.lt_of_mul_lt_mul_right a (by omega)
  have b4 := Int.lt_of_mul_lt_mul_right b3 (by omega)
  have : q = 0 := by omega
  subst this; omega

/-- The pieces of a product of two words, put off by some bits. -/
theorem piece1 {hi lo off : Nat} (ho : off < 64) (hl : lo < 18446744073709551616) : (hi * 2 ^ off % 18446744073709551616) ||| (lo / 2 ^ (64 - off)) = hi * 2 ^ off % 18446744073709551616 + lo / 2 ^ (64 - off) := by
  have e : (18446744073709551616 : Nat) = 2 ^ off * 2 ^ (64 - off) := by rw [← Nat.pow_add, show off + (64 - off) = 64 by omega]
  have h1 : hi * 2 ^ off % 18446744073709551616 = 2 ^ off * (hi % 2 ^ (64 - off)) := by
    rw [e, Nat.mul_comm hi, Nat.mul_mod_mul_left]
  have h2 : lo / 2 ^ (64 - off) < 2 ^ off := by
    rw [Nat.div_lt_iff_lt_mul (Nat.two_pow_pos _), ← e]; exact hl
  rw [h1, ← Nat.two_pow_add_eq_or_of_lt h2]
theorem pieces_sum {hi lo off : Nat} (ho : off < 64) :
    lo * 2 ^ off % 18446744073709551616 + (hi * 2 ^ off % 18446744073709551616 + lo / 2 ^ (64 - off)) * 18446744073709551616 + hi / 2 ^ (64 - off) * (18446744073709551616 * 18446744073709551616) = (hi * 18446744073709551616 + lo) * 2 ^ off := by
  have e : (18446744073709551616 : Nat) = 2 ^ off * 2 ^ (64 - off) := by rw [← Nat.pow_add, show off + (64 - off) = 64 by omega]
  have hd : ∀ x : Nat, x / 2 ^ (64 - off) = x * 2 ^ off / 18446744073709551616 := fun x => by
    rw [e, Nat.mul_comm x, Nat.mul_div_mul_left _ _ (Nat.two_pow_pos _)]
  rw [hd lo, hd hi, Nat.add_mul (hi * 18446744073709551616)]
  have e1 := Nat.div_add_mod (lo * 2 ^ off) 18446744073709551616
  have e2 := Nat.div_add_mod (hi * 2 ^ off) 18446744073709551616
  have e3 : hi * 18446744073709551616 * 2 ^ off = hi * 2 ^ off * 18446744073709551616 := by rw [Nat.mul_right_comm]
  rw [e3]
  generalize lo * 2 ^ off = A at *
  generalize hi * 2 ^ off = B at *
  omega

/-- Bits behind those that are kept count but as one. -/
theorem rne_sticky {M t d : Nat} (hd : 2 ≤ d) : rne (if M % 2 ^ t = 0 then M / 2 ^ t else (if M / 2 ^ t % 2 = 1 then M / 2 ^ t else M / 2 ^ t + 1)) d = rne M (d + t) := by
  by_cases h0 : M % 2 ^ t = 0
  · rw [if_pos h0]
    have e : M = M / 2 ^ t * 2 ^ t := by have := Nat.div_add_mod M (2 ^ t); rw [h0, Nat.add_zero, Nat.mul_comm] at this; exact this.symm
    conv => rhs; rw [e]
    rw [rne_scale]
  · rw [if_neg h0]
    obtain ⟨a, ha⟩ : ∃ a, a = M / 2 ^ t := ⟨_, rfl⟩
    obtain ⟨r, hr⟩ : ∃ r, r = M % 2 ^ t := ⟨_, rfl⟩
    rw [← ha]
    have hM : M = a * 2 ^ t + r := by rw [ha, hr, Nat.mul_comm]; exact (Nat.div_add_mod M (2 ^ t)).symm
    have hrt : r < 2 ^ t := by rw [hr]; exact Nat.mod_lt _ (Nat.two_pow_pos _)
    have hr0 : r ≠ 0 := by rw [hr]; exact h0
    obtain ⟨D, hD⟩ : ∃ D, (2 : Nat) ^ d = 4 * D := ⟨2 ^ (d - 2), by rw [show (4 : Nat) = 2 ^ 2 from rfl, ← Nat.pow_add]; congr 1; omega⟩
    have hDp : 0 < D := by have := Nat.two_pow_pos d; omega
    obtain ⟨b, hb⟩ : ∃ b, b = if a % 2 = 1 then a else a + 1 := ⟨_, rfl⟩
    rw [← hb]
    have hbd : b / 2 ^ d = a / 2 ^ d ∧ b % 2 ^ d = a % 2 ^ d + (b - a) ∧ b % 2 = 1 := by
      by_cases ho : a % 2 = 1
      · rw [if_pos ho] at hb; subst hb; simp [ho]
      · rw [if_neg ho] at hb
        have h1 : a % 2 ^ d % 2 = 0 := by rw [hD, show 4 * D = 2 * (2 * D) by omega, Nat.mod_mul_right_mod]; omega
        have h2 := Nat.mod_lt a (Nat.two_pow_pos d)
        have h3 : a % 2 ^ d + 1 < 2 ^ d := by omega
        have h4 := Nat.div_add_mod a (2 ^ d)
        have e : b = a % 2 ^ d + 1 + 2 ^ d * (a / 2 ^ d) := by omega
        refine ⟨?_, ?_, by omega⟩
        · rw [e, Nat.add_mul_div_left _ _ (Nat.two_pow_pos _), Nat.div_eq_of_lt h3, Nat.zero_add]
        · rw [e, Nat.add_mul_mod_self_left, Nat.mod_eq_of_lt h3]; omega
    have hMd : M / 2 ^ (d + t) = a / 2 ^ d := by rw [Nat.add_comm, Nat.pow_add, ← Nat.div_div_eq_div_mul, ← ha]
    have hMm : M % 2 ^ (d + t) = a % 2 ^ d * 2 ^ t + r := by
      rw [Nat.add_comm, Nat.pow_add, Nat.mod_mul, ← ha, ← hr, Nat.mul_comm (2 ^ t)]; omega
    unfold rne
    rw [hbd.1, hMd, hbd.2.1, hMm, Nat.add_comm d t, Nat.pow_add 2 t d]
    have hcond : ∀ (x : Nat), x = a % 2 ^ d → b - a ≤ 1 → (b - a = 0 ↔ x % 2 = 1) → ((2 ^ d < 2 * (x + (b - a)) ∨ (2 ^ d = 2 * (x + (b - a)) ∧ a / 2 ^ d % 2 = 1)) ↔ (2 ^ t * 2 ^ d < 2 * (x * 2 ^ t + r) ∨ (2 ^ t * 2 ^ d = 2 * (x * 2 ^ t + r) ∧ a / 2 ^ d % 2 = 1))) := by
      intro x hx h1 h2
      have hT := Nat.two_pow_pos t
      generalize (2 : Nat) ^ t = T at *
      rw [hD]
      have key : 4 * D < 2 * (x + (b - a)) ↔ T * (4 * D) < 2 * (x * T + r) := by
        constructor
        · intro h
          have h5 : 2 * D ≤ x := by omega
          have h6 : 2 * D * T ≤ x * T := Nat.mul_le_mul_right _ h5
          have h7 : T * (4 * D) = 2 * (2 * D * T) := by rw [Nat.mul_comm T, show 4 * D = 2 * (2 * D) by omega, Nat.mul_assoc]
          omega
        · intro h
          have h7 : T * (4 * D) = 2 * (2 * D * T) := by rw [Nat.mul_comm T, show 4 * D = 2 * (2 * D) by omega, Nat.mul_assoc]
          rcases Nat.lt_or_ge x (2 * D) with h5 | h5
          · have h6 : (x + 1) * T ≤ 2 * D * T := Nat.mul_le_mul_right _ h5
            rw [Nat.add_mul, Nat.one_mul] at h6
            omega
          · omega
      have k2 : ¬ (4 * D = 2 * (x + (b - a))) := by omega
      have k3 : ¬ (T * (4 * D) = 2 * (x * T + r)) := by
        have h7 : T * (4 * D) = 2 * (2 * D * T) := by rw [Nat.mul_comm T, show 4 * D = 2 * (2 * D) by omega, Nat.mul_assoc]
        intro h
        have h8 : 2 * D * T = x * T + r := by omega
        rcases Nat.lt_or_ge x (2 * D) with h5 | h5
        · have h6 : (x + 1) * T ≤ 2 * D * T := Nat.mul_le_mul_right _ h5
          rw [Nat.add_mul, Nat.one_mul] at h6
          omega
        · have h6 : 2 * D * T ≤ x * T := Nat.mul_le_mul_right _ h5
          omega
      rw [key]
      constructor
      · rintro (h | h)
        · exact Or.inl h
        · exact absurd h.1 k2
      · rintro (h | h)
        · exact Or.inl h
        · exact absurd h.1 k3
    have h1 : a % 2 ^ d % 2 = a % 2 := by rw [hD, show 4 * D = 2 * (2 * D) by omega, Nat.mod_mul_right_mod]
    have := hcond (a % 2 ^ d) rfl (by by_cases ho : a % 2 = 1; rw [if_pos ho] at hb; omega; rw [if_neg ho] at hb; omega) (by rw [h1]; by_cases ho : a % 2 = 1; rw [if_pos ho] at hb; omega; rw [if_neg ho] at hb; omega)
    simp only [this]
end Go.Proofs.Ytcbbbkngjdlcjaa
namespace Go.Proofs.Ytcbbbkngjdlcjaa

/-- The bits from place s on, the last of them standing for all behind it. -/
def stick (M s : Nat) (more : Bool) : Nat := if M % 2 ^ s = 0 ∧ more = false then M / 2 ^ s else if M / 2 ^ s % 2 = 1 then M / 2 ^ s else M / 2 ^ s + 1
theorem log2_div {M s : Nat} (h : s ≤ M.log2) (h0 : M ≠ 0) : (M / 2 ^ s).log2 = M.log2 - s ∧ M / 2 ^ s ≠ 0 := by
  have a := Nat.log2_self_le h0
  have b : M < 2 ^ (M.log2 + 1) := Nat.lt_log2_self
  have hp := Nat.two_pow_pos s
  have e1 : 2 ^ (M.log2 - s) ≤ M / 2 ^ s := (Nat.le_div_iff_mul_le hp).2 (by rw [← Nat.pow_add]; rw [show M.log2 - s + s = M.log2 by omega]; exact a)
  have e2 : M / 2 ^ s < 2 ^ (M.log2 - s + 1) := (Nat.div_lt_iff_lt_mul hp).2 (by rw [← Nat.pow_add]; rw [show M.log2 - s + 1 + s = M.log2 + 1 by omega]; exact b)
  have h1 : M / 2 ^ s ≠ 0 := by have := Nat.two_pow_pos (M.log2 - s); omega
  exact ⟨(Nat.log2_eq_iff h1).2 ⟨e1, e2⟩, h1⟩
theorem log2_stick {M s : Nat} (more : Bool) (h : s ≤ M.log2) (h0 : M ≠ 0) : (stick M s more).log2 = M.log2 - s ∧ stick M s more ≠ 0 := by
  obtain ⟨h1, h2⟩ := log2_div h h0
  unfold stick
  split
  · exact ⟨h1, h2⟩
  · split
    · exact ⟨h1, h2⟩
    · rename_i ho
      have a := Nat.log2_self_le h2
      have b : M / 2 ^ s < 2 ^ ((M / 2 ^ s).log2 + 1) := Nat.lt_log2_self
      rw [h1] at a b
      refine ⟨(Nat.log2_eq_iff (by omega)).2 ⟨by omega, ?_⟩, by omega⟩
      have : (2 : Nat) ^ (M.log2 - s + 1) = 2 * 2 ^ (M.log2 - s) := by rw [Nat.pow_succ, Nat.mul_comm]
      omega
theorem nearR_stick {M s : Nat} {p : Int} (h0 : M ≠ 0) (h : s + 60 ≤ M.log2) : nearR (stick M s false) (s + p) = nearR M p := by
  obtain ⟨h1, _⟩ := log2_stick false (show s ≤ M.log2 by omega) h0
  have hL : lastP (stick M s false) (s + p) = lastP M p := by
    unfold lastP; rw [h1]; congr 1; omega
  have hL2 : (s : Int) + p + 8 ≤ lastP M p := by unfold lastP; omega
  unfold nearR
  rw [hL]
  obtain ⟨d, hd⟩ : ∃ d : Nat, lastP M p = s + p + d := ⟨(lastP M p - (s + p)).toNat, by omega⟩
  have e1 : ((s : Int) + p - lastP M p).toNat = 0 := by omega
  have e2 : (p - lastP M p).toNat = 0 := by omega
  have e3 : (lastP M p - (s + p)).toNat = d := by omega
  have e4 : (lastP M p - p).toNat = d + s := by omega
  rw [e1, e2, e3, e4, Nat.pow_zero, Nat.mul_one, Nat.mul_one]
  have hs : stick M s false = (if M % 2 ^ s = 0 then M / 2 ^ s else (if M / 2 ^ s % 2 = 1 then M / 2 ^ s else M / 2 ^ s + 1)) := by unfold stick; simp only [and_true]
  rw [hs, rne_sticky (by omega)]
theorem nearR_scale {M : Nat} (h0 : M ≠ 0) (k : Nat) (p : Int) : nearR (M * 2 ^ k) (p - k) = nearR M p := by
  have hlog : (M * 2 ^ k).log2 = M.log2 + k := by
    have a := Nat.log2_self_le h0
    have b : M < 2 ^ (M.log2 + 1) := Nat.lt_log2_self
    have hp := Nat.two_pow_pos k
    refine (Nat.log2_eq_iff (by have := Nat.mul_pos (show 0 < M by omega) hp; omega)).2 ⟨?_, ?_⟩
    · rw [Nat.pow_add]; exact Nat.mul_le_mul_right _ a
    · rw [show M.log2 + k + 1 = (M.log2 + 1) + k by omega, Nat.pow_add]; exact Nat.mul_lt_mul_of_pos_right b hp
  have hL : lastP (M * 2 ^ k) (p - k) = lastP M p := by unfold lastP; rw [hlog]; congr 1; omega
  unfold nearR
  rw [hL]
  generalize lastP M p = L
  congr 2
  by_cases hc : p ≤ L
  · have e1 : (p - (k : Int) - L).toNat = 0 := by omega
    have e2 : (p - L).toNat = 0 := by omega
    have e3 : (L - (p - (k : Int))).toNat = (L - p).toNat + k := by omega
    rw [e1, e2, e3, Nat.pow_zero, Nat.mul_one, Nat.mul_one, rne_scale]
  · obtain ⟨q, hq⟩ : ∃ q : Nat, p = L + q := ⟨(p - L).toNat, by omega⟩
    have e2 : (p - L).toNat = q := by omega
    have e4 : (L - p).toNat = 0 := by omega
    rw [e2, e4, rne_zero]
    by_cases hk : k ≤ q
    · have e1 : (p - (k : Int) - L).toNat = q - k := by omega
      have e3 : (L - (p - (k : Int))).toNat = 0 := by omega
      rw [e1, e3, rne_zero, Nat.mul_assoc, ← Nat.pow_add]; congr 2; omega
    · have e1 : (p - (k : Int) - L).toNat = 0 := by omega
      have e3 : (L - (p - (k : Int))).toNat = 0 + (k - q) := by omega
      rw [e1, e3, Nat.pow_zero, Nat.mul_one, show M * 2 ^ k = (M * 2 ^ q) * 2 ^ (k - q) by rw [Nat.mul_assoc, ← Nat.pow_add]; congr 2; omega, rne_scale, rne_zero]

/-- What is handed to Join: the leading 62 bits, and their place. -/
def mant (M : Nat) (more : Bool) : Nat := if M = 0 then (if more then 1 else 0) else stick (M * 2 ^ 64) (M.log2 + 3) more
def expo (M : Nat) : Int := if M = 0 then -2210 else (M.log2 : Int) - 2209
def sgM (neg : Bool) (m : Nat) : Int := if neg then -(m : Int) else (m : Int)
theorem log2_scaled {M : Nat} (h0 : M ≠ 0) (k : Nat) : (M * 2 ^ k).log2 = M.log2 + k := by
  have a := Nat.log2_self_le h0
  have b : M < 2 ^ (M.log2 + 1) := Nat.lt_log2_self
  have hp := Nat.two_pow_pos k
  refine (Nat.log2_eq_iff (by have := Nat.mul_pos (show 0 < M by omega) hp; omega)).2 ⟨?_, ?_⟩
  · rw [Nat.pow_add]; exact Nat.mul_le_mul_right _ a
  · rw [show M.log2 + k + 1 = (M.log2 + 1) + k by omega, Nat.pow_add]; exact Nat.mul_lt_mul_of_pos_right b hp
theorem nearR_mant {M : Nat} (h0 : M ≠ 0) : nearR (mant M false) (expo M) = nearR M (-2148) := by
  have hp := Nat.two_pow_pos 64
  have h1 : M * 2 ^ 64 ≠ 0 := by have := Nat.mul_pos (show 0 < M by omega) hp; omega
  unfold mant expo
  rw [if_neg h0, if_neg h0, show (M.log2 : Int) - 2209 = ((M.log2 + 3 : Nat) : Int) + (-2148 - (64 : Nat)) by omega, nearR_stick h1 (by rw [log2_scaled h0]; omega), nearR_scale h0]
theorem mant_lt (M : Nat) (more : Bool) : mant M more < 2 ^ 62 := by
  unfold mant
  split
  · split <;> decide
  · rename_i h0
    have hp := Nat.two_pow_pos 64
    have h1 : M * 2 ^ 64 ≠ 0 := by have := Nat.mul_pos (show 0 < M by omega) hp; omega
    obtain ⟨h2, h3⟩ := log2_stick more (show M.log2 + 3 ≤ (M * 2 ^ 64).log2 by rw [log2_scaled h0]; omega) h1
    have : stick (M * 2 ^ 64) (M.log2 + 3) more < 2 ^ ((stick (M * 2 ^ 64) (M.log2 + 3) more).log2 + 1) := Nat.lt_log2_self
    rw [h2, log2_scaled h0, show M.log2 + 64 - (M.log2 + 3) + 1 = 62 by omega] at this
    exact this
/-- The bits of near of N units. -/
def valF (N : Int) : Nat := joinN N (-2148)
theorem join_mant (N : Int) : joinN (sgM (decide (N < 0)) (mant N.natAbs false)) (expo N.natAbs) = valF N := by
  unfold valF
  by_cases h0 : N = 0
  · subst h0; decide
  · have h1 : N.natAbs ≠ 0 := by omega
    have hp := Nat.two_pow_pos 64
    have h2 : N.natAbs * 2 ^ 64 ≠ 0 := by have := Nat.mul_pos (show 0 < N.natAbs by omega) hp; omega
    have h3 : mant N.natAbs false ≠ 0 := by
      unfold mant; rw [if_neg h1]
      exact (log2_stick false (by rw [log2_scaled h1]; omega) h2).2
    have h4 := nearR_mant h1
    unfold joinN sgM
    by_cases hn : N < 0
    · simp only [hn, decide_true, if_true]
      rw [if_neg (by omega), if_pos (by omega), if_neg h0, show (-(mant N.natAbs false : Int)).natAbs = mant N.natAbs false by omega, h4]
    · simp only [hn, decide_false, Bool.false_eq_true, if_false]
      rw [if_neg (by omega), if_neg (by omega), if_neg h0, show ((mant N.natAbs false : Nat) : Int).natAbs = mant N.natAbs false by omega, h4]

/-- The two leading words, and what they tell. -/
theorem lead_parts {x y ld : Nat} (hx : x ≠ 0) (hxf : x < 18446744073709551616) (hy : y < 18446744073709551616) (hld : ld = 63 - x.log2) :
    x * 2 ^ ld < 18446744073709551616 ∧ (x * 2 ^ ld) ||| (y / 2 ^ (64 - ld)) = x * 2 ^ ld + y / 2 ^ (64 - ld) ∧ x * 2 ^ ld + y / 2 ^ (64 - ld) < 18446744073709551616 ∧ ld ≤ 63 := by
  have h1 : x * 2 ^ ld < 18446744073709551616 := by rw [hld]; exact top_lt hx hxf
  have h2 := piece1 (hi := x) (show ld < 64 by omega) hy
  rw [Nat.mod_eq_of_lt h1] at h2
  refine ⟨h1, h2, ?_, by omega⟩
  rw [← h2]
  exact Nat.or_lt_two_pow (n := 64) h1 (Nat.lt_of_le_of_lt (Nat.div_le_self _ _) hy)
theorem near_main {x y ld T R M : Nat} {more : Bool} (hx : x ≠ 0) (hxf : x < 18446744073709551616) (hld : ld = 63 - x.log2) (hM : M * 2 ^ 64 = (x * 18446744073709551616 + y) * 2 ^ (64 * T) + R * 2 ^ 64) (hR : R * 2 ^ 64 < 2 ^ (64 * T)) (hyf : y < 18446744073709551616) :
    mant M more = (if (more = true ∨ R ≠ 0) ∨ (x * 2 ^ ld + y / 2 ^ (64 - ld)) % 4 ≠ 0 ∨ y * 2 ^ ld % 18446744073709551616 ≠ 0 then (if (x * 2 ^ ld + y / 2 ^ (64 - ld)) / 4 % 2 = 1 then (x * 2 ^ ld + y / 2 ^ (64 - ld)) / 4 else (x * 2 ^ ld + y / 2 ^ (64 - ld)) / 4 + 1) else (x * 2 ^ ld + y / 2 ^ (64 - ld)) / 4) ∧ expo M = 64 * (T : Int) - ld + 2 + -2148 := by
  have e64 : (2 : Nat) ^ 64 = 18446744073709551616 := rfl
  rw [e64] at hM hR
  have hxl : x.log2 < 64 := (Nat.log2_lt hx).2 hxf
  have hl : ld ≤ 63 := by omega
  have eW : (18446744073709551616 : Nat) = 2 ^ ld * 2 ^ (64 - ld) := by rw [← Nat.pow_add, show ld + (64 - ld) = 64 by omega]
  obtain ⟨Z, hZ⟩ : ∃ Z, Z = x * 18446744073709551616 + y := ⟨_, rfl⟩
  rw [← hZ] at hM
  have hp := Nat.two_pow_pos (64 - ld)
  have hZd : Z / 2 ^ (64 - ld) = x * 2 ^ ld + y / 2 ^ (64 - ld) := by
    rw [hZ, eW, ← Nat.mul_assoc, Nat.add_comm, Nat.add_mul_div_right _ _ hp, Nat.add_comm]
  have hZm : Z % 2 ^ (64 - ld) = y % 2 ^ (64 - ld) := by
    rw [hZ, eW, ← Nat.mul_assoc, Nat.add_comm, Nat.add_mul_mod_self_right]
  have hM0 : M ≠ 0 := by
    intro e
    rw [e, Nat.zero_mul] at hM
    have h1 : 0 < Z * 2 ^ (64 * T) := Nat.mul_pos (by omega) (Nat.two_pow_pos _)
    omega
  have hlogM : M.log2 + 3 = 64 * T + (66 - ld) := by
    have h1 := log2_scaled hM0 64
    rw [e64] at h1
    have h2 : (M * 18446744073709551616).log2 = x.log2 + 64 + 64 * T := by
      have a := Nat.log2_self_le hx
      have b : x < 2 ^ (x.log2 + 1) := Nat.lt_log2_self
      have b2 : x + 1 ≤ 2 ^ (x.log2 + 1) := b
      have hz1 : 2 ^ (x.log2 + 64) ≤ Z := by
        rw [Nat.pow_add, hZ, e64]
        exact Nat.le_trans (Nat.mul_le_mul_right _ a) (Nat.le_add_right _ _)
      have hz2 : Z + 1 ≤ 2 ^ (x.log2 + 1 + 64) := by
        rw [Nat.pow_add, hZ, e64]
        refine Nat.le_trans ?_ (Nat.mul_le_mul_right 18446744073709551616 b2)
        rw [Nat.add_mul, Nat.one_mul, Nat.add_assoc]
        exact Nat.add_le_add_left (Nat.succ_le_of_lt hyf) _
      clear e64
      have hT := Nat.two_pow_pos (64 * T)
      refine (Nat.log2_eq_iff ?_).2 ⟨?_, ?_⟩
      · have := Nat.mul_pos (show 0 < M by omega) (show 0 < 18446744073709551616 by decide); omega
      · rw [hM, Nat.pow_add]; have := Nat.mul_le_mul_right (2 ^ (64 * T)) hz1; omega
      · rw [hM, show x.log2 + 64 + 64 * T + 1 = (x.log2 + 1 + 64) + 64 * T by omega, Nat.pow_add]
        have := Nat.mul_le_mul_right (2 ^ (64 * T)) hz2
        rw [Nat.add_mul, Nat.one_mul] at this
        omega
    omega
  have hs : M * 18446744073709551616 / 2 ^ (M.log2 + 3) = (x * 2 ^ ld + y / 2 ^ (64 - ld)) / 4 := by
    rw [hlogM, Nat.pow_add, ← Nat.div_div_eq_div_mul, hM, Nat.add_comm (Z * _), Nat.add_mul_div_right _ _ (Nat.two_pow_pos _), Nat.div_eq_of_lt hR, Nat.zero_add, show 66 - ld = (64 - ld) + 2 by omega, Nat.pow_add, ← Nat.div_div_eq_div_mul, hZd]
  have hm : M * 18446744073709551616 % 2 ^ (M.log2 + 3) = 0 ↔ (R = 0 ∧ (x * 2 ^ ld + y / 2 ^ (64 - ld)) % 4 = 0 ∧ y * 2 ^ ld % 18446744073709551616 = 0) := by
    rw [hlogM, Nat.pow_add, Nat.mod_mul]
    have e1 : M * 18446744073709551616 % 2 ^ (64 * T) = R * 18446744073709551616 := by rw [hM, Nat.add_comm (Z * _), Nat.add_mul_mod_self_right, Nat.mod_eq_of_lt hR]
    have e2 : M * 18446744073709551616 / 2 ^ (64 * T) = Z := by rw [hM, Nat.add_comm (Z * _), Nat.add_mul_div_right _ _ (Nat.two_pow_pos _), Nat.div_eq_of_lt hR, Nat.zero_add]
    rw [e1, e2, show 66 - ld = (64 - ld) + 2 by omega, Nat.pow_add, Nat.mod_mul, hZm, hZd]
    have e3 : y * 2 ^ ld % 18446744073709551616 = (y % 2 ^ (64 - ld)) * 2 ^ ld := by
      rw [eW, Nat.mul_comm y, Nat.mul_mod_mul_left, Nat.mul_comm]
    rw [e3]
    have hp1 := Nat.two_pow_pos ld
    have hp2 := Nat.two_pow_pos (64 * T)
    generalize y % 2 ^ (64 - ld) = r
    generalize (x * 2 ^ ld + y / 2 ^ (64 - ld)) = win
    rw [show (2 : Nat) ^ 2 = 4 from rfl]
    constructor
    · intro h
      obtain ⟨h1, h2⟩ := Nat.add_eq_zero_iff.1 h
      have h1' : R = 0 := by
        rcases Nat.mul_eq_zero.1 h1 with h3 | h3
        · exact h3
        · exact absurd h3 (by decide)
      rcases Nat.mul_eq_zero.1 h2 with h3 | h3
      · exact absurd h3 (Nat.ne_of_gt hp2)
      · obtain ⟨h4, h5⟩ := Nat.add_eq_zero_iff.1 h3
        rcases Nat.mul_eq_zero.1 h5 with h6 | h6
        · exact absurd h6 (Nat.ne_of_gt hp)
        · exact ⟨h1', h6, by rw [h4, Nat.zero_mul]⟩
    · rintro ⟨rfl, h2, h3⟩
      rcases Nat.mul_eq_zero.1 h3 with h4 | h4
      · rw [h4, h2]; simp
      · exact absurd h4 (Nat.ne_of_gt hp1)
  refine ⟨?_, ?_⟩
  · unfold mant stick
    rw [if_neg hM0, e64, hs]
    by_cases hc : M * 18446744073709551616 % 2 ^ (M.log2 + 3) = 0 ∧ more = false
    · rw [if_pos hc]
      obtain ⟨h1, h2, h3⟩ := hm.1 hc.1
      have h4 : ¬ ((more = true ∨ R ≠ 0) ∨ (x * 2 ^ ld + y / 2 ^ (64 - ld)) % 4 ≠ 0 ∨ y * 2 ^ ld % 18446744073709551616 ≠ 0) := by
        rw [hc.2]; simp [h1, h2, h3]
      rw [if_neg h4]
    · rw [if_neg hc]
      have h4 : (more = true ∨ R ≠ 0) ∨ (x * 2 ^ ld + y / 2 ^ (64 - ld)) % 4 ≠ 0 ∨ y * 2 ^ ld % 18446744073709551616 ≠ 0 := by
        by_cases h5 : more = true
        · exact Or.inl (Or.inl h5)
        · by_cases h6 : R = 0
          · by_cases h7 : (x * 2 ^ ld + y / 2 ^ (64 - ld)) % 4 = 0
            · refine Or.inr (Or.inr fun h8 => hc ⟨hm.2 ⟨h6, h7, h8⟩, by simpa using h5⟩)
            · exact Or.inr (Or.inl h7)
          · exact Or.inl (Or.inr h6)
      rw [if_pos h4]
  · unfold expo
    rw [if_neg hM0]; omega
end Go.Proofs.Ytcbbbkngjdlcjaa
