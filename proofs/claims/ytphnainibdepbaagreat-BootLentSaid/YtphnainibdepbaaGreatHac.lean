/- Rounding to nearest, ties to even, by whole numbers: the model's, and how the program's steps come to it. Sums, differences and turned numbers by their words; a number's leading bits, rounded once. Plain numbers by their digits to the base 2^32: no word of the program. What the document's 'rounded' reckons, by whole numbers; it is the nearest number. Plain numbers by their digits: sums and differences. No word of the program. -/
import Derived.Test.YtphnainibdepbaaGreatFlt
import Derived.Lib.BitFns
import Derived.Test.YtphnainibdepbaaGreatHaa
namespace Go.Proofs.YtphnainibdepbaaGreat

def rne (n d : Nat) : Nat := n / 2 ^ d + (if 2 ^ d < 2 * (n % 2 ^ d) ∨ (2 ^ d = 2 * (n % 2 ^ d) ∧ n / 2 ^ d % 2 = 1) then 1 else 0)

theorem rne_small {n d : Nat} (h : 2 * n < 2 ^ d) : rne n d = 0 := by
  have h1 : n < 2 ^ d := by omega
  unfold rne
  rw [Nat.div_eq_of_lt h1, Nat.mod_eq_of_lt h1, if_neg (by omega)]
theorem rne_zero (n : Nat) : rne n 0 = n := by unfold rne; simp [Nat.mod_one]
theorem rne_scale (n d k : Nat) : rne (n * 2 ^ k) (d + k) = rne n d := by
  have hp : 0 < 2 ^ k := Nat.two_pow_pos k
  unfold rne
  rw [Nat.pow_add, Nat.mul_div_mul_right _ _ hp, Nat.mul_mod_mul_right]
  congr 1
  have e : 2 * (n % 2 ^ d * 2 ^ k) = (2 * (n % 2 ^ d)) * 2 ^ k := by rw [Nat.mul_assoc]
  rw [e]
  have f1 : 2 ^ d * 2 ^ k < (2 * (n % 2 ^ d)) * 2 ^ k ↔ 2 ^ d < 2 * (n % 2 ^ d) := Nat.mul_lt_mul_right hp
  have f2 : 2 ^ d * 2 ^ k = (2 * (n % 2 ^ d)) * 2 ^ k ↔ 2 ^ d = 2 * (n % 2 ^ d) := ⟨fun h => Nat.eq_of_mul_eq_mul_right hp h, fun h => congrArg (· * 2 ^ k) h⟩
  simp only [f1, f2]

theorem cut_even (neg : Bool) (n drop : Nat) : Ieee.Toward.even.cut neg n drop = rne n drop := by
  show n / (1 <<< min drop (n.log2 + 2)) + (decide (1 <<< min drop (n.log2 + 2) < 2 * (n % (1 <<< min drop (n.log2 + 2)))) || ((1 <<< min drop (n.log2 + 2)) == 2 * (n % (1 <<< min drop (n.log2 + 2))) && n / (1 <<< min drop (n.log2 + 2)) % 2 == 1)).toNat = _
  rw [Nat.one_shiftLeft]
  by_cases h : drop ≤ n.log2 + 2
  · rw [Nat.min_eq_left h]
    unfold rne
    congr 1
    by_cases a : 2 ^ drop < 2 * (n % 2 ^ drop)
    · rw [if_pos (Or.inl a)]; simp [a]
    · by_cases b : 2 ^ drop = 2 * (n % 2 ^ drop) ∧ n / 2 ^ drop % 2 = 1
      · rw [if_pos (Or.inr b), ← b.1, b.2]; simp
      · rw [if_neg (by rintro (h | h); exact a h; exact b h)]
        have : ((2 ^ drop == 2 * (n % 2 ^ drop)) && (n / 2 ^ drop % 2 == 1)) = false := by
          rw [Bool.eq_false_iff]; intro h; simp only [Bool.and_eq_true, beq_iff_eq] at h; exact b h
        rw [this]; simp [a]
  · rw [Nat.min_eq_right (by omega)]
    have hl : n < 2 ^ (n.log2 + 1) := Nat.lt_log2_self
    have e : (2 : Nat) ^ (n.log2 + 2) = 2 ^ (n.log2 + 1) * 2 := Nat.pow_succ ..
    have hd : (2 : Nat) ^ (n.log2 + 2) ≤ 2 ^ drop := Nat.pow_le_pow_right (by decide) (by omega)
    rw [rne_small (by omega), Nat.div_eq_of_lt (by omega), Nat.mod_eq_of_lt (by omega)]
    have a : ¬ (2 ^ (n.log2 + 2) < 2 * n) := by omega
    have b : ((2 : Nat) ^ (n.log2 + 2) == 2 * n) = false := by simp; omega
    rw [b]; simp [a]

def lastP (mag : Nat) (place : Int) : Int := max (place + mag.log2 - 52) (-1074)
def nearR (mag : Nat) (place : Int) : Nat :=
  min ((lastP mag place + 1074).toNat * 4503599627370496 + rne (mag * 2 ^ (place - lastP mag place).toNat) (lastP mag place - place).toNat) 9218868437227405312

theorem nearest_eq (neg : Bool) {mag : Nat} (h : mag ≠ 0) (place : Int) : Ieee.double.nearest neg mag place = Ieee.double.word neg (nearR mag place) := by
  unfold Ieee.Format.nearest
  rw [if_neg h]
  dsimp only
  rw [cut_even, Nat.shiftLeft_eq]
  rfl
theorem nearest_zero (neg : Bool) (place : Int) : Ieee.double.nearest neg 0 place = Ieee.double.word neg 0 := by
  unfold Ieee.Format.nearest; rw [if_pos rfl]

theorem nearR_mg {r : Nat} (h0 : 0 < r) (h : r < 9218868437227405312) : nearR (mg r) (-1074 + (pl r : Int)) = r := by
  by_cases h1 : r < 4503599627370496
  · have e1 : mg r = r := by unfold mg; rw [if_pos h1]
    have e2 : pl r = 0 := by unfold pl; omega
    have hl : r.log2 < 52 := (Nat.log2_lt (by omega)).2 (by omega)
    have e3 : lastP r (-1074 + ((0 : Nat) : Int)) = -1074 := by unfold lastP; omega
    rw [e1, e2]
    unfold nearR
    rw [e3]
    simp only [Int.natCast_zero, Int.add_zero, Int.sub_self, Int.toNat_zero, Nat.pow_zero, Nat.mul_one, rne_zero]
    omega
  · have hlo := mg_ge (r := r) (by omega)
    have hhi := mg_lt r
    have hl : (mg r).log2 = 52 := by
      rw [Nat.log2_eq_iff (by omega)]; exact ⟨hlo, hhi⟩
    have e3 : lastP (mg r) (-1074 + (pl r : Int)) = -1074 + (pl r : Int) := by unfold lastP; rw [hl]; omega
    unfold nearR
    rw [e3]
    simp only [Int.sub_self, Int.toNat_zero, Nat.pow_zero, Nat.mul_one, rne_zero]
    unfold mg pl at *
    rw [if_neg h1] at *
    omega

theorem nearR_big {mag : Nat} {place : Int} (h : mag ≠ 0) (ht : 1023 < place + mag.log2) : nearR mag place = 9218868437227405312 := by
  have hl : lastP mag place = place + mag.log2 - 52 := by unfold lastP; omega
  unfold nearR
  rw [hl]
  refine Nat.min_eq_right ?_
  have hk : 4503599627370496 ≤ rne (mag * 2 ^ (place - (place + mag.log2 - 52)).toNat) (place + mag.log2 - 52 - place).toNat := by
    have h1 := Nat.log2_self_le h
    rw [show (place - (place + mag.log2 - 52)).toNat = 52 - mag.log2 by omega, show (place + mag.log2 - 52 - place).toNat = mag.log2 - 52 by omega]
    refine Nat.le_trans ?_ (Nat.le_add_right _ _)
    rw [Nat.le_div_iff_mul_le (Nat.two_pow_pos _), show (4503599627370496 : Nat) = 2 ^ 52 from rfl, ← Nat.pow_add]
    calc 2 ^ (52 + (mag.log2 - 52)) = 2 ^ mag.log2 * 2 ^ (52 - mag.log2) := by rw [← Nat.pow_add]; congr 1; omega
      _ ≤ mag * 2 ^ (52 - mag.log2) := Nat.mul_le_mul_right _ h1
  omega

theorem bitLenAux_eq : ∀ (f x : Nat), x < 2 ^ f → Lib.bitLenAux f x = if x = 0 then 0 else x.log2 + 1
  | 0, x, h => by
    have : x = 0 := by simpa using h
    subst this; rfl
  | f + 1, x, h => by
    unfold Lib.bitLenAux
    by_cases h0 : x = 0
    · rw [if_pos h0, if_pos h0]
    · rw [if_neg h0, if_neg h0, bitLenAux_eq f (x / 2) (by rw [Nat.pow_succ] at h; omega)]
      by_cases h1 : x / 2 = 0
      · have : x = 1 := by omega
        subst this; decide
      · rw [if_neg h1, Nat.log2_def x, if_pos (by omega)]
        omega
theorem bitLen_log2 {x : Nat} (h0 : x ≠ 0) (h : x < 18446744073709551616) : Lib.bitLen x = x.log2 + 1 := by
  unfold Lib.bitLen
  rw [bitLenAux_eq 64 x h, if_neg h0]

theorem rne_le (n d : Nat) : rne n d ≤ n / 2 ^ d + 1 := by unfold rne; split <;> omega

theorem top_lt {u : Nat} (h0 : u ≠ 0) (h : u < 18446744073709551616) : u * 2 ^ (63 - u.log2) < 18446744073709551616 := by
  have hl : u.log2 < 64 := (Nat.log2_lt h0).2 h
  have h1 : u < 2 ^ (u.log2 + 1) := Nat.lt_log2_self
  have h2 : u * 2 ^ (63 - u.log2) < 2 ^ (u.log2 + 1) * 2 ^ (63 - u.log2) := Nat.mul_lt_mul_of_pos_right h1 (Nat.two_pow_pos _)
  rw [← Nat.pow_add, show u.log2 + 1 + (63 - u.log2) = 64 by omega] at h2
  exact h2
theorem rne_bd {n d c : Nat} (h : n < c * 2 ^ d) : rne n d ≤ c := by
  have := rne_le n d
  have h2 : n / 2 ^ d < c := (Nat.div_lt_iff_lt_mul (Nat.two_pow_pos _)).2 h
  omega
theorem min_top {t k : Nat} (ht : t ≤ 2045) (hk : k ≤ 9007199254740992) : min (t * 4503599627370496 + k) 9218868437227405312 = t * 4503599627370496 + k := by omega
theorem nearR_small {u : Nat} {e : Int} (h : u < 18446744073709551616) (he : e < -1139) : nearR u e = 0 := by
  have hl : u.log2 < 64 := by
    by_cases h0 : u = 0
    · subst h0; decide
    · exact (Nat.log2_lt h0).2 h
  have e3 : lastP u e = -1074 := by unfold lastP; omega
  unfold nearR
  rw [e3, show (e - -1074).toNat = 0 by omega, Nat.pow_zero, Nat.mul_one, rne_small]
  · rfl
  · have : (2 : Nat) ^ 65 ≤ 2 ^ (-1074 - e).toNat := Nat.pow_le_pow_right (by decide) (by omega)
    omega

theorem nearR_normal {u : Nat} {e : Int} (h0 : u ≠ 0) (h : u < 18446744073709551616) (h1 : -1022 ≤ e + u.log2) (h2 : e + u.log2 ≤ 1023) :
    nearR u e = (e + u.log2 + 1022).toNat * 4503599627370496 + rne (u * 2 ^ (63 - u.log2)) 11 := by
  have hl : u.log2 < 64 := (Nat.log2_lt h0).2 h
  have e3 : lastP u e = e + u.log2 - 52 := by unfold lastP; omega
  have hk : rne (u * 2 ^ (e - (e + u.log2 - 52)).toNat) (e + u.log2 - 52 - e).toNat = rne (u * 2 ^ (63 - u.log2)) 11 := by
    rw [show (e - (e + u.log2 - 52)).toNat = 52 - u.log2 by omega, show (e + u.log2 - 52 - e).toNat = u.log2 - 52 by omega]
    by_cases hc : u.log2 ≤ 52
    · have := rne_scale (u * 2 ^ (52 - u.log2)) 0 11
      rw [Nat.mul_assoc, ← Nat.pow_add, show 52 - u.log2 + 11 = 63 - u.log2 by omega, show 0 + 11 = 11 from rfl] at this
      rw [this, show u.log2 - 52 = 0 by omega]
    · have := rne_scale u (u.log2 - 52) (63 - u.log2)
      rw [show u.log2 - 52 + (63 - u.log2) = 11 by omega] at this
      rw [this, show 52 - u.log2 = 0 by omega, Nat.pow_zero, Nat.mul_one]
  unfold nearR
  rw [e3, hk, show (e + u.log2 - 52 + 1074).toNat = (e + u.log2 + 1022).toNat by omega]
  exact min_top (by omega) (rne_bd (top_lt h0 h))

theorem nearR_sub {u : Nat} {e : Int} (h0 : u ≠ 0) (h : u < 18446744073709551616) (h2 : e + u.log2 < -1022) :
    nearR u e = rne (u * 2 ^ (63 - u.log2)) (-1011 - e - u.log2).toNat := by
  have hl : u.log2 < 64 := (Nat.log2_lt h0).2 h
  have e3 : lastP u e = -1074 := by unfold lastP; omega
  have hk : rne (u * 2 ^ (e - -1074).toNat) (-1074 - e).toNat = rne (u * 2 ^ (63 - u.log2)) (-1011 - e - u.log2).toNat := by
    by_cases hc : e ≤ -1074
    · have := rne_scale u (-1074 - e).toNat (63 - u.log2)
      rw [show (-1074 - e).toNat + (63 - u.log2) = (-1011 - e - u.log2).toNat by omega] at this
      rw [this, show (e - -1074).toNat = 0 by omega, Nat.pow_zero, Nat.mul_one]
    · have := rne_scale (u * 2 ^ (e - -1074).toNat) 0 (-1011 - e - u.log2).toNat
      rw [Nat.mul_assoc, ← Nat.pow_add, show (e - -1074).toNat + (-1011 - e - u.log2).toNat = 63 - u.log2 by omega, Nat.zero_add] at this
      rw [this, show (-1074 - e).toNat = 0 by omega]
  unfold nearR
  rw [e3, hk, show (-1074 + 1074 : Int).toNat = 0 from rfl]
  have hb : rne (u * 2 ^ (63 - u.log2)) (-1011 - e - u.log2).toNat ≤ 9007199254740992 := by
    refine rne_bd (Nat.lt_of_lt_of_le (top_lt h0 h) ?_)
    have : (2 : Nat) ^ 11 ≤ 2 ^ (-1011 - e - u.log2).toNat := Nat.pow_le_pow_right (by decide) (by omega)
    omega
  rw [min_top (by omega) hb]; omega

end Go.Proofs.YtphnainibdepbaaGreat
namespace Go.Proofs.YtphnainibdepbaaGreat

theorem sg_with {xs ys : List Nat} {N s : Int} {f : Nat → Nat} {c n : Nat} {F : Nat} (h : Sg xs N) (hx : xs.length = n + 1) (hy : ys.length = n + 1) (hf : FitW ys) (hs : s = 1 ∨ s = -1) (hF : ps f (n + 1) = F) (hb : 4 * (F : Int) ≤ 2 ^ (64 * (n + 1))) (hr : Rel s (fun i => ys.getD i 0) (fun i => xs.getD i 0) f c (n + 1)) : Sg (settle ys) (N + s * F) := by
  have e1 := h.ext (n := n + 1) (by omega)
  rw [wd_in (by omega)] at e1
  have r1 := h.range (n := n) (by omega)
  have b1 : -(2 ^ (64 * n)) ≤ N ∧ N < 2 ^ (64 * n) := by
    have := pow64_pos n; have := natpow n
    by_cases e : endW xs = 0
    · have := r1.1 e; omega
    · have := r1.2 e; omega
  have hp : (0 : Int) < 2 ^ (64 * n) := by have := pow64_pos n; have := natpow n; omega
  obtain ⟨a, ha⟩ : ∃ a : Int, N = (ps (fun i => xs.getD i 0) (n + 1) : Int) - a * 2 ^ (64 * (n + 1)) := by
    by_cases e : endW xs = 0
    · exact ⟨0, by rw [if_pos e] at e1; rw [Int.zero_mul]; exact e1⟩
    · exact ⟨1, by rw [if_neg e] at e1; rw [Int.one_mul]; exact e1⟩
  unfold Rel at hr
  rw [hF] at hr
  rw [pow64i] at hb
  have hsF : -(4 * F : Int) ≤ 4 * (s * F) ∧ 4 * (s * F) ≤ 4 * (F : Int) := by
    rcases hs with rfl | rfl <;> constructor <;> omega
  refine sg_settle (q := a - s * c) hf (by omega) ?_ ?_ ?_
  · rw [hy, Int.sub_mul, Int.mul_assoc s]; omega
  · rw [hy, pow64i]; omega
  · rw [hy, pow64i]; omega

theorem inv_val {xs ys : List Nat} {N : Int} {c : Nat} (h : Sg xs N) (hy : ys.length = xs.length) (hr : Rel (-1) (fun i => ys.getD i 0) (fun _ => 0) (fun i => xs.getD i 0) c xs.length) : ∃ q : Int, (ps (fun i => ys.getD i 0) ys.length : Int) = -N + q * 2 ^ (64 * ys.length) := by
  have e1 := h.eq
  rw [wd_in (Nat.le_refl _)] at e1
  unfold Rel at hr
  rw [ps_zero] at hr
  by_cases e : endW xs = 0
  · refine ⟨c, ?_⟩
    rw [if_pos e] at e1
    rw [hy]; omega
  · refine ⟨(c : Int) - 1, ?_⟩
    rw [if_neg e] at e1
    rw [hy, Int.sub_mul]; omega
theorem inv_size {xs ys : List Nat} {N : Int} {c : Nat} (h : Sg xs N) (he : endW xs ≠ 0) (hy : ys.length = xs.length) (hf : FitW ys) (hr : Rel (-1) (fun i => ys.getD i 0) (fun _ => 0) (fun i => xs.getD i 0) c xs.length) : N < 0 ∧ (ps (fun i => ys.getD i 0) ys.length : Int) = -N := by
  have h0 : xs.length ≠ 0 := by
    intro e
    apply he
    have : xs = [] := List.length_eq_zero_iff.1 e
    subst this; rfl
  obtain ⟨n, hn⟩ : ∃ n, xs.length = n + 1 := ⟨xs.length - 1, by omega⟩
  have r1 := (h.range (n := n) (by omega)).2 he
  refine ⟨r1.2, ?_⟩
  have hp : (0 : Int) < 2 ^ (64 * n) := by have := pow64_pos n; have := natpow n; omega
  obtain ⟨q, hq⟩ := inv_val h hy hr
  have b := ps_lt hf ys.length
  have b2 : (ps (fun i => ys.getD i 0) ys.length : Int) < 2 ^ (64 * ys.length) := by have := natpow ys.length; omega
  rw [hy, hn] at hq b2 ⊢
  have hR := pow64i n
  generalize (2 : Int) ^ (64 * (n + 1)) = R at *
  have a : q * R < 1 * R := by omega
  have b3 : (-1) * R < q * R := by omega
  have a2 := Int.lt_of_mul_lt_mul_right a (by omega)
  have b4 := Int.lt_of_mul_lt_mul_right b3 (by omega)
  have : q = 0 := by omega
  subst this; omega

theorem piece1 {hi lo off : Nat} (ho : off < 64) (hl : lo < 18446744073709551616) : (hi * 2 ^ off % 18446744073709551616) ||| (lo / 2 ^ (64 - off)) = hi * 2 ^ off % 18446744073709551616 + lo / 2 ^ (64 - off) := by
  have e : (18446744073709551616 : Nat) = 2 ^ off * 2 ^ (64 - off) := by rw [← Nat.pow_add, show off + (64 - off) = 64 by omega]
  have h1 : hi * 2 ^ off % 18446744073709551616 = 2 ^ off * (hi % 2 ^ (64 - off)) := by
    rw [e, Nat.mul_comm hi, Nat.mul_mod_mul_left]
  have h2 : lo / 2 ^ (64 - off) < 2 ^ off := by
    rw [Nat.div_lt_iff_lt_mul (Nat.two_pow_pos _), ← e]; exact hl
  rw [h1, ← Nat.two_pow_add_eq_or_of_lt h2]
theorem pieces_sum {hi lo off : Nat} (ho : off < 64) :
    lo * 2 ^ off % 18446744073709551616 + (hi * 2 ^ off % 18446744073709551616 + lo / 2 ^ (64 - off)) * 18446744073709551616 + hi / 2 ^ (64 - off) * (18446744073709551616 * 18446744073709551616) = (hi * 18446744073709551616 + lo) * 2 ^ off := by
  have e : (18446744073709551616 : Nat) = 2 ^ off * 2 ^ (64 - off) := by rw [← Nat.pow_add, show off + (64 - off) = 64 by omega]
  have hd : ∀ x : Nat, x / 2 ^ (64 - off) = x * 2 ^ off / 18446744073709551616 := fun x => by
    rw [e, Nat.mul_comm x, Nat.mul_div_mul_left _ _ (Nat.two_pow_pos _)]
  rw [hd lo, hd hi, Nat.add_mul (hi * 18446744073709551616)]
  have e1 := Nat.div_add_mod (lo * 2 ^ off) 18446744073709551616
  have e2 := Nat.div_add_mod (hi * 2 ^ off) 18446744073709551616
  have e3 : hi * 18446744073709551616 * 2 ^ off = hi * 2 ^ off * 18446744073709551616 := by rw [Nat.mul_right_comm]
  rw [e3]
  generalize lo * 2 ^ off = A at *
  generalize hi * 2 ^ off = B at *
  omega

theorem rne_sticky {M t d : Nat} (hd : 2 ≤ d) : rne (if M % 2 ^ t = 0 then M / 2 ^ t else (if M / 2 ^ t % 2 = 1 then M / 2 ^ t else M / 2 ^ t + 1)) d = rne M (d + t) := by
  by_cases h0 : M % 2 ^ t = 0
  · rw [if_pos h0]
    have e : M = M / 2 ^ t * 2 ^ t := by have := Nat.div_add_mod M (2 ^ t); rw [h0, Nat.add_zero, Nat.mul_comm] at this; exact this.symm
    conv => rhs; rw [e]
    rw [rne_scale]
  · rw [if_neg h0]
    obtain ⟨a, ha⟩ : ∃ a, a = M / 2 ^ t := ⟨_, rfl⟩
    obtain ⟨r, hr⟩ : ∃ r, r = M % 2 ^ t := ⟨_, rfl⟩
    rw [← ha]
    have hM : M = a * 2 ^ t + r := by rw [ha, hr, Nat.mul_comm]; exact (Nat.div_add_mod M (2 ^ t)).symm
    have hrt : r < 2 ^ t := by rw [hr]; exact Nat.mod_lt _ (Nat.two_pow_pos _)
    have hr0 : r ≠ 0 := by rw [hr]; exact h0
    obtain ⟨D, hD⟩ : ∃ D, (2 : Nat) ^ d = 4 * D := ⟨2 ^ (d - 2), by rw [show (4 : Nat) = 2 ^ 2 from rfl, ← Nat.pow_add]; congr 1; omega⟩
    have hDp : 0 < D := by have := Nat.two_pow_pos d; omega
    obtain ⟨b, hb⟩ : ∃ b, b = if a % 2 = 1 then a else a + 1 := ⟨_, rfl⟩
    rw [← hb]
    have hbd : b / 2 ^ d = a / 2 ^ d ∧ b % 2 ^ d = a % 2 ^ d + (b - a) ∧ b % 2 = 1 := by
      by_cases ho : a % 2 = 1
      · rw [if_pos ho] at hb; subst hb; simp [ho]
      · rw [if_neg ho] at hb
        have h1 : a % 2 ^ d % 2 = 0 := by rw [hD, show 4 * D = 2 * (2 * D) by omega, Nat.mod_mul_right_mod]; omega
        have h2 := Nat.mod_lt a (Nat.two_pow_pos d)
        have h3 : a % 2 ^ d + 1 < 2 ^ d := by omega
        have h4 := Nat.div_add_mod a (2 ^ d)
        have e : b = a % 2 ^ d + 1 + 2 ^ d * (a / 2 ^ d) := by omega
        refine ⟨?_, ?_, by omega⟩
        · rw [e, Nat.add_mul_div_left _ _ (Nat.two_pow_pos _), Nat.div_eq_of_lt h3, Nat.zero_add]
        · rw [e, Nat.add_mul_mod_self_left, Nat.mod_eq_of_lt h3]; omega
    have hMd : M / 2 ^ (d + t) = a / 2 ^ d := by rw [Nat.add_comm, Nat.pow_add, ← Nat.div_div_eq_div_mul, ← ha]
    have hMm : M % 2 ^ (d + t) = a % 2 ^ d * 2 ^ t + r := by
      rw [Nat.add_comm, Nat.pow_add, Nat.mod_mul, ← ha, ← hr, Nat.mul_comm (2 ^ t)]; omega
    unfold rne
    rw [hbd.1, hMd, hbd.2.1, hMm, Nat.add_comm d t, Nat.pow_add 2 t d]
    have hcond : ∀ (x : Nat), x = a % 2 ^ d → b - a ≤ 1 → (b - a = 0 ↔ x % 2 = 1) → ((2 ^ d < 2 * (x + (b - a)) ∨ (2 ^ d = 2 * (x + (b - a)) ∧ a / 2 ^ d % 2 = 1)) ↔ (2 ^ t * 2 ^ d < 2 * (x * 2 ^ t + r) ∨ (2 ^ t * 2 ^ d = 2 * (x * 2 ^ t + r) ∧ a / 2 ^ d % 2 = 1))) := by
      intro x hx h1 h2
      have hT := Nat.two_pow_pos t
      generalize (2 : Nat) ^ t = T at *
      rw [hD]
      have key : 4 * D < 2 * (x + (b - a)) ↔ T * (4 * D) < 2 * (x * T + r) := by
        constructor
        · intro h
          have h5 : 2 * D ≤ x := by omega
          have h6 : 2 * D * T ≤ x * T := Nat.mul_le_mul_right _ h5
          have h7 : T * (4 * D) = 2 * (2 * D * T) := by rw [Nat.mul_comm T, show 4 * D = 2 * (2 * D) by omega, Nat.mul_assoc]
          omega
        · intro h
          have h7 : T * (4 * D) = 2 * (2 * D * T) := by rw [Nat.mul_comm T, show 4 * D = 2 * (2 * D) by omega, Nat.mul_assoc]
          rcases Nat.lt_or_ge x (2 * D) with h5 | h5
          · have h6 : (x + 1) * T ≤ 2 * D * T := Nat.mul_le_mul_right _ h5
            rw [Nat.add_mul, Nat.one_mul] at h6
            omega
          · omega
      have k2 : ¬ (4 * D = 2 * (x + (b - a))) := by omega
      have k3 : ¬ (T * (4 * D) = 2 * (x * T + r)) := by
        have h7 : T * (4 * D) = 2 * (2 * D * T) := by rw [Nat.mul_comm T, show 4 * D = 2 * (2 * D) by omega, Nat.mul_assoc]
        intro h
        have h8 : 2 * D * T = x * T + r := by omega
        rcases Nat.lt_or_ge x (2 * D) with h5 | h5
        · have h6 : (x + 1) * T ≤ 2 * D * T := Nat.mul_le_mul_right _ h5
          rw [Nat.add_mul, Nat.one_mul] at h6
          omega
        · have h6 : 2 * D * T ≤ x * T := Nat.mul_le_mul_right _ h5
          omega
      rw [key]
      constructor
      · rintro (h | h)
        · exact Or.inl h
        · exact absurd h.1 k2
      · rintro (h | h)
        · exact Or.inl h
        · exact absurd h.1 k3
    have h1 : a % 2 ^ d % 2 = a % 2 := by rw [hD, show 4 * D = 2 * (2 * D) by omega, Nat.mod_mul_right_mod]
    have := hcond (a % 2 ^ d) rfl (by by_cases ho : a % 2 = 1; rw [if_pos ho] at hb; omega; rw [if_neg ho] at hb; omega) (by rw [h1]; by_cases ho : a % 2 = 1; rw [if_pos ho] at hb; omega; rw [if_neg ho] at hb; omega)
    simp only [this]
end Go.Proofs.YtphnainibdepbaaGreat
namespace Go.Proofs.YtphnainibdepbaaGreat

def dgt (N i : Nat) : Nat := N / 2 ^ (32 * i) % 4294967296
def nd (N : Nat) : Nat := if N = 0 then 0 else N.log2 / 32 + 1
def bl (N : Nat) : Nat := if N = 0 then 0 else N.log2 + 1

theorem pow32 (k : Nat) : (2 : Nat) ^ (32 * (k + 1)) = 2 ^ (32 * k) * 4294967296 := by
  rw [show 32 * (k + 1) = 32 * k + 32 by omega, Nat.pow_add]
theorem nd_mono {N k : Nat} (h : N < 2 ^ (32 * k)) : nd N ≤ k := by
  by_cases h0 : N = 0
  · subst h0; exact Nat.zero_le _
  · unfold nd; rw [if_neg h0]
    have b : N.log2 < 32 * k := (Nat.log2_lt h0).2 h
    omega

end Go.Proofs.YtphnainibdepbaaGreat
namespace Go.Proofs.YtphnainibdepbaaGreat

theorem bl_pos {N : Nat} (h : N ≠ 0) : bl N = N.log2 + 1 := by unfold bl; rw [if_neg h]
end Go.Proofs.YtphnainibdepbaaGreat
namespace Go.Proofs.YtphnainibdepbaaGreat

theorem div_step (A k : Nat) : A / 2 ^ (32 * k) = A / 2 ^ (32 * (k + 1)) * 4294967296 + dgt A k := by
  unfold dgt
  rw [pow32, ← Nat.div_div_eq_div_mul]
  omega
end Go.Proofs.YtphnainibdepbaaGreat
