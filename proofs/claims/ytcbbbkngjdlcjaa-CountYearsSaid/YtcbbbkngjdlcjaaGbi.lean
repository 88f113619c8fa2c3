/- Quotients rounded once: how many bits are reckoned beyond those that count makes nothing. The year of a fraction: one rounding of a quotient; it rises. No word of the program. -/
import Derived.Test.YtcbbbkngjdlcjaaGbh
import Derived.Test.YtcbbbkngjdlcjaaGbf
namespace Go.Proofs.Ytcbbbkngjdlcjaa

theorem nearR_stick2 {M s : Nat} {p : Int} (h0 : M ≠ 0) (h : s + 54 ≤ M.log2) : nearR (stick M s false) (s + p) = nearR M p := by
  obtain ⟨h1, _⟩ := log2_stick false (show s ≤ M.log2 by omega) h0
  have hL : lastP (stick M s false) (s + p) = lastP M p := by
    unfold lastP; rw [h1]; congr 1; omega
  have hL2 : (s : Int) + p + 2 ≤ lastP M p := by unfold lastP; omega
  unfold nearR
  rw [hL]
  obtain ⟨d, hd⟩ : ∃ d : Nat, lastP M p = s + p + d := ⟨(lastP M p - (s + p)).toNat, by omega⟩
  have e1 : ((s : Int) + p - lastP M p).toNat = 0 := by omega
  have e2 : (p - lastP M p).toNat = 0 := by omega
  have e3 : (lastP M p - (s + p)).toNat = d := by omega
  have e4 : (lastP M p - p).toNat = d + s := by omega
  rw [e1, e2, e3, e4, Nat.pow_zero, Nat.mul_one, Nat.mul_one]
  have hs : stick M s false = (if M % 2 ^ s = 0 then M / 2 ^ s else (if M / 2 ^ s % 2 = 1 then M / 2 ^ s else M / 2 ^ s + 1)) := by unfold stick; simp only [and_true]
  rw [hs, rne_sticky (by omega)]
/-- A quotient's bits, the last one standing for all behind it. -/
def quoS (X Y k : Nat) : Nat := 2 * (X * 2 ^ k / Y) + (if X * 2 ^ k % Y = 0 then 0 else 1)
theorem stick_of {q e T : Nat} {t : Nat} (hT : T = 2 ^ t) (he : e < 2 * T) : stick (2 * q * T + e) t false = 2 * q + (if e = 0 then 0 else 1) := by
  have hp : 0 < T := by rw [hT]; exact Nat.two_pow_pos t
  unfold stick
  rw [← hT]
  have hd : (2 * q * T + e) / T = 2 * q + e / T := by rw [Nat.add_comm, Nat.add_mul_div_right _ _ hp, Nat.add_comm]
  have hm : (2 * q * T + e) % T = e % T := by rw [Nat.add_comm, Nat.add_mul_mod_self_right]
  rw [hd, hm]
  by_cases h0 : e = 0
  · rw [h0, Nat.zero_mod, Nat.zero_div, if_pos ⟨rfl, rfl⟩, if_pos rfl]
  · rw [if_neg h0]
    by_cases h1 : e < T
    · rw [Nat.mod_eq_of_lt h1, Nat.div_eq_of_lt h1, if_neg (fun h => h0 h.1), if_neg (by omega)]
    · have h2 : e / T = 1 := by
        have := Nat.div_lt_iff_lt_mul hp (x := e) (y := 2)
        have h3 : e / T < 2 := this.2 he
        have h4 : 1 ≤ e / T := (Nat.one_le_div_iff hp).2 (by omega)
        omega
      rw [h2]
      by_cases h3 : e % T = 0 ∧ (false : Bool) = false
      · rw [if_pos h3]
      · rw [if_neg h3, if_pos (by omega)]
theorem quo_stick {X Y : Nat} (k t : Nat) (hY : 0 < Y) : stick (quoS X Y (k + t)) t false = quoS X Y k := by
  obtain ⟨T, hT⟩ : ∃ T, T = 2 ^ t := ⟨_, rfl⟩
  have hp : 0 < T := by rw [hT]; exact Nat.two_pow_pos t
  unfold quoS
  rw [Nat.pow_add, ← Nat.mul_assoc, ← hT]
  generalize X * 2 ^ k = A
  have hA := Nat.div_add_mod A Y
  have hr : A % Y < Y := Nat.mod_lt _ hY
  generalize A / Y = q at *
  generalize A % Y = r at *
  have hAT : A * T = r * T + Y * (q * T) := by rw [← hA, Nat.add_mul, Nat.mul_assoc, Nat.add_comm]
  have hd : A * T / Y = q * T + r * T / Y := by rw [hAT, Nat.add_mul_div_left _ _ hY, Nat.add_comm]
  have hm : A * T % Y = r * T % Y := by rw [hAT, Nat.add_mul_mod_self_left]
  rw [hd, hm]
  have hc : r * T / Y < T := by rw [Nat.div_lt_iff_lt_mul hY, Nat.mul_comm T]; exact Nat.mul_lt_mul_of_pos_right hr hp
  have e1 := Nat.div_add_mod (r * T) Y
  have h5 : r = 0 ↔ r * T = 0 := by
    constructor
    · intro h; rw [h, Nat.zero_mul]
    · intro h; rcases Nat.mul_eq_zero.1 h with h | h <;> omega
  have e2 : 2 * (q * T + r * T / Y) + (if r * T % Y = 0 then 0 else 1) = 2 * q * T + (2 * (r * T / Y) + (if r * T % Y = 0 then 0 else 1)) := by rw [Nat.mul_add, ← Nat.mul_assoc, Nat.add_assoc]
  rw [e2]
  generalize r * T / Y = c at *
  generalize r * T % Y = s at *
  generalize r * T = rt at *
  rw [stick_of hT (by split <;> omega)]
  congr 1
  by_cases h0 : r = 0
  · have h6 : rt = 0 := h5.1 h0
    have h7 : s = 0 := by omega
    have h8 : c = 0 := by
      by_cases hcc : c = 0
      · exact hcc
      · have := Nat.mul_pos hY (show 0 < c by omega); omega
    rw [if_pos h0, if_pos (by rw [h7, h8]; rfl)]
  · have h6 : rt ≠ 0 := fun h => h0 (h5.2 h)
    rw [if_neg h0, if_neg]
    intro h
    by_cases hs : s = 0
    · rw [if_pos hs] at h
      have hc0 : c = 0 := by omega
      rw [hc0, Nat.mul_zero] at e1; omega
    · rw [if_neg hs] at h; omega
theorem near_quo {X Y k1 k2 : Nat} {p : Int} (hY : 0 < Y) (hk : k1 ≤ k2) (hb : 54 ≤ (quoS X Y k1).log2) : nearR (quoS X Y k1) (p - k1) = nearR (quoS X Y k2) (p - k2) := by
  obtain ⟨t, rfl⟩ : ∃ t, k2 = k1 + t := ⟨k2 - k1, by omega⟩
  have hs := quo_stick (X := X) k1 t hY
  obtain ⟨M, hM⟩ : ∃ M, quoS X Y (k1 + t) = M := ⟨_, rfl⟩
  rw [hM] at hs ⊢
  have hq0 : quoS X Y k1 ≠ 0 := by intro h; rw [h] at hb; exact absurd hb (by decide)
  have h1 := Nat.log2_self_le hq0
  have h2 : (2 : Nat) ^ 54 ≤ 2 ^ (quoS X Y k1).log2 := Nat.pow_le_pow_right (by decide) hb
  have h3 : stick M t false ≤ M / 2 ^ t + 1 := by unfold stick; split; omega; split <;> omega
  have h4 : 1 ≤ M / 2 ^ t := by rw [hs] at h3; omega
  have h5 : 2 ^ t ≤ M := (Nat.one_le_div_iff (Nat.two_pow_pos _)).1 h4
  have hM0 : M ≠ 0 := by have := Nat.two_pow_pos t; omega
  have h6 : t ≤ M.log2 := (Nat.le_log2 hM0).2 h5
  have h7 := (log2_stick false h6 hM0).1
  rw [hs] at h7
  have := nearR_stick2 (M := M) (s := t) (p := p - ((k1 + t : Nat) : Int)) hM0 (by omega)
  rw [hs, show (t : Int) + (p - ((k1 + t : Nat) : Int)) = p - k1 by omega] at this
  exact this
/-- Enough bits. -/
theorem quo_bits {X Y k : Nat} (hX : X ≠ 0) (hY : Y ≠ 0) (hk : 54 + Y.log2 ≤ X.log2 + k) : 9007199254740992 ≤ X * 2 ^ k / Y ∧ 54 ≤ (quoS X Y k).log2 := by
  have h1 := Nat.log2_self_le hX
  have h2 : Y < 2 ^ (Y.log2 + 1) := Nat.lt_log2_self
  have h3 : 9007199254740992 ≤ X * 2 ^ k / Y := by
    rw [Nat.le_div_iff_mul_le (by omega)]
    refine Nat.le_trans (Nat.mul_le_mul_left _ (Nat.le_of_lt h2)) ?_
    refine Nat.le_trans ?_ (Nat.mul_le_mul_right _ h1)
    rw [show (9007199254740992 : Nat) = 2 ^ 53 from rfl, ← Nat.pow_add, ← Nat.pow_add]
    exact Nat.pow_le_pow_right (by decide) (by omega)
  refine ⟨h3, ?_⟩
  have h4 : 2 ^ 54 ≤ quoS X Y k := by unfold quoS; omega
  exact (Nat.le_log2 (by have := Nat.two_pow_pos 54; omega)).2 h4
theorem keptD_more {N d : Nat} (hd : 1 ≤ d) : keptD N d true = rne (2 * N + 1) (d + 1) := by
  unfold keptD rne
  have hp := Nat.two_pow_pos d
  have e1 : (2 * N + 1) / 2 ^ (d + 1) = N / 2 ^ d := by
    rw [Nat.pow_succ, Nat.mul_comm (2 ^ d) 2, ← Nat.div_div_eq_div_mul]; congr 1; omega
  have e2 : (2 * N + 1) % 2 ^ (d + 1) = 2 * (N % 2 ^ d) + 1 := by
    have a := Nat.div_add_mod (2 * N + 1) (2 ^ (d + 1))
    have b := Nat.div_add_mod N (2 ^ d)
    rw [e1, Nat.pow_succ] at a
    have c : 2 ^ d * 2 * (N / 2 ^ d) = 2 * (2 ^ d * (N / 2 ^ d)) := by rw [Nat.mul_comm (2 ^ d) 2, Nat.mul_assoc]
    rw [Nat.pow_succ]
    omega
  rw [e1, e2]
  congr 1
  obtain ⟨k, rfl⟩ : ∃ k, d = k + 1 := ⟨d - 1, by omega⟩
  rw [Nat.add_sub_cancel]
  have e : N % 2 ^ (k + 1) = N % 2 ^ k + 2 ^ k * (N / 2 ^ k % 2) := by rw [Nat.pow_succ, Nat.mod_mul]
  have hk := Nat.two_pow_pos k
  have hlt : N % 2 ^ k < 2 ^ k := Nat.mod_lt _ hk
  rw [e, Nat.pow_succ, Nat.pow_succ]
  rcases (show N / 2 ^ k % 2 = 0 ∨ N / 2 ^ k % 2 = 1 by omega) with hb | hb
  · rw [hb, if_neg (by omega), if_neg (by omega)]
  · rw [hb, Nat.mul_one, if_pos ⟨rfl, Or.inr (Or.inl rfl)⟩, if_pos (Or.inl (by omega))]
theorem made_min (neg : Bool) {a b : Nat} (h : min a 9218868437227405312 = b) : madeI neg (a : Int) = madeI neg (b : Int) := by
  unfold madeI
  cases neg <;> simp only [Bool.false_eq_true, if_true, if_false] <;> omega
theorem made_le (neg : Bool) {r : Nat} (h : r ≤ 9218868437227405312) : madeI neg (r : Int) = sbit neg + (r : Int) := by
  unfold madeI sbit
  cases neg <;> simp only [Bool.false_eq_true, if_true, if_false] <;> omega
/-- The document's rounding of a quotient. -/
theorem nearM_more (neg more : Bool) {N : Nat} (e : Int) (hN : 9007199254740992 ≤ N) : nearM neg N e more = sbit neg + (nearR (2 * N + (if more then 1 else 0)) (e - 1) : Int) := by
  have h0 : N ≠ 0 := by omega
  cases more with
  | false =>
    have e0 : (2 * N + (if (false : Bool) = true then 1 else 0)) = 2 * N := rfl
    rw [nearM_eq neg e h0, e0]
    have := nearR_scale h0 1 e
    rw [Nat.pow_one, Nat.mul_comm] at this
    rw [show e - 1 = e - ((1 : Nat) : Int) from rfl, this]; rfl
  | true =>
    rw [if_pos rfl]
    have hlog : (2 * N + 1).log2 = N.log2 + 1 := by
      rw [Nat.log2_def, if_pos (by omega), show (2 * N + 1) / 2 = N by omega]
    have hlg : 53 ≤ N.log2 := (Nat.le_log2 h0).2 (by omega)
    have hbl := bl_pos h0
    have hL : lastP (2 * N + 1) (e - 1) = lastP N e := by unfold lastP; rw [hlog]; congr 1; omega
    have hl : lsb53 N e = lastP N e := by unfold lsb53 lastP; rw [hbl]; omega
    have hgt : e < lastP N e := by unfold lastP; omega
    have key : (if farB N e = true then if 0 < e ∨ 0 < (bl N : Int) + e then madeI neg 9218868437227405312 else madeI neg 0 else madeI neg (rnd53 N e true)) = madeI neg (nearR (2 * N + 1) (e - 1)) := by
      cases hf : farB N e
      · simp only [Bool.false_eq_true, if_false]
        have e2 : min (rnd53 N e true) 9218868437227405312 = nearR (2 * N + 1) (e - 1) := by
          unfold rnd53 kept53 nearR
          rw [hL, hl, if_neg (by omega), keptD_more (by omega), show (e - 1 - lastP N e).toNat = 0 by omega, Nat.pow_zero, Nat.mul_one, show (lastP N e - (e - 1)).toNat = (lastP N e - e).toNat + 1 by omega]
        exact made_min neg e2
      · simp only [if_true]
        unfold farB at hf
        rw [Bool.or_eq_true, decide_eq_true_eq, decide_eq_true_eq] at hf
        rcases hf with hf | hf
        · rw [if_pos (Or.inr (by omega)), nearR_big (by omega) (by omega)]; rfl
        · have h1 : bl (2 * N + 1) = bl N + 1 := by rw [bl_pos (by omega), hlog, hbl]
          rw [if_neg (by omega), nearR_tiny (by omega) (by rw [h1]; omega)]; rfl
    unfold nearM
    rw [if_neg h0, key]
    exact made_le neg (Nat.min_le_right _ _)
end Go.Proofs.Ytcbbbkngjdlcjaa
namespace Go.Proofs.Ytcbbbkngjdlcjaa
open Go.RowKit

/-- The size of the number nearest to X / Y. -/
def yearR (X Y : Nat) : Nat := nearR (quoS X Y 200) (-1 - ((200 : Nat) : Int))
theorem yearK_le {X Y : Nat} (hX : X ≠ 0) (hY : Y ≠ 0) (hY' : Y ≤ 1000000000) : yearK X Y ≤ 200 ∧ 54 + Y.log2 ≤ X.log2 + yearK X Y := by
  have h1 := bl_pos hX
  have h2 := bl_pos hY
  have h3 : Y.log2 < 30 := (Nat.log2_lt hY).2 (by omega)
  unfold yearK
  omega
theorem year_val {P Q : Int} (h0 : P ≠ 0) (hQ : 0 < Q) (hQ' : Q ≤ 1000000000) : yearB P Q = sbit (decide (P < 0)) + (yearR P.natAbs Q.natAbs : Int) := by
  have hX : P.natAbs ≠ 0 := by omega
  have hY : Q.natAbs ≠ 0 := by omega
  have hY' : Q.natAbs ≤ 1000000000 := by omega
  unfold yearB yearR
  rw [if_neg h0]
  generalize P.natAbs = X at *
  generalize Q.natAbs = Y at *
  obtain ⟨k1, k2⟩ := yearK_le hX hY hY'
  generalize yearK X Y = k at *
  have hb := quo_bits hX hY k2
  rw [nearM_more _ _ _ hb.1, ← near_quo (p := -1) (by omega) k1 hb.2]
  have e : 2 * (X * 2 ^ k / Y) + (if decide (0 < nd (X * 2 ^ k % Y)) = true then 1 else 0) = quoS X Y k := by
    unfold quoS
    congr 1
    by_cases hr : X * 2 ^ k % Y = 0
    · rw [hr]; rfl
    · have := nd_pos hr
      rw [if_neg hr, if_pos (decide_eq_true (show 0 < nd (X * 2 ^ k % Y) from this))]
  rw [e, show (0 : Int) - (k : Int) - 0 - 1 = -1 - (k : Int) by omega]
theorem quoS_mono {X X' Y k : Nat} (h : X ≤ X') : quoS X Y k ≤ quoS X' Y k := by
  have h1 : X * 2 ^ k ≤ X' * 2 ^ k := Nat.mul_le_mul_right _ h
  unfold quoS
  generalize X * 2 ^ k = A at *
  generalize X' * 2 ^ k = B at *
  have h2 : A / Y ≤ B / Y := Nat.div_le_div_right h1
  have ea := Nat.div_add_mod A Y
  have eb := Nat.div_add_mod B Y
  by_cases hq : A / Y = B / Y
  · rw [hq] at ea ⊢
    have : A % Y ≤ B % Y := by omega
    split <;> split <;> omega
  · split <;> split <;> omega
theorem yearR_mono {X X' Y : Nat} (h : X ≤ X') : yearR X Y ≤ yearR X' Y := nearR_mono _ (quoS_mono h)
theorem yearR_pos {X Y : Nat} (h : X ≠ 0) (hY : 0 < Y) (hY' : Y ≤ 1000000000) : 0 < yearR X Y := by
  refine Nat.lt_of_lt_of_le ?_ (yearR_mono (X := 1) (by omega))
  unfold yearR
  have h1 : 1 * 2 ^ 170 ≤ quoS 1 Y 200 := by
    unfold quoS
    have : 2 ^ 200 / 2 ^ 30 ≤ 1 * 2 ^ 200 / Y := by
      rw [Nat.one_mul]
      exact Nat.div_le_div_left (by omega) hY
    rw [show (2 : Nat) ^ 200 / 2 ^ 30 = 2 ^ 170 by decide] at this
    omega
  refine Nat.lt_of_lt_of_le ?_ (nearR_mono _ h1)
  rw [show (-1 : Int) - ((200 : Nat) : Int) = -31 - ((170 : Nat) : Int) by decide, nearR_scale (by decide)]
  decide
theorem yearR_fin {X Y : Nat} (h : X ≤ 1000000000) : yearR X Y < 9218868437227405312 := by
  unfold yearR
  have h1 : quoS X Y 200 ≤ 1 * 2 ^ 232 := by
    unfold quoS
    have h2 : X * 2 ^ 200 / Y ≤ X * 2 ^ 200 := Nat.div_le_self _ _
    have h3 : X * 2 ^ 200 ≤ 1073741824 * 2 ^ 200 := Nat.mul_le_mul_right _ (by omega)
    rw [show (1073741824 : Nat) * 2 ^ 200 = 2 ^ 230 by decide] at h3
    split <;> omega
  refine Nat.lt_of_le_of_lt (nearR_mono _ h1) ?_
  rw [show (-1 : Int) - ((200 : Nat) : Int) = 31 - ((232 : Nat) : Int) by decide, nearR_scale (by decide)]
  decide
end Go.Proofs.Ytcbbbkngjdlcjaa
