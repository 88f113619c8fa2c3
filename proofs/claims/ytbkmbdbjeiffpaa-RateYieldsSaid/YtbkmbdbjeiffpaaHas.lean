/- Quotients rounded once: how many bits are reckoned beyond those that count makes nothing. The contract of the document's DivDigits: bit by bit. -/
import Derived.Test.YtbkmbdbjeiffpaaHar
import Derived.Test.YtbkmbdbjeiffpaaHam
namespace Go.Proofs.Ytbkmbdbjeiffpaa

theorem nearR_stick2 {M s : Nat} {p : Int} (h0 : M ≠ 0) (h : s + 54 ≤ M.log2) : nearR (stick M s false) (s + p) = nearR M p := by
  obtain ⟨h1, _⟩ := log2_stick false (show s ≤ M.log2 by omega) h0
  have hL : lastP (stick M s false) (s + p) = lastP M p := by
    unfold lastP; rw [h1]; congr 1; omega
  have hL2 : (s : Int) + p + 2 ≤ lastP M p := by unfold lastP; omega
  unfold nearR
  rw [hL]
  obtain ⟨d, hd⟩ : ∃ d : Nat, lastP M p = s + p + d := ⟨(lastP M p - (s + p)).toNat, by omega⟩
  have e1 : ((s : Int) + p - lastP M p).toNat = 0 := by omega
  have e2 : (p - lastP M p).toNat = 0 := by omega
  have e3 : (lastP M p - (s + p)).toNat = d := by omega
  have e4 : (lastP M p - p).toNat = d + s := by omega
  rw [e1, e2, e3, e4, Nat.pow_zero, Nat.mul_one, Nat.mul_one]
  have hs : stick M s false = (if M % 2 ^ s = 0 then M / 2 ^ s else (if M / 2 ^ s % 2 = 1 then M / 2 ^ s else M / 2 ^ s + 1)) := by unfold stick; simp only [and_true]
  rw [hs, rne_sticky (by omega)]
/-- A quotient's bits, the last one standing for all behind it. -/
def quoS (X Y k : Nat) : Nat := 2 * (X * 2 ^ k / Y) + (if X * 2 ^ k % Y = 0 then 0 else 1)
theorem stick_of {q e T : Nat} {t : Nat} (hT : T = 2 ^ t) (he : e < 2 * T) : stick (2 * q * T + e) t false = 2 * q + (if e = 0 then 0 else 1) := by
  have hp : 0 < T := by rw [hT]; exact Nat.two_pow_pos t
  unfold stick
  rw [← hT]
  have hd : (2 * q * T + e) / T = 2 * q + e / T := by rw [Nat.add_comm, Nat.add_mul_div_right _ _ hp, Nat.add_comm]
  have hm : (2 * q * T + e) % T = e % T := by rw [Nat.add_comm, Nat.add_mul_mod_self_right]
  rw [hd, hm]
  by_cases h0 : e = 0
  · rw [h0, Nat.zero_mod, Nat.zero_div, if_pos ⟨rfl, rfl⟩, if_pos rfl]
  · rw [if_neg h0]
    by_cases h1 : e < T
    · rw [Nat.mod_eq_of_lt h1, Nat.div_eq_of_lt h1, if_neg (fun h => h0 h.1), if_neg (by omega)]
    · have h2 : e / T = 1 := by
        have := Nat.div_lt_iff_lt_mul hp (x := e) (y := 2)
        have h3 : e / T < 2 := this.2 he
        have h4 : 1 ≤ e / T := (Nat.one_le_div_iff hp).2 (by omega)
        omega
      rw [h2]
      by_cases h3 : e % T = 0 ∧ (false : Bool) = false
      · rw [if_pos h3]
      · rw [if_neg h3, if_pos (by omega)]
theorem quo_stick {X Y : Nat} (k t : Nat) (hY : 0 < Y) : stick (quoS X Y (k + t)) t false = quoS X Y k := by
  obtain ⟨T, hT⟩ : ∃ T, T = 2 ^ t := ⟨_, rfl⟩
  have hp : 0 < T := by rw [hT]; exact Nat.two_pow_pos t
  unfold quoS
  rw [Nat.pow_add, ← Nat.mul_assoc, ← hT]
  generalize X * 2 ^ k = A
  have hA := Nat.div_add_mod A Y
  have hr : A % Y < Y := Nat.mod_lt _ hY
  generalize A / Y = q at *
  generalize A % Y = r at *
  have hAT : A * T = r * T + Y * (q * T) := by rw [← hA, Nat.add_mul, Nat.mul_assoc, Nat.add_comm]
  have hd : A * T / Y = q * T + r * T / Y := by rw [hAT, Nat.add_mul_div_left _ _ hY, Nat.add_comm]
  have hm : A * T % Y = r * T % Y := by rw [hAT, Nat.add_mul_mod_self_left]
  rw [hd, hm]
  have hc : r * T / Y < T := by rw [Nat.div_lt_iff_lt_mul hY, Nat.mul_comm T]; exact Nat.mul_lt_mul_of_pos_right hr hp
  have e1 := Nat.div_add_mod (r * T) Y
  have h5 : r = 0 ↔ r * T = 0 := by
    constructor
    · intro h; rw [h, Nat.zero_mul]
    · intro h; rcases Nat.mul_eq_zero.1 h with h | h <;> omega
  have e2 : 2 * (q * T + r * T / Y) + (if r * T % Y = 0 then 0 else 1) = 2 * q * T + (2 * (r * T / Y) + (if r * T % Y = 0 then 0 else 1)) := by rw [Nat.mul_add, ← Nat.mul_assoc, Nat.add_assoc]
  rw [e2]
  generalize r * T / Y = c at *
  generalize r * T % Y = s at *
  generalize r * T = rt at *
  rw [stick_of hT (by split <;> omega)]
  congr 1
  by_cases h0 : r = 0
  · have h6 : rt = 0 := h5.1 h0
    have h7 : s = 0 := by omega
    have h8 : c = 0 := by
      by_cases hcc : c = 0
      · exact hcc
      · have := Nat.mul_pos hY (show 0 < c by omega); omega
    rw [if_pos h0, if_pos (by rw [h7, h8]; rfl)]
  · have h6 : rt ≠ 0 := fun h => h0 (h5.2 h)
    rw [if_neg h0, if_neg]
    intro h
    by_cases hs : s = 0
    · rw [if_pos hs] at h
      have hc0 : c = 0 := by omega
      rw [hc0, Nat.mul_zero] at e1; omega
    · rw [if_neg hs] at h; omega
theorem near_quo {X Y k1 k2 : Nat} {p : Int} (hY : 0 < Y) (hk : k1 ≤ k2) (hb : 54 ≤ (quoS X Y k1).log2) : nearR (quoS X Y k1) (p - k1) = nearR (quoS X Y k2) (p - k2) := by
  obtain ⟨t, rfl⟩ : ∃ t, k2 = k1 + t := ⟨k2 - k1, by omega⟩
  have hs := quo_stick (X := X) k1 t hY
  obtain ⟨M, hM⟩ : ∃ M, quoS X Y (k1 + t) = M := ⟨_, rfl⟩
  rw [hM] at hs ⊢
  have hq0 : quoS X Y k1 ≠ 0 := by intro h; rw [h] at hb; exact absurd hb (by decide)
  have h1 := Nat.log2_self_le hq0
  have h2 : (2 : Nat) ^ 54 ≤ 2 ^ (quoS X Y k1).log2 := Nat.pow_le_pow_right (by decide) hb
  have h3 : stick M t false ≤ M / 2 ^ t + 1 := by unfold stick; split; omega; split <;> omega
  have h4 : 1 ≤ M / 2 ^ t := by rw [hs] at h3; omega
  have h5 : 2 ^ t ≤ M := (Nat.one_le_div_iff (Nat.two_pow_pos _)).1 h4
  have hM0 : M ≠ 0 := by have := Nat.two_pow_pos t; omega
  have h6 : t ≤ M.log2 := (Nat.le_log2 hM0).2 h5
  have h7 := (log2_stick false h6 hM0).1
  rw [hs] at h7
  have := nearR_stick2 (M := M) (s := t) (p := p - ((k1 + t : Nat) : Int)) hM0 (by omega)
  rw [hs, show (t : Int) + (p - ((k1 + t : Nat) : Int)) = p - k1 by omega] at this
  exact this
/-- Enough bits. -/
theorem quo_bits {X Y k : Nat} (hX : X ≠ 0) (hY : Y ≠ 0) (hk : 54 + Y.log2 ≤ X.log2 + k) : 9007199254740992 ≤ X * 2 ^ k / Y ∧ 54 ≤ (quoS X Y k).log2 := by
  have h1 := Nat.log2_self_le hX
  have h2 : Y < 2 ^ (Y.log2 + 1) := Nat.lt_log2_self
  have h3 : 9007199254740992 ≤ X * 2 ^ k / Y := by
    rw [Nat.le_div_iff_mul_le (by omega)]
    refine Nat.le_trans (Nat.mul_le_mul_left _ (Nat.le_of_lt h2)) ?_
    refine Nat.le_trans ?_ (Nat.mul_le_mul_right _ h1)
    rw [show (9007199254740992 : Nat) = 2 ^ 53 from rfl, ← Nat.pow_add, ← Nat.pow_add]
    exact Nat.pow_le_pow_right (by decide) (by omega)
  refine ⟨h3, ?_⟩
  have h4 : 2 ^ 54 ≤ quoS X Y k := by unfold quoS; omega
  exact (Nat.le_log2 (by have := Nat.two_pow_pos 54; omega)).2 h4
theorem keptD_more {N d : Nat} (hd : 1 ≤ d) : keptD N d true = rne (2 * N + 1) (d + 1) := by
  unfold keptD rne
  have hp := Nat.two_pow_pos d
  have e1 : (2 * N + 1) / 2 ^ (d + 1) = N / 2 ^ d := by
    rw [Nat.pow_succ, Nat.mul_comm (2 ^ d) 2, ← Nat.div_div_eq_div_mul]; congr 1; omega
  have e2 : (2 * N + 1) % 2 ^ (d + 1) = 2 * (N % 2 ^ d) + 1 := by
    have a := Nat.div_add_mod (2 * N + 1) (2 ^ (d + 1))
    have b := Nat.div_add_mod N (2 ^ d)
    rw [e1, Nat.pow_succ] at a
    have c : 2 ^ d * 2 * (N / 2 ^ d) = 2 * (2 ^ d * (N / 2 ^ d)) := by rw [Nat.mul_comm (2 ^ d) 2, Nat.mul_assoc]
    rw [Nat.pow_succ]
    omega
  rw [e1, e2]
  congr 1
  obtain ⟨k, rfl⟩ : ∃ k, d = k + 1 := ⟨d - 1, by omega⟩
  rw [Nat.add_sub_cancel]
  have e : N % 2 ^ (k + 1) = N % 2 ^ k + 2 ^ k * (N / 2 ^ k % 2) := by rw [Nat.pow_succ, Nat.mod_mul]
  have hk := Nat.two_pow_pos k
  have hlt : N % 2 ^ k < 2 ^ k := Nat.mod_lt _ hk
  rw [e, Nat.pow_succ, Nat.pow_succ]
  rcases (show N / 2 ^ k % 2 = 0 ∨ N / 2 ^ k % 2 = 1 by omega) with hb | hb
  · rw [hb, if_neg (by omega), if_neg (by omega)]
  · rw [hb, Nat.mul_one, if_pos ⟨rfl, Or.inr (Or.inl rfl)⟩, if_pos (Or.inl (by omega))]
theorem made_min (neg : Bool) {a b : Nat} (h : min a 9218868437227405312 = b) : madeI neg (a : Int) = madeI neg (b : Int) := by
  unfold madeI
  cases neg <;> simp only [Bool.false_eq_true, if_true, if_false] <;> omega
theorem made_le (neg : Bool) {r : Nat} (h : r ≤ 9218868437227405312) : madeI neg (r : Int) = sbit neg + (r : Int) := by
  unfold madeI sbit
  cases neg <;> simp only [Bool.false_eq_true, if_true, if_false] <;> omega
/-- The document's rounding of a quotient. -/
theorem nearM_more (neg more : Bool) {N : Nat} (e : Int) (hN : 9007199254740992 ≤ N) : nearM neg N e more = sbit neg + (nearR (2 * N + (if more then 1 else 0)) (e - 1) : Int) := by
  have h0 : N ≠ 0 := by omega
  cases more with
  | false =>
    have e0 : (2 * N + (if (false : Bool) = true then 1 else 0)) = 2 * N := rfl
    rw [nearM_eq neg e h0, e0]
    have := nearR_scale h0 1 e
    rw [Nat.pow_one, Nat.mul_comm] at this
    rw [show e - 1 = e - ((1 : Nat) : Int) from rfl, this]; rfl
  | true =>
    rw [if_pos rfl]
    have hlog : (2 * N + 1).log2 = N.log2 + 1 := by
      rw [Nat.log2_def, if_pos (by omega), show (2 * N + 1) / 2 = N by omega]
    have hlg : 53 ≤ N.log2 := (Nat.le_log2 h0).2 (by omega)
    have hbl := bl_pos h0
    have hL : lastP (2 * N + 1) (e - 1) = lastP N e := by unfold lastP; rw [hlog]; congr 1; omega
    have hl : lsb53 N e = lastP N e := by unfold lsb53 lastP; rw [hbl]; omega
    have hgt : e < lastP N e := by unfold lastP; omega
    have key : (if farB N e = true then if 0 < e ∨ 0 < (bl N : Int) + e then madeI neg 9218868437227405312 else madeI neg 0 else madeI neg (rnd53 N e true)) = madeI neg (nearR (2 * N + 1) (e - 1)) := by
      cases hf : farB N e
      · simp only [Bool.false_eq_true, if_false]
        have e2 : min (rnd53 N e true) 9218868437227405312 = nearR (2 * N + 1) (e - 1) := by
          unfold rnd53 kept53 nearR
          rw [hL, hl, if_neg (by omega), keptD_more (by omega), show (e - 1 - lastP N e).toNat = 0 by omega, Nat.pow_zero, Nat.mul_one, show (lastP N e - (e - 1)).toNat = (lastP N e - e).toNat + 1 by omega]
        exact made_min neg e2
      · simp only [if_true]
        unfold farB at hf
        rw [Bool.or_eq_true, decide_eq_true_eq, decide_eq_true_eq] at hf
        rcases hf with hf | hf
        · rw [if_pos (Or.inr (by omega)), nearR_big (by omega) (by omega)]; rfl
        · have h1 : bl (2 * N + 1) = bl N + 1 := by rw [bl_pos (by omega), hlog, hbl]
          rw [if_neg (by omega), nearR_tiny (by omega) (by rw [h1]; omega)]; rfl
    unfold nearM
    rw [if_neg h0, key]
    exact made_le neg (Nat.min_le_right _ _)
end Go.Proofs.Ytbkmbdbjeiffpaa
namespace Go.Proofs.Ytbkmbdbjeiffpaa
open Go.RowKit

theorem bit_dgt (A i j r : Nat) (hj : i = 32 * j + r) (hr : r < 32) : dgt A j / 2 ^ r % 2 = A / 2 ^ i % 2 := by
  unfold dgt
  have e : A / 2 ^ i = A / 2 ^ (32 * j) / 2 ^ r := by rw [Nat.div_div_eq_div_mul, ← Nat.pow_add, ← hj]
  rw [e]
  generalize A / 2 ^ (32 * j) = M
  have e2 : (4294967296 : Nat) = 2 ^ r * 2 ^ (32 - r) := by rw [← Nat.pow_add, show r + (32 - r) = 32 by omega]
  rw [e2, Nat.mod_mul_right_div_self]
  refine Nat.mod_mod_of_dvd _ ?_
  rw [show 32 - r = (31 - r) + 1 by omega, Nat.pow_succ]
  exact Nat.dvd_mul_left 2 _
/-- One bit more of a quotient. -/
theorem div_bit {A B i R b : Nat} (hB : 0 < B) (hR : R = A / 2 ^ (i + 1) % B) (hb : b = A / 2 ^ i % 2) :
    (B ≤ R * 2 + b → A / 2 ^ i % B = R * 2 + b - B ∧ A / 2 ^ i / B * 2 ^ i = A / 2 ^ (i + 1) / B * 2 ^ (i + 1) + 2 ^ i) ∧
    (R * 2 + b < B → A / 2 ^ i % B = R * 2 + b ∧ A / 2 ^ i / B * 2 ^ i = A / 2 ^ (i + 1) / B * 2 ^ (i + 1)) := by
  have e : A / 2 ^ (i + 1) = A / 2 ^ i / 2 := by rw [Nat.div_div_eq_div_mul, ← Nat.pow_succ]
  rw [e] at hR ⊢
  generalize A / 2 ^ i = M at *
  have h1 := Nat.div_add_mod (M / 2) B
  have h2 : M / 2 % B < B := Nat.mod_lt _ hB
  rw [← hR] at h1 h2
  generalize M / 2 / B = q at *
  have e3 : q * 2 ^ (i + 1) = 2 * q * 2 ^ i := by rw [Nat.pow_succ, ← Nat.mul_assoc, Nat.mul_comm, ← Nat.mul_assoc]
  rw [e3]
  refine ⟨fun c => ?_, fun c => ?_⟩
  · have hM : M = (R * 2 + b - B) + B * (2 * q + 1) := by
      have : B * (2 * q + 1) = 2 * (B * q) + B := by rw [Nat.mul_add, Nat.mul_one, Nat.mul_left_comm]
      omega
    have m1 : M % B = R * 2 + b - B := by rw [hM, Nat.add_mul_mod_self_left, Nat.mod_eq_of_lt (by omega)]
    have m2 : M / B = 2 * q + 1 := by rw [hM, Nat.add_mul_div_left _ _ hB, Nat.div_eq_of_lt (by omega), Nat.zero_add]
    rw [m1, m2, Nat.add_mul, Nat.one_mul]
    exact ⟨rfl, rfl⟩
  · have hM : M = (R * 2 + b) + B * (2 * q) := by
      have : B * (2 * q) = 2 * (B * q) := by rw [Nat.mul_left_comm]
      omega
    have m1 : M % B = R * 2 + b := by rw [hM, Nat.add_mul_mod_self_left, Nat.mod_eq_of_lt (by omega)]
    have m2 : M / B = 2 * q := by rw [hM, Nat.add_mul_div_left _ _ hB, Nat.div_eq_of_lt (by omega), Nat.zero_add]
    rw [m1, m2]
    exact ⟨rfl, rfl⟩
theorem put_bit {Q i j r : Nat} (hj : i = 32 * j + r) (hr : r < 32) :
    dgt (Q * 2 ^ (i + 1)) j + 2 ^ r < 4294967296 ∧ setD (Q * 2 ^ (i + 1)) j (dgt (Q * 2 ^ (i + 1)) j + 2 ^ r) = Q * 2 ^ (i + 1) + 2 ^ i := by
  constructor
  · unfold dgt
    have e : Q * 2 ^ (i + 1) = Q * 2 ^ (r + 1) * 2 ^ (32 * j) := by rw [Nat.mul_assoc, ← Nat.pow_add]; congr 2; omega
    have e2 : (4294967296 : Nat) = 2 ^ (31 - r) * 2 ^ (r + 1) := by rw [← Nat.pow_add, show 31 - r + (r + 1) = 32 by omega]
    rw [e, Nat.mul_div_cancel _ (Nat.two_pow_pos _)]
    have h1 : Q * 2 ^ (r + 1) % 4294967296 = (Q % 2 ^ (31 - r)) * 2 ^ (r + 1) := by rw [e2, Nat.mul_mod_mul_right]
    have h2 : Q % 2 ^ (31 - r) < 2 ^ (31 - r) := Nat.mod_lt _ (Nat.two_pow_pos _)
    have h3 : (Q % 2 ^ (31 - r) + 1) * 2 ^ (r + 1) ≤ 2 ^ (31 - r) * 2 ^ (r + 1) := Nat.mul_le_mul_right _ h2
    rw [← e2, Nat.add_mul, Nat.one_mul, Nat.pow_succ] at h3
    rw [h1, Nat.pow_succ]
    have h4 := Nat.two_pow_pos r
    omega
  · have h := setD_sum (Q * 2 ^ (i + 1)) j (dgt (Q * 2 ^ (i + 1)) j + 2 ^ r)
    rw [Nat.add_mul, ← Nat.pow_add, show r + 32 * j = i by omega] at h
    omega
theorem from_mono {A B : Nat} {v : Value} (h : From B v) (hle : A ≤ B) : From A v := fun a l c e => Nat.le_trans hle (h a l c e)
theorem dn_shape {w : World} {v : Value} {N : Nat} (h : DN w v N) : ∃ p l c, v = .slice p l c := by obtain ⟨p, c, e⟩ := h.form; exact ⟨p, _, c, e⟩
theorem own_below2 {w w' : World} {b n M s : Nat} (h : Own w b n M) (hb : b < s) (hB : Below s w w') : Own w' b n M := by
  obtain ⟨c, h1, h2, h3⟩ := h
  exact ⟨c, by rw [hB.block b hb]; exact h1, h2, h3⟩
theorem bl_nd2 (N : Nat) : bl N ≤ 32 * nd N := by
  unfold bl nd
  by_cases h : N = 0
  · rw [if_pos h]; omega
  · rw [if_neg h, if_neg h]; omega
theorem dn_one (w : World) : DN (w.alloc (.cells #[.int .u64 1] 26)) (.slice (some ⟨w.heap.size, 0, none⟩) 1 1) 1 := by
  refine Or.inr ⟨by decide, w.heap.size, 1, by rw [show nd 1 = 1 by decide], by decide, by simp, fun i hi => ?_⟩
  rw [show nd 1 = 1 by decide] at hi
  rw [show i = 0 by omega]
  simp
  decide

set_option maxRecDepth 10000 in
set_option maxHeartbeats 1600000 in
theorem divDigits_row (g c n L A B : Nat) (vb : Value) (w : World) (hrow : Hid (RowIs w g n A)) (hg : g < w.heap.size) (hA0 : A ≠ 0) (hn0 : Hid (nd A = n)) (hnc : n ≤ c) (hL : Hid (bl A = L)) (hLn : L ≤ 32 * n) (hB : DN w vb B) (hB0 : 0 < B) (hn : n ≤ 10000) (hbd : nd B ≤ 10000) :
    Calls Try.prog 72 #[.slice (some ⟨g, 0, none⟩) n c, vb] w fun e w' => ∃ q r, e = .returned (.tuple #[q, r]) ∧ DN w' q (A / B) ∧ DN w' r (A % B) ∧ From w.heap.size q ∧ From w.heap.size r ∧ Below w.heap.size w w' := by
  have hmk := fun w => run_make_row' (P := Try.prog) 54 26 (.int .u64 0) 8 Try.underlying54 info_u64 rfl .i64 .i64 n (by omega) (by omega) w
  have HO := hide (own_made w n)
  have HW0 : Hid (Below w.heap.size w (w.alloc (.cells (madeCells #[.int .u64 0] n) 26))) := (Below.refl _ _).alloc (Nat.le_refl _) _
  have HDA : Hid (DN w (.slice (some ⟨g, 0, none⟩) n c) A) := Or.inr ⟨hA0, g, c, by rw [hn0.out], by rw [hn0.out]; exact hnc, hg, by rw [hn0.out]; exact hrow.out⟩
  have HLen : Hid (∀ w', Below w.heap.size w w' → Calls Try.prog 58 #[.slice (some ⟨g, 0, none⟩) n c] w' fun e w'' => e = .returned (.int .i64 (L : Int)) ∧ w' = w'') := fun w' hb => by
    have := len_any _ A w' (HDA.out.below hb) (by rw [hn0.out]; omega)
    rw [hL.out] at this
    exact this.mono fun _ _ ⟨a, b⟩ => ⟨a, b.symm⟩
  have HB := hide hB
  have HAlt : Hid (A < 2 ^ L) := by
    show A < 2 ^ L
    rw [← hL.out]; unfold bl; rw [if_neg hA0]; exact Nat.lt_log2_self
  clear hB
  go_enter Try.func72, Try.ntmps72
  go_wp2_with fail
  refine (HLen.out _ HW0.out).mono ?_
  rintro e w' ⟨rfl, rfl⟩
  go_wp2_with fail
  go_loopw [6, 8] (fun v i wr => ∃ k : Nat, k ≤ L ∧ i = .int .i64 ((k : Int) - 1) ∧ Hid (DN wr v (A / 2 ^ k % B)) ∧ Hid (From (w.heap.size + 1) v) ∧ Hid (Own wr w.heap.size n (A / 2 ^ k / B * 2 ^ k)) ∧ Hid (Below w.heap.size w wr)) (fun _ i _ => (intOf i + 1).toNat)
  case atStart =>
    have e : A / 2 ^ L = 0 := Nat.div_eq_of_lt HAlt.out
    exact ⟨L, Nat.le_refl _, rfl, by rw [e, Nat.zero_mod]; exact Or.inl ⟨rfl, _, _, rfl⟩, from_nil _, by rw [e, Nat.zero_div, Nat.zero_mul]; exact HO, HW0⟩
  case round =>
    clear HO hmk HW0
    obtain ⟨k, hk, rfl, HD, HFr, HOwn, HBl⟩ := hrel
    cases k with
    | zero =>
      rw [Nat.pow_zero, Nat.div_one] at HD HOwn
      rw [Nat.mul_one] at HOwn
      have hM : Hid (A / B < 2 ^ (32 * n)) := Nat.lt_of_le_of_lt (Nat.div_le_self _ _) (by rw [← hn0.out]; exact nd_lt A)
      have hlt2 := HOwn.out.lt
      have HQ := hide (dn_mk HOwn.out.row hM.out (Nat.le_refl _) hlt2)
      go_wp2_with fail
      refine (trim_row _ _ _ _ _ HOwn.out.row hM.out (Nat.le_refl _) (by omega)).mono ?_
      rintro e w' ⟨rfl, rfl⟩
      go_wp2_with fail
      go_ret2
      exact ⟨_, _, rfl, HQ.out, HD.out, from_at _ _ _ _ (Nat.le_refl _), from_mono HFr.out (by omega), HBl.out⟩
    | succ i =>
      have hz : w.heap.size < wr.heap.size := HOwn.out.lt
      obtain ⟨R, hR⟩ : ∃ R, R = A / 2 ^ (i + 1) % B := ⟨_, rfl⟩
      rw [← hR] at HD
      obtain ⟨pv, cv, rfl⟩ := HD.out.form
      have hRB : R < B := by rw [hR]; exact Nat.mod_lt _ hB0
      have HRd : Hid (nd R ≤ 10000000) := by
        have h1 : R < 2 ^ (32 * nd B) := Nat.lt_trans hRB (nd_lt B)
        have := nd_mono h1
        show nd R ≤ 10000000
        omega
      obtain ⟨b, hb⟩ : ∃ b, b = A / 2 ^ i % 2 := ⟨_, rfl⟩
      have HBit := hide (div_bit hB0 hR hb)
      obtain ⟨S, hS⟩ : ∃ S, R * 2 + b = S := ⟨_, rfl⟩
      rw [hS] at HBit
      have hSB : S < 2 * B := by have : b < 2 := by rw [hb]; exact Nat.mod_lt _ (by decide)
                                 omega
      have HSd : Hid (nd S ≤ 10000000) := by
        have h1 : S < 2 ^ (32 * (nd B + 1)) := by
          have := nd_lt B
          rw [pow32]; omega
        have := nd_mono h1
        show nd S ≤ 10000000
        omega
      obtain ⟨j, r, hij, hr⟩ : ∃ j r, i = 32 * j + r ∧ r < 32 := ⟨i / 32, i % 32, by omega, by omega⟩
      have hjn : j < n := by omega
      have hq : (i : Int) / 32 = j := by omega
      have hrr : (i : Int) % 32 = r := by omega
      have HIJ := hide hij
      have hrow2 := hrow.out j hjn
      have hca : wr.cell? ⟨g, j, none⟩ = some (.int .u64 (dgt A j : Int)) := (HBl.out.cell (p := ⟨g, j, none⟩) hg).trans (hrow.out j hjn)
      have hbit : ((dgt A j : Int) / 2 ^ r).tmod 2 = b := by
        have := bit_dgt A i j r hij hr
        rw [← hb] at this
        rw [← this]
        have e1 : ((2 : Int) ^ r) = ((2 ^ r : Nat) : Int) := by rw [Int.natCast_pow]; rfl
        rw [e1, ← Int.natCast_ediv, Int.tmod_eq_emod_of_nonneg (Int.natCast_nonneg _)]; rfl
      have HPut := hide (put_bit (Q := A / 2 ^ (i + 1) / B) hij hr)
      have hdl := dgt_lt A j
      generalize dgt A j = D at hca hbit hdl
      have HSh : Hid (Calls Try.prog 73 #[.slice pv (nd R) cv, .int .i64 1] wr fun e w' => ∃ v, e = .returned v ∧ DN w' v (R * 2) ∧ From wr.heap.size v ∧ Below wr.heap.size wr w') := shiftUp_new _ R 1 wr HD.out HRd.out (by omega)
      have hS2 : b = 0 ∧ R * 2 = S ∨ b = 1 ∧ R * 2 + 1 = S := by
        have : b < 2 := by rw [hb]; exact Nat.mod_lt _ (by decide)
        omega
      clear hR hb HD HFr hS hij hrow2
      generalize nd R = lR at *
      have hi1 : ((i + 1 : Nat) : Int) - 1 = i := by omega
      rw [hi1]
      go_wp2_with fail
      refine HSh.out.mono ?_
      rintro e w1 ⟨v1, rfl, hd1, hf1, hb1⟩
      obtain ⟨p1, l1, c1, rfl⟩ := dn_shape hd1
      have hca1 : w1.cell? ⟨g, j, none⟩ = some (.int .u64 (D : Int)) := (hb1.cell (p := ⟨g, j, none⟩) (Nat.lt_of_lt_of_le hg HBl.out.size)).trans hca
      have hz1 : wr.heap.size ≤ w1.heap.size := hb1.size
      have HB1 := hide hb1
      clear hb1 HSh hca
      rcases hS2 with ⟨rfl, hS⟩ | ⟨rfl, hS⟩
      · have hbt : (((D : Int) / 2 ^ r).tmod 2 == 1) = false := by rw [hbit]; rfl
        clear hbit
        rw [hS] at hd1
        have HD1 := hide hd1
        have HF1 := hide hf1
        clear hd1 hf1 hS
        go_wp2_with fail
        have HX1 := HB1
        by_cases hc : B ≤ S
        · obtain ⟨t, ht, ht0⟩ : ∃ t : Int, cmpN S B = t ∧ 0 ≤ t := by
            rcases Nat.lt_or_eq_of_le hc with h | h
            · exact ⟨1, cmpN_gt h, by decide⟩
            · exact ⟨0, cmpN_eq h.symm, by decide⟩
          have HBw := hide (HBl.out.trans (HX1.out.mono HBl.out.size))
          have HCmp : Hid (Calls Try.prog 69 #[.slice p1 l1 c1, vb] w1 fun e w' => e = .returned (.int .i64 t) ∧ ∃ q, w' = w1.drewN q) := by
            rw [← ht]; exact cmpDigits_any _ _ S B w1 HD1.out (HB.out.below HBw.out) HSd.out
          refine HCmp.out.mono ?_
          rintro e w3 ⟨rfl, q3, hq3⟩
          have HB3 : Hid (Below w1.heap.size w1 w3) := by rw [hq3]; exact below_drewN (Below.refl _ _) _
          have HB3w := hide (HBw.out.trans (HB3.out.mono HBw.out.size))
          have HSub := hide (subDigits_any _ _ S B w3 (HD1.out.below HB3.out) (HB.out.below HB3w.out) HSd.out hc)
          obtain ⟨hm1, hm2⟩ := HBit.out.1 hc
          rw [← hm1] at HSub
          have HM2 := hide hm2
          clear ht hm1 hm2 hq3 HCmp
          go_wp2_with fail
          refine HSub.out.mono ?_
          rintro e w4 ⟨v4, rfl, hd4, hf4, hb4⟩
          obtain ⟨p4, l4, c4, rfl⟩ := dn_shape hd4
          have HBwr := hide (HX1.out.trans (HB3.out.mono HX1.out.size))
          have HB4r := hide (HBwr.out.trans (hb4.mono HBwr.out.size))
          have HB4w := hide (HB3w.out.trans (hb4.mono HB3w.out.size))
          have HO4 := hide (own_below2 HOwn.out hz HB4r.out)
          have ho := HO4.out.cell (i := j) hjn
          have fo := HO4.out.frozen j
          obtain ⟨hp1, hp2⟩ := HPut.out
          rw [← HM2.out] at hp2
          have HD4 := hide hd4
          have HF4 := hide (from_mono hf4 (show wr.heap.size ≤ _ from HBwr.out.size))
          obtain ⟨o, hoo⟩ : ∃ o, dgt (A / 2 ^ (i + 1) / B * 2 ^ (i + 1)) j = o := ⟨_, rfl⟩
          rw [hoo] at ho hp1 hp2
          obtain ⟨P, hP⟩ : ∃ P, 2 ^ r = P := ⟨_, rfl⟩
          have wp := wrap_pow hr
          rw [hP] at wp hp1 hp2
          have e1 : ((2 : Int) ^ r) = (P : Int) := by rw [← hP, Int.natCast_pow]; rfl
          have ws : IntKind.u64.wrap ((o : Int) + (P : Int)) = ((o + P : Nat) : Int) := by rw [IntKind.wrap_u64]; omega
          have td : (i : Int).tdiv 32 = j := by rw [Int.tdiv_eq_ediv_of_nonneg (by omega)]; exact hq
          have tm : (i : Int).tmod 32 = r := by rw [Int.tmod_eq_emod_of_nonneg (by omega)]; exact hrr
          have jn : (j : Int) < (n : Int) := by omega
          have HP2 := hide hp2
          clear hd4 hf4 hb4 hoo hP hp2 HPut HBit HOwn HB3 HBw HB3w HSub HD1 HF1 HBl HB1 HX1
          go_wp2_with fail
          go_region
          have HD5 := hide (HD4.out.set (from_mono HF4.out hz) (a := ⟨w.heap.size, j, none⟩) (Nat.lt_succ_self _) (.int .u64 ((o : Int) + (P : Int))))
          have HO5 := hide (Own.put (j := j) (d := o + P) (x := (o : Int) + (P : Int)) HO4.out (by omega) hp1)
          rw [HP2.out] at HO5
          have HB5 := hide (HB4w.out.setCell (p := ⟨w.heap.size, j, none⟩) (Nat.le_refl _) (.int .u64 ((o : Int) + (P : Int)))).drew
          clear HO4 HD4 HB4w HB4r HBwr HP2
          go_wp2_with fail
          go_roundw
          case rel => exact ⟨i, by omega, rfl, HD5, from_mono HF4.out hz, HO5, HB5⟩
          case measure => simp [intOf]
        · obtain ⟨hm1, hm2⟩ := HBit.out.2 (by omega)
          have HBw := hide (HBl.out.trans (HX1.out.mono HBl.out.size))
          have HCmp : Hid (Calls Try.prog 69 #[.slice p1 l1 c1, vb] w1 fun e w' => e = .returned (.int .i64 (-1)) ∧ ∃ q, w' = w1.drewN q) := by
            rw [← cmpN_lt (show S < B by omega)]; exact cmpDigits_any _ _ S B w1 HD1.out (HB.out.below HBw.out) HSd.out
          have HO := hide HOwn.out
          rw [← hm2] at HO
          rw [← hm1] at HD1
          refine HCmp.out.mono ?_
          rintro e w3 ⟨rfl, q3, hq3⟩
          have HB3 : Hid (Below w1.heap.size w1 w3) := by rw [hq3]; exact below_drewN (Below.refl _ _) _
          have HB3w := hide (HBw.out.trans (HB3.out.mono HBw.out.size))
          have HD3 := hide (HD1.out.below HB3.out)
          have HO3 := hide (own_below2 HO.out hz ((HX1.out.trans (HB3.out.mono HX1.out.size))))
          clear hm1 hm2 hq3 HCmp HO HOwn HB3 HBw
          go_wp2_with fail
          go_roundw
          case rel => exact ⟨i, by omega, rfl, HD3, from_mono HF1.out (by omega), HO3, HB3w⟩
          case measure => simp [intOf]
      · have hbt : (((D : Int) / 2 ^ r).tmod 2 == 1) = true := by rw [hbit]; rfl
        clear hbit
        have HAdd : Hid (Calls Try.prog 68 #[.slice p1 l1 c1, .slice (some ⟨w1.heap.size, 0, none⟩) 1 1] (w1.alloc (.cells #[.int .u64 1] 26)) fun e w' => ∃ v, e = .returned v ∧ DN w' v S ∧ From w1.heap.size v ∧ Below w1.heap.size w1 w') := by
          have hb := (Below.refl w1.heap.size w1).alloc (Nat.le_refl _) (.cells #[.int .u64 1] 26)
          have h2 := HSd.out
          have h3 : nd (R * 2) ≤ 10000000 := Nat.le_trans (nd_mono (Nat.lt_of_le_of_lt (show R * 2 ≤ S by omega) (nd_lt S))) h2
          have := addDigits_any _ _ (R * 2) 1 _ (hd1.below hb) (dn_one w1) h3 (by decide)
          rw [hS] at this
          exact this.mono fun _ _ ⟨v, a, b, c, d⟩ => ⟨v, a, b, from_mono c (by simp), hb.trans (d.mono (by simp))⟩
        clear hd1 hf1 hS
        go_wp2_with fail
        refine HAdd.out.mono ?_
        rintro e w2 ⟨v2, rfl, hd1, hf1, hb1⟩
        obtain ⟨p2, l2, c2, rfl⟩ := dn_shape hd1
        have HD1 := hide hd1
        have HF1 := hide (from_mono hf1 hz1)
        have HB2 := hide (HB1.out.trans (hb1.mono hz1))
        clear hd1 hf1 hb1 HAdd hca1
        go_wp2_with fail
        have HX1 := HB2
        by_cases hc : B ≤ S
        · obtain ⟨t, ht, ht0⟩ : ∃ t : Int, cmpN S B = t ∧ 0 ≤ t := by
            rcases Nat.lt_or_eq_of_le hc with h | h
            · exact ⟨1, cmpN_gt h, by decide⟩
            · exact ⟨0, cmpN_eq h.symm, by decide⟩
          have HBw := hide (HBl.out.trans (HX1.out.mono HBl.out.size))
          have HCmp : Hid (Calls Try.prog 69 #[.slice p2 l2 c2, vb] w2 fun e w' => e = .returned (.int .i64 t) ∧ ∃ q, w' = w2.drewN q) := by
            rw [← ht]; exact cmpDigits_any _ _ S B w2 HD1.out (HB.out.below HBw.out) HSd.out
          refine HCmp.out.mono ?_
          rintro e w3 ⟨rfl, q3, hq3⟩
          have HB3 : Hid (Below w2.heap.size w2 w3) := by rw [hq3]; exact below_drewN (Below.refl _ _) _
          have HB3w := hide (HBw.out.trans (HB3.out.mono HBw.out.size))
          have HSub := hide (subDigits_any _ _ S B w3 (HD1.out.below HB3.out) (HB.out.below HB3w.out) HSd.out hc)
          obtain ⟨hm1, hm2⟩ := HBit.out.1 hc
          rw [← hm1] at HSub
          have HM2 := hide hm2
          clear ht hm1 hm2 hq3 HCmp
          go_wp2_with fail
          refine HSub.out.mono ?_
          rintro e w4 ⟨v4, rfl, hd4, hf4, hb4⟩
          obtain ⟨p4, l4, c4, rfl⟩ := dn_shape hd4
          have HBwr := hide (HX1.out.trans (HB3.out.mono HX1.out.size))
          have HB4r := hide (HBwr.out.trans (hb4.mono HBwr.out.size))
          have HB4w := hide (HB3w.out.trans (hb4.mono HB3w.out.size))
          have HO4 := hide (own_below2 HOwn.out hz HB4r.out)
          have ho := HO4.out.cell (i := j) hjn
          have fo := HO4.out.frozen j
          obtain ⟨hp1, hp2⟩ := HPut.out
          rw [← HM2.out] at hp2
          have HD4 := hide hd4
          have HF4 := hide (from_mono hf4 (show wr.heap.size ≤ _ from HBwr.out.size))
          obtain ⟨o, hoo⟩ : ∃ o, dgt (A / 2 ^ (i + 1) / B * 2 ^ (i + 1)) j = o := ⟨_, rfl⟩
          rw [hoo] at ho hp1 hp2
          obtain ⟨P, hP⟩ : ∃ P, 2 ^ r = P := ⟨_, rfl⟩
          have wp := wrap_pow hr
          rw [hP] at wp hp1 hp2
          have e1 : ((2 : Int) ^ r) = (P : Int) := by rw [← hP, Int.natCast_pow]; rfl
          have ws : IntKind.u64.wrap ((o : Int) + (P : Int)) = ((o + P : Nat) : Int) := by rw [IntKind.wrap_u64]; omega
          have td : (i : Int).tdiv 32 = j := by rw [Int.tdiv_eq_ediv_of_nonneg (by omega)]; exact hq
          have tm : (i : Int).tmod 32 = r := by rw [Int.tmod_eq_emod_of_nonneg (by omega)]; exact hrr
          have jn : (j : Int) < (n : Int) := by omega
          have HP2 := hide hp2
          clear hd4 hf4 hb4 hoo hP hp2 HPut HBit HOwn HB3 HBw HB3w HSub HD1 HF1 HBl HB1 HX1
          go_wp2_with fail
          go_region
          have HD5 := hide (HD4.out.set (from_mono HF4.out hz) (a := ⟨w.heap.size, j, none⟩) (Nat.lt_succ_self _) (.int .u64 ((o : Int) + (P : Int))))
          have HO5 := hide (Own.put (j := j) (d := o + P) (x := (o : Int) + (P : Int)) HO4.out (by omega) hp1)
          rw [HP2.out] at HO5
          have HB5 := hide (HB4w.out.setCell (p := ⟨w.heap.size, j, none⟩) (Nat.le_refl _) (.int .u64 ((o : Int) + (P : Int)))).drew
          clear HO4 HD4 HB4w HB4r HBwr HP2
          go_wp2_with fail
          go_roundw
          case rel => exact ⟨i, by omega, rfl, HD5, from_mono HF4.out hz, HO5, HB5⟩
          case measure => simp [intOf]
        · obtain ⟨hm1, hm2⟩ := HBit.out.2 (by omega)
          have HBw := hide (HBl.out.trans (HX1.out.mono HBl.out.size))
          have HCmp : Hid (Calls Try.prog 69 #[.slice p2 l2 c2, vb] w2 fun e w' => e = .returned (.int .i64 (-1)) ∧ ∃ q, w' = w2.drewN q) := by
            rw [← cmpN_lt (show S < B by omega)]; exact cmpDigits_any _ _ S B w2 HD1.out (HB.out.below HBw.out) HSd.out
          have HO := hide HOwn.out
          rw [← hm2] at HO
          rw [← hm1] at HD1
          refine HCmp.out.mono ?_
          rintro e w3 ⟨rfl, q3, hq3⟩
          have HB3 : Hid (Below w2.heap.size w2 w3) := by rw [hq3]; exact below_drewN (Below.refl _ _) _
          have HB3w := hide (HBw.out.trans (HB3.out.mono HBw.out.size))
          have HD3 := hide (HD1.out.below HB3.out)
          have HO3 := hide (own_below2 HO.out hz ((HX1.out.trans (HB3.out.mono HX1.out.size))))
          clear hm1 hm2 hq3 HCmp HO HOwn HB3 HBw
          go_wp2_with fail
          go_roundw
          case rel => exact ⟨i, by omega, rfl, HD3, from_mono HF1.out (by omega), HO3, HB3w⟩
          case measure => simp [intOf]
theorem divDigits_any (v vb : Value) (A B : Nat) (w : World) (hA : DN w v A) (hB : DN w vb B) (hA0 : A ≠ 0) (hB0 : 0 < B) (ha : nd A ≤ 10000) (hb : nd B ≤ 10000) :
    Calls Try.prog 72 #[v, vb] w fun e w' => ∃ q r, e = .returned (.tuple #[q, r]) ∧ DN w' q (A / B) ∧ DN w' r (A % B) ∧ From w.heap.size q ∧ From w.heap.size r ∧ Below w.heap.size w w' := by
  rcases hA with ⟨h0, _⟩ | ⟨h0, g, c, rfl, hc, hg, hr⟩
  · exact absurd h0 hA0
  · exact divDigits_row g c (nd A) (bl A) A B vb w hr hg h0 rfl hc rfl (bl_nd2 A) hB hB0 ha hb
end Go.Proofs.Ytbkmbdbjeiffpaa
