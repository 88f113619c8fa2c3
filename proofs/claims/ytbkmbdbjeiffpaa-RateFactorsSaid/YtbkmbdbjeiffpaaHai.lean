/- The contracts of shiftNear, near and Join: the nearest number. The contract of Split. -/
import Derived.Test.YtbkmbdbjeiffpaaHaf
import Derived.Test.YtbkmbdbjeiffpaaHab
namespace Go.Proofs.Ytbkmbdbjeiffpaa
open Go.RowKit

theorem and1_u64 {E : Int} (h0 : 0 ≤ E) (h1 : E ≤ 18446744073709551615) : bits .and .u64 E 1 = E % 2 := and_one_u64 E h0 h1

/-- What shiftNear reckons, as the walk spells it. -/
def upOne (kept lost : Int) : Int := if 9223372036854775808 < lost ∨ (lost = 9223372036854775808 ∧ kept % 2 = 1) then kept + 1 else kept

set_option maxHeartbeats 400000 in
theorem shiftNear_core (u drop kept lost : Int) (w : World) (hd0 : 1 ≤ drop) (hd : drop ≤ 64) (hk0 : 0 ≤ kept) (hk1 : kept < 9223372036854775808)
    (hk : u / 2 ^ drop.toNat = kept) (hl : IntKind.u64.wrap (u * 2 ^ (64 - drop).toNat) = lost) :
    Calls Try.prog 101 #[.int .u64 u, .int .i64 drop] w fun e w' => e = .returned (.int .u64 (upOne kept lost)) ∧ ∃ n, w' = w.drewN n := by
  have ha : bits .and .u64 kept 1 = kept % 2 := and1_u64 hk0 (by omega)
  rcases Int.lt_trichotomy lost 9223372036854775808 with h1 | h1 | h1
  · rw [show upOne kept lost = kept by unfold upOne; rw [if_neg (by omega)]]
    go_enter Try.func101, Try.ntmps101
    go_wp2
    go_quiet (fail)
    go_wp2
    go_ret
    exact ⟨rfl, _, rfl⟩
  · by_cases h2 : kept % 2 = 1
    · rw [show upOne kept lost = kept + 1 by unfold upOne; rw [if_pos (by omega)]]
      have h3 : (kept % 2 == 1) = true := by simpa using h2
      clear h2
      go_enter Try.func101, Try.ntmps101
      go_wp2
      go_quiet (fail)
      go_wp2
      go_ret
      exact ⟨rfl, _, rfl⟩
    · rw [show upOne kept lost = kept by unfold upOne; rw [if_neg (by omega)]]
      have h3 : (kept % 2 == 1) = false := by simpa using h2
      clear h2
      go_enter Try.func101, Try.ntmps101
      go_wp2
      go_quiet (fail)
      go_wp2
      go_ret
      exact ⟨rfl, _, rfl⟩
  · rw [show upOne kept lost = kept + 1 by unfold upOne; rw [if_pos (by omega)]]
    go_enter Try.func101, Try.ntmps101
    go_wp2
    go_quiet (fail)
    go_wp2
    go_ret
    exact ⟨rfl, _, rfl⟩

theorem lost_eq {u d : Nat} (hd : d ≤ 64) : IntKind.u64.wrap ((u : Int) * 2 ^ (64 - (d : Int)).toNat) = ((u % 2 ^ d * 2 ^ (64 - d) : Nat) : Int) := by
  rw [IntKind.wrap_u64, show (64 - (d : Int)).toNat = 64 - d by omega]
  have e : ((u : Int) * 2 ^ (64 - d)) = ((u * 2 ^ (64 - d) : Nat) : Int) := by rw [Int.natCast_mul, Int.natCast_pow]; rfl
  rw [e]
  have h64 : (18446744073709551616 : Nat) = 2 ^ d * 2 ^ (64 - d) := by rw [← Nat.pow_add, show d + (64 - d) = 64 by omega]
  rw [show (18446744073709551616 : Int) = ((2 ^ d * 2 ^ (64 - d) : Nat) : Int) by rw [← h64]; rfl, ← Int.natCast_emod, Nat.mul_mod_mul_right]
theorem kept_eq {u d : Nat} : (u : Int) / 2 ^ ((d : Int)).toNat = ((u / 2 ^ d : Nat) : Int) := by
  rw [Int.toNat_natCast, Int.natCast_ediv, Int.natCast_pow]; rfl
theorem upOne_rne {u d : Nat} (hd : d ≤ 64) (hd0 : 1 ≤ d) : upOne ((u / 2 ^ d : Nat) : Int) ((u % 2 ^ d * 2 ^ (64 - d) : Nat) : Int) = (rne u d : Int) := by
  unfold upOne rne
  have hp : 0 < 2 ^ (64 - d) := Nat.two_pow_pos _
  have h63 : (9223372036854775808 : Nat) * 2 = 2 ^ d * 2 ^ (64 - d) := by rw [← Nat.pow_add, show d + (64 - d) = 64 by omega]
  have f1 : (9223372036854775808 : Int) < ((u % 2 ^ d * 2 ^ (64 - d) : Nat) : Int) ↔ 2 ^ d < 2 * (u % 2 ^ d) := by
    rw [← Nat.mul_lt_mul_right hp, Nat.mul_assoc]; omega
  have f2 : ((u % 2 ^ d * 2 ^ (64 - d) : Nat) : Int) = (9223372036854775808 : Int) ↔ 2 ^ d = 2 * (u % 2 ^ d) := by
    constructor
    · intro h; apply Nat.eq_of_mul_eq_mul_right hp; rw [Nat.mul_assoc]; omega
    · intro h
      have : 2 ^ d * 2 ^ (64 - d) = 2 * (u % 2 ^ d) * 2 ^ (64 - d) := congrArg (· * 2 ^ (64 - d)) h
      rw [Nat.mul_assoc] at this; omega
  have f3 : ((u / 2 ^ d : Nat) : Int) % 2 = 1 ↔ u / 2 ^ d % 2 = 1 := by omega
  simp only [f1, f2, f3]
  split <;> omega

theorem shiftNear_any (u d : Nat) (w : World) (h : u < 18446744073709551616) (hd0 : 1 ≤ d) (hd : d ≤ 64) :
    Calls Try.prog 101 #[.int .u64 u, .int .i64 d] w fun e w' => e = .returned (.int .u64 (rne u d)) ∧ ∃ n, w' = w.drewN n := by
  rw [← upOne_rne hd hd0]
  refine shiftNear_core u d _ _ w (by omega) (by omega) (Int.natCast_nonneg _) ?_ kept_eq (lost_eq hd)
  have : u / 2 ^ d ≤ u / 2 ^ 1 := Nat.div_le_div_left (Nat.pow_le_pow_right (by decide) hd0) (by decide)
  omega

set_option maxHeartbeats 400000 in
theorem shiftNear_far (u drop : Int) (w : World) (hd : 64 < drop) :
    Calls Try.prog 101 #[.int .u64 u, .int .i64 drop] w fun e w' => e = .returned (.int .u64 0) ∧ ∃ n, w' = w.drewN n := by
  go_enter Try.func101, Try.ntmps101
  go_wp2
  go_ret
  exact ⟨rfl, 0, rfl⟩

/-- shiftNear, whatever is dropped. -/
theorem shiftNear_all (u drop : Int) (v : Nat) (w : World) (h0 : 0 ≤ u) (h : u < 18446744073709551616) (hd0 : 1 ≤ drop) (hv : Hid (v = rne u.toNat drop.toNat)) :
    Calls Try.prog 101 #[.int .u64 u, .int .i64 drop] w fun e w' => e = .returned (.int .u64 v) ∧ ∃ n, w' = w.drewN n := by
  rw [hv.out]
  obtain ⟨a, rfl⟩ := Int.eq_ofNat_of_zero_le h0
  obtain ⟨d, rfl⟩ := Int.eq_ofNat_of_zero_le (show 0 ≤ drop by omega)
  rw [Int.toNat_natCast, Int.toNat_natCast]
  by_cases hd : d ≤ 64
  · exact shiftNear_any a d w (by omega) (by omega) hd
  · have e : rne a d = 0 := rne_small (by
      have : (2 : Nat) ^ 65 ≤ 2 ^ d := Nat.pow_le_pow_right (by decide) (by omega)
      omega)
    rw [e]; exact shiftNear_far a d w (by omega)

theorem shiftNear_11 (s q : Int) (w : World) (h0 : 0 ≤ s) (h : s < 18446744073709551616) (hq : Hid ((rne s.toNat 11 : Int) = q)) :
    Calls Try.prog 101 #[.int .u64 s, .int .i64 11] w fun e w' => e = .returned (.int .u64 q) ∧ ∃ n, w' = w.drewN n := by
  rw [← hq.out]; exact shiftNear_all s 11 (rne s.toNat 11) w h0 h (by omega) rfl

set_option maxHeartbeats 400000 in
theorem near_inf (u e : Int) (w : World) (h : 1023 < e) :
    Calls Try.prog 96 #[.int .u64 u, .int .i64 e] w fun x w' => x = .returned (.int .u64 9218868437227405312) ∧ ∃ n, w' = w.drewN n := by
  go_enter Try.func96, Try.ntmps96
  go_wp2_with fail
  go_ret
  exact ⟨rfl, 0, rfl⟩

set_option maxHeartbeats 400000 in
theorem near_nil (u e : Int) (w : World) (h : e < -1139) :
    Calls Try.prog 96 #[.int .u64 u, .int .i64 e] w fun x w' => x = .returned (.int .u64 0) ∧ ∃ n, w' = w.drewN n := by
  go_enter Try.func96, Try.ntmps96
  go_wp2_with fail
  go_ret
  exact ⟨rfl, 0, rfl⟩

set_option maxHeartbeats 400000 in
theorem near_mid (u e ld s : Int) (v : Nat) (w : World) (h0 : 0 ≤ u) (h1 : u ≤ 18446744073709551615) (he : e ≤ 1023) (he' : -1139 ≤ e) (hl0 : 0 ≤ ld) (hl1 : ld ≤ 63)
    (hl : Hid (64 - (Lib.bitLen u.toNat : Int) = ld)) (hs : IntKind.u64.wrap (u * 2 ^ ld.toNat) = s) (hs0 : 0 ≤ s) (hs1 : s < 18446744073709551616)
    (hv : Hid (e + 63 - ld ≤ 1023 → v = if e + 63 - ld < -1022 then rne s.toNat (-1074 - e + ld).toNat else (e + 63 - ld + 1022).toNat * 4503599627370496 + rne s.toNat 11))
    (hv' : Hid (1023 < e + 63 - ld → v = 9218868437227405312)) :
    Calls Try.prog 96 #[.int .u64 u, .int .i64 e] w fun x w' => x = .returned (.int .u64 v) ∧ ∃ n, w' = w.drewN n := by
  by_cases ht : 1023 < e + 63 - ld
  · rw [hv'.out ht]
    go_enter Try.func96, Try.ntmps96
    go_wp2_with (go_at_call 100; refine (lead_at _ ld _ h0 h1 hl).mono ?_; rintro x w' ⟨rfl, rfl⟩)
    go_ret
    exact ⟨rfl, 0, rfl⟩
  · by_cases ht2 : e + 63 - ld < -1022
    · have e1 := hv.out (by omega)
      rw [if_pos ht2] at e1
      have HE : Hid (v = rne s.toNat (-1011 - (e + 63 - ld)).toNat) := by
        show _ = _; rw [e1, show (-1074 - e + ld).toNat = (-1011 - (e + 63 - ld)).toNat by omega]
      clear e1
      go_enter Try.func96, Try.ntmps96
      go_wp2_with (go_at_call 100; refine (lead_at _ ld _ h0 h1 hl).mono ?_; rintro x w' ⟨rfl, rfl⟩)
      refine (shiftNear_all _ _ v _ hs0 hs1 (by omega) HE).mono ?_
      rintro x w' ⟨rfl, nq, rfl⟩
      go_wp2_with fail
      go_ret
      exact ⟨rfl, _, rfl⟩
    · have e1 := hv.out (by omega)
      rw [if_neg ht2] at e1
      have HE : Hid ((v : Int) = (e + 63 - ld + 1022) * 4503599627370496 + (rne s.toNat 11 : Int)) := by show _ = _; rw [e1]; omega
      have HB : (rne s.toNat 11 : Int) ≤ 9007199254740992 := by
        have := rne_bd (n := s.toNat) (d := 11) (c := 9007199254740992) (by omega)
        omega
      have HB0 : 0 ≤ (rne s.toNat 11 : Int) := by omega
      clear e1
      rw [HE.out]
      generalize hq : (rne s.toNat 11 : Int) = q at HB HB0
      have HQ : Hid ((rne s.toNat 11 : Int) = q) := hq
      clear hq
      go_enter Try.func96, Try.ntmps96
      go_wp2_with (first | (go_at_call 100; refine (lead_at _ ld _ h0 h1 hl).mono ?_; rintro x w' ⟨rfl, rfl⟩) | (go_at_call 101; refine (shiftNear_11 _ q _ hs0 hs1 HQ).mono ?_; rintro x w' ⟨rfl, nq, rfl⟩))
      go_ret
      exact ⟨rfl, _, rfl⟩


theorem near_any (u : Nat) (e : Int) (w : World) (h0 : u ≠ 0) (h : u < 18446744073709551616) :
    Calls Try.prog 96 #[.int .u64 u, .int .i64 e] w fun x w' => x = .returned (.int .u64 (nearR u e)) ∧ ∃ n, w' = w.drewN n := by
  have hl : u.log2 < 64 := (Nat.log2_lt h0).2 h
  by_cases h1 : 1023 < e
  · rw [nearR_big h0 (by omega)]; exact near_inf u e w h1
  by_cases h2 : e < -1139
  · rw [nearR_small h h2]; exact near_nil u e w h2
  have ht := top_lt h0 h
  refine near_mid u e (63 - u.log2 : Int) ((u * 2 ^ (63 - u.log2) : Nat) : Int) (nearR u e) w (by omega) (by omega) (by omega) (by omega) (by omega) (by omega) ?_ ?_ (Int.natCast_nonneg _) (by omega) ?_ ?_
  · show _ = _
    rw [Int.toNat_natCast, bitLen_log2 h0 h]; omega
  · rw [IntKind.wrap_u64, show ((63 : Int) - (u.log2 : Int)).toNat = 63 - u.log2 by omega]
    have e1 : ((u : Int) * 2 ^ (63 - u.log2)) = ((u * 2 ^ (63 - u.log2) : Nat) : Int) := by rw [Int.natCast_mul, Int.natCast_pow]; rfl
    rw [e1]; omega
  · intro h3
    rw [Int.toNat_natCast]
    by_cases h4 : e + 63 - (63 - (u.log2 : Int)) < -1022
    · rw [if_pos h4, nearR_sub h0 h (by omega), show (-1074 - e + (63 - (u.log2 : Int))).toNat = (-1011 - e - (u.log2 : Int)).toNat by omega]
    · rw [if_neg h4, nearR_normal h0 h (by omega) (by omega), show (e + 63 - (63 - (u.log2 : Int)) + 1022).toNat = (e + u.log2 + 1022).toNat by omega]
  · intro h3
    exact nearR_big h0 (by omega)

theorem near_as (u e q : Int) (w : World) (h0 : 0 < u) (h : u < 18446744073709551616) (hq : Hid ((nearR u.toNat e : Int) = q)) :
    Calls Try.prog 96 #[.int .u64 u, .int .i64 e] w fun x w' => x = .returned (.int .u64 q) ∧ ∃ n, w' = w.drewN n := by
  rw [← hq.out]
  obtain ⟨a, rfl⟩ := Int.eq_ofNat_of_zero_le (show 0 ≤ u by omega)
  rw [Int.toNat_natCast]
  exact near_any a e w (by omega) (by omega)
theorem nearR_le (u : Nat) (e : Int) : nearR u e ≤ 9218868437227405312 := Nat.min_le_right _ _

/-- What Join tells, as bits. -/
def joinN (m e : Int) : Nat := if m = 0 then 0 else if m < 0 then 9223372036854775808 + nearR m.natAbs e else nearR m.natAbs e

set_option maxHeartbeats 400000 in
theorem join_zero (e : Int) (w : World) :
    Calls Try.prog 82 #[.int .i64 0, .int .i64 e] w fun x w' => x = .returned (.float .f64 0) ∧ ∃ n, w' = w.drewN n := by
  go_enter Try.func82, Try.ntmps82
  go_wp2_with fail
  go_ret
  exact ⟨rfl, 0, rfl⟩

set_option maxHeartbeats 400000 in
theorem join_pos (m e q : Int) (w : World) (h0 : 0 < m) (h : m ≤ 9223372036854775807) (hq : Hid ((nearR m.toNat e : Int) = q)) :
    Calls Try.prog 82 #[.int .i64 m, .int .i64 e] w fun x w' => x = .returned (.float .f64 q.toNat) ∧ ∃ n, w' = w.drewN n := by
  have hm : (m == 0) = false := by simp; omega
  have hm' : decide (m < 0) = false := by simp; omega
  go_enter Try.func82, Try.ntmps82
  go_wp2_with (first | (go_at_call 96; refine (near_as _ _ q _ h0 (by omega) hq).mono ?_; rintro x w' ⟨rfl, nq, rfl⟩) | (go_at_call 95; refine (withSign_pos _ _).mono ?_; rintro x w' ⟨rfl, rfl⟩))
  go_ret
  exact ⟨rfl, _, rfl⟩

set_option maxHeartbeats 400000 in
theorem join_neg (m a e q : Int) (w : World) (h0 : m < 0) (h : -9223372036854775808 ≤ m) (hq : Hid ((nearR a.toNat e : Int) = q)) (ha : IntKind.u64.wrap (-IntKind.u64.wrap m) = a) (ha0 : 0 < a) (ha1 : a < 18446744073709551616) (hq0 : 0 ≤ q) (hq1 : q < 9223372036854775808) :
    Calls Try.prog 82 #[.int .i64 m, .int .i64 e] w fun x w' => x = .returned (.float .f64 (9223372036854775808 + q).toNat) ∧ ∃ n, w' = w.drewN n := by
  have hm : (m == 0) = false := by simp; omega
  go_enter Try.func82, Try.ntmps82
  go_wp2_with (first | (go_at_call 96; refine (near_as _ _ q _ ha0 ha1 hq).mono ?_; rintro x w' ⟨rfl, nq, rfl⟩) | (go_at_call 95; refine (withSign_neg _ _ hq0 hq1).mono ?_; rintro x w' ⟨rfl, rfl⟩))
  go_ret
  exact ⟨rfl, _, rfl⟩

theorem join_any (m e : Int) (w : World) (h0 : -9223372036854775808 ≤ m) (h1 : m ≤ 9223372036854775807) :
    Calls Try.prog 82 #[.int .i64 m, .int .i64 e] w fun x w' => x = .returned (.float .f64 (joinN m e)) ∧ ∃ n, w' = w.drewN n := by
  unfold joinN
  by_cases hz : m = 0
  · subst hz; rw [if_pos rfl]; exact join_zero e w
  rw [if_neg hz]
  by_cases hn : m < 0
  · rw [if_pos hn]
    have hb := nearR_le m.natAbs e
    have := join_neg m (-m) e (nearR m.natAbs e) w hn h0 (by show _ = _; rw [show (-m).toNat = m.natAbs by omega]) (by rw [IntKind.wrap_u64, IntKind.wrap_u64]; omega) (by omega) (by omega) (Int.natCast_nonneg _) (by omega)
    rw [show (9223372036854775808 + (nearR m.natAbs e : Int)).toNat = 9223372036854775808 + nearR m.natAbs e by omega] at this
    exact this
  · rw [if_neg hn]
    have := join_pos m e (nearR m.natAbs e) w (by omega) h1 (by show _ = _; rw [show m.toNat = m.natAbs by omega])
    rw [Int.toNat_natCast] at this
    exact this
end Go.Proofs.Ytbkmbdbjeiffpaa
namespace Go.Proofs.Ytbkmbdbjeiffpaa
open Go.RowKit

theorem and_mask52 {z : Int} (h0 : 0 ≤ z) (h : z < 18446744073709551616) : bits .and .u64 z 4503599627370495 = z % 4503599627370496 := by
  obtain ⟨b, rfl⟩ := Int.eq_ofNat_of_zero_le h0
  have := bits_and_u64_nat b 4503599627370495 (by omega) (by decide)
  rw [show ((4503599627370495 : Nat) : Int) = 4503599627370495 from rfl] at this
  rw [this]
  have e := Nat.and_two_pow_sub_one_eq_mod b 52
  rw [show (2 : Nat) ^ 52 - 1 = 4503599627370495 from rfl, show (2 : Nat) ^ 52 = 4503599627370496 from rfl] at e
  rw [e]; omega
theorem or_hidden {z : Int} (h0 : 0 ≤ z) (h : z < 4503599627370496) : bits .or .u64 z 4503599627370496 = 4503599627370496 + z := by
  obtain ⟨b, rfl⟩ := Int.eq_ofNat_of_zero_le h0
  have := bits_or_u64_nat b 4503599627370496 (by omega) (by decide)
  rw [show ((4503599627370496 : Nat) : Int) = 4503599627370496 from rfl] at this
  rw [this]
  have h2 := Nat.two_pow_add_eq_or_of_lt (i := 52) (b := b) (by omega) 1
  rw [Nat.or_comm, show (4503599627370496 : Nat) = 2 ^ 52 * 1 from rfl, ← h2]
  omega

/-- The parts, by the rung. -/
def magI (z : Int) : Int := if z < 4503599627370496 then z else 4503599627370496 + z % 4503599627370496
def plcI (z : Int) : Int := if z < 4503599627370496 then -1074 else z / 4503599627370496 - 1075
def splOk (u : Int) : Bool := decide (szI u < 9218868437227405312)
def splM (u : Int) : Int := if splOk u then (if sgB u then -magI (szI u) else magI (szI u)) else 0
def splE (u : Int) : Int := if splOk u && decide (szI u ≠ 0) then plcI (szI u) else 0

theorem ret3 {a b c d : Int} {x : Bool} (h : a = c) (h' : b = d) : Ending.returned (.tuple #[.int .i64 a, .int .i64 b, .bool x]) = .returned (.tuple #[.int .i64 c, .int .i64 d, .bool x]) := by rw [h, h']

set_option maxHeartbeats 400000 in
theorem split_no (b : Nat) (u : Int) (w : World) (hu : Hid (u = b)) (h : U64 u) (h1 : 9218868437227405312 ≤ szI u) :
    Calls Try.prog 81 #[.float .f64 b] w fun e w' => e = .returned (.tuple #[.int .i64 0, .int .i64 0, .bool false]) ∧ w' = w := by
  go_enter Try.func81, Try.ntmps81
  go_wp2_with (go_at_call 93; refine (size_as _ _ _ hu h).mono ?_; rintro e w' ⟨rfl, rfl⟩)
  go_ret3
  exact ⟨rfl, rfl⟩

set_option maxHeartbeats 400000 in
theorem split_zero (b : Nat) (u : Int) (w : World) (hu : Hid (u = b)) (h : U64 u) (h1 : szI u = 0) :
    Calls Try.prog 81 #[.float .f64 b] w fun e w' => e = .returned (.tuple #[.int .i64 0, .int .i64 0, .bool true]) ∧ w' = w := by
  go_enter Try.func81, Try.ntmps81
  go_wp2_with (go_at_call 93; refine (size_as _ _ _ hu h).mono ?_; rintro e w' ⟨rfl, rfl⟩)
  go_ret3
  exact ⟨rfl, rfl⟩

set_option maxHeartbeats 400000 in
theorem split_sub (b : Nat) (u : Int) (w : World) (hu : Hid (u = b)) (h : U64 u) (h1 : 0 < szI u) (h2 : szI u < 4503599627370496) :
    Calls Try.prog 81 #[.float .f64 b] w fun e w' => e = .returned (.tuple #[.int .i64 (if sgB u then -szI u else szI u), .int .i64 (-1074), .bool true]) ∧ w' = w := by
  cases hs : sgB u
  all_goals
    simp only [Bool.false_eq_true, if_true, if_false]
    go_enter Try.func81, Try.ntmps81
    go_wp2_with (first | (go_at_call 93; refine (size_as _ _ _ hu h).mono ?_; rintro e w' ⟨rfl, rfl⟩) | (go_at_call 94; refine (signed_as _ _ _ hu h).mono ?_; rintro e w' ⟨rfl, rfl⟩))
    go_ret3
    exact ⟨rfl, rfl⟩

set_option maxHeartbeats 400000 in
theorem split_normal (b : Nat) (u m : Int) (w : World) (hu : Hid (u = b)) (h : U64 u) (h1 : 4503599627370496 ≤ szI u) (h2 : szI u < 9218868437227405312)
    (hm : bits .or .u64 (bits .and .u64 (szI u) 4503599627370495) 4503599627370496 = m) (hm0 : 4503599627370496 ≤ m) (hm1 : m < 9007199254740992) :
    Calls Try.prog 81 #[.float .f64 b] w fun e w' => e = .returned (.tuple #[.int .i64 (if sgB u then -m else m), .int .i64 (szI u / 4503599627370496 - 1 + -1074), .bool true]) ∧ w' = w := by
  cases hs : sgB u
  all_goals
    simp only [Bool.false_eq_true, if_true, if_false]
    go_enter Try.func81, Try.ntmps81
    go_wp2_with (first | (go_at_call 93; refine (size_as _ _ _ hu h).mono ?_; rintro e w' ⟨rfl, rfl⟩) | (go_at_call 94; refine (signed_as _ _ _ hu h).mono ?_; rintro e w' ⟨rfl, rfl⟩))
    go_ret3
    exact ⟨rfl, rfl⟩

theorem split_as (b : Nat) (u : Int) (w : World) (hu : Hid (u = b)) (h : U64 u) :
    Calls Try.prog 81 #[.float .f64 b] w fun e w' => e = .returned (.tuple #[.int .i64 (splM u), .int .i64 (splE u), .bool (splOk u)]) ∧ w' = w := by
  have hlo := szI_lo u
  have hhi := szI_hi u
  by_cases h1 : szI u < 9218868437227405312
  · have e1 : splOk u = true := by simp [splOk, h1]
    by_cases h2 : szI u = 0
    · have e2 : splM u = 0 := by unfold splM magI; rw [h2]; simp
      have e3 : splE u = 0 := by unfold splE; rw [h2]; simp
      rw [e1, e2, e3]; exact split_zero b u w hu h h2
    · by_cases h3 : szI u < 4503599627370496
      · have e2 : splM u = if sgB u then -szI u else szI u := by unfold splM magI; rw [e1, if_pos h3]; rfl
        have e3 : splE u = -1074 := by unfold splE plcI; simp [e1, h2, h3]
        rw [e1, e2, e3]; exact split_sub b u w hu h (by omega) h3
      · have e2 : splM u = if sgB u then -(4503599627370496 + szI u % 4503599627370496) else 4503599627370496 + szI u % 4503599627370496 := by unfold splM magI; rw [e1, if_neg h3]; rfl
        have e3 : splE u = szI u / 4503599627370496 - 1 + -1074 := by unfold splE plcI; simp [e1, h2, h3]; omega
        rw [e1, e2, e3]
        exact split_normal b u _ w hu h (by omega) h1 (by rw [and_mask52 hlo (by omega), or_hidden (by omega) (by omega)]) (by omega) (by omega)
  · have e1 : splOk u = false := by simp [splOk, h1]
    have e2 : splM u = 0 := by simp [splM, e1]
    have e3 : splE u = 0 := by simp [splE, e1]
    rw [e1, e2, e3]; exact split_no b u w hu h (by omega)
end Go.Proofs.Ytbkmbdbjeiffpaa
