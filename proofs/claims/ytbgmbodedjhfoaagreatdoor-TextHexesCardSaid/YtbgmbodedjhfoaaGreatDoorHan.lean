/- The closed look of every statement of this layer: the document's fixed answers. The contracts of shiftNear, near and Join: the nearest number. The contract of Split. A great whole number rounded by its leading bits: what is behind them counts but as one bit. Sums of floats, by whole numbers; whole numbers as floats. Products of floats, by whole numbers; rounding keeps order. Exact products: whole numbers, and powers of 2. Contracts of the document's digits: trim, Digits, Len, digit. -/
import Derived.Test.YtbgmbodedjhfoaaGreatDoorHaj
import Derived.Test.YtbgmbodedjhfoaaGreatDoorShelf
import Derived.BigQuiet
import Derived.Test.YtbgmbodedjhfoaaGreatDoorHad
import Derived.LoopTactic
namespace Go.Proofs.YtbgmbodedjhfoaaGreatDoor
open Go.RowKit

theorem lead_at (x : Int) (k : Int) (w : World) (h0 : 0 ≤ x) (h1 : x ≤ 18446744073709551615) (hk : Hid (64 - (Lib.bitLen x.toNat : Int) = k)) :
    Calls Tryz.prog 65 #[.int .u64 x] w fun e w' => e = .returned (.int .i64 k) ∧ w' = w := by
  rw [← hk.out]; exact Tryz.bits_LeadingZeros64 x w h0 h1

end Go.Proofs.YtbgmbodedjhfoaaGreatDoor
namespace Go.Proofs.YtbgmbodedjhfoaaGreatDoor
open Go.RowKit

theorem and1_u64 {E : Int} (h0 : 0 ≤ E) (h1 : E ≤ 18446744073709551615) : bits .and .u64 E 1 = E % 2 := and_one_u64 E h0 h1

def upOne (kept lost : Int) : Int := if 9223372036854775808 < lost ∨ (lost = 9223372036854775808 ∧ kept % 2 = 1) then kept + 1 else kept

set_option maxHeartbeats 400000 in
theorem shiftNear_core (u drop kept lost : Int) (w : World) (hd0 : 1 ≤ drop) (hd : drop ≤ 64) (hk0 : 0 ≤ kept) (hk1 : kept < 9223372036854775808)
    (hk : u / 2 ^ drop.toNat = kept) (hl : IntKind.u64.wrap (u * 2 ^ (64 - drop).toNat) = lost) :
    Calls Tryz.prog 66 #[.int .u64 u, .int .i64 drop] w fun e w' => e = .returned (.int .u64 (upOne kept lost)) ∧ ∃ n, w' = w.drewN n := by
  have ha : bits .and .u64 kept 1 = kept % 2 := and1_u64 hk0 (by omega)
  rcases Int.lt_trichotomy lost 9223372036854775808 with h1 | h1 | h1
  · rw [show upOne kept lost = kept by unfold upOne; rw [if_neg (by omega)]]
    go_enter Tryz.func66, Tryz.ntmps66
    go_wp2
    go_quiet (fail)
    go_wp2
    go_ret
    exact ⟨rfl, _, rfl⟩
  · by_cases h2 : kept % 2 = 1
    · rw [show upOne kept lost = kept + 1 by unfold upOne; rw [if_pos (by omega)]]
      have h3 : (kept % 2 == 1) = true := by simpa using h2
      clear h2
      go_enter Tryz.func66, Tryz.ntmps66
      go_wp2
      go_quiet (fail)
      go_wp2
      go_ret
      exact ⟨rfl, _, rfl⟩
    · rw [show upOne kept lost = kept by unfold upOne; rw [if_neg (by omega)]]
      have h3 : (kept % 2 == 1) = false := by simpa using h2
      clear h2
      go_enter Tryz.func66, Tryz.ntmps66
      go_wp2
      go_quiet (fail)
      go_wp2
      go_ret
      exact ⟨rfl, _, rfl⟩
  · rw [show upOne kept lost = kept + 1 by unfold upOne; rw [if_pos (by omega)]]
    go_enter Tryz.func66, Tryz.ntmps66
    go_wp2
    go_quiet (fail)
    go_wp2
    go_ret
    exact ⟨rfl, _, rfl⟩

theorem lost_eq {u d : Nat} (hd : d ≤ 64) : IntKind.u64.wrap ((u : Int) * 2 ^ (64 - (d : Int)).toNat) = ((u % 2 ^ d * 2 ^ (64 - d) : Nat) : Int) := by
  rw [IntKind.wrap_u64, show (64 - (d : Int)).toNat = 64 - d by omega]
  have e : ((u : Int) * 2 ^ (64 - d)) = ((u * 2 ^ (64 - d) : Nat) : Int) := by rw [Int.natCast_mul, Int.natCast_pow]; rfl
  rw [e]
  have h64 : (18446744073709551616 : Nat) = 2 ^ d * 2 ^ (64 - d) := by rw [← Nat.pow_add, show d + (64 - d) = 64 by omega]
  rw [show (18446744073709551616 : Int) = ((2 ^ d * 2 ^ (64 - d) : Nat) : Int) by rw [← h64]; rfl, ← Int.natCast_emod, Nat.mul_mod_mul_right]
theorem kept_eq {u d : Nat} : (u : Int) / 2 ^ ((d : Int)).toNat = ((u / 2 ^ d : Nat) : Int) := by
  rw [Int.toNat_natCast, Int.natCast_ediv, Int.natCast_pow]; rfl
theorem upOne_rne {u d : Nat} (hd : d ≤ 64) (hd0 : 1 ≤ d) : upOne ((u / 2 ^ d : Nat) : Int) ((u % 2 ^ d * 2 ^ (64 - d) : Nat) : Int) = (rne u d : Int) := by
  unfold upOne rne
  have hp : 0 < 2 ^ (64 - d) := Nat.two_pow_pos _
  have h63 : (9223372036854775808 : Nat) * 2 = 2 ^ d * 2 ^ (64 - d) := by rw [← Nat.pow_add, show d + (64 - d) = 64 by omega]
  have f1 : (9223372036854775808 : Int) < ((u % 2 ^ d * 2 ^ (64 - d) : Nat) : Int) ↔ 2 ^ d < 2 * (u % 2 ^ d) := by
    rw [← Nat.mul_lt_mul_right hp, Nat.mul_assoc]; omega
  have f2 : ((u % 2 ^ d * 2 ^ (64 - d) : Nat) : Int) = (9223372036854775808 : Int) ↔ 2 ^ d = 2 * (u % 2 ^ d) := by
    constructor
    · intro h; apply Nat.eq_of_mul_eq_mul_right hp; rw [Nat.mul_assoc]; omega
    · intro h
      have : 2 ^ d * 2 ^ (64 - d) = 2 * (u % 2 ^ d) * 2 ^ (64 - d) := congrArg (· * 2 ^ (64 - d)) h
      rw [Nat.mul_assoc] at this; omega
  have f3 : ((u / 2 ^ d : Nat) : Int) % 2 = 1 ↔ u / 2 ^ d % 2 = 1 := by omega
  simp only [f1, f2, f3]
  split <;> omega

theorem shiftNear_any (u d : Nat) (w : World) (h : u < 18446744073709551616) (hd0 : 1 ≤ d) (hd : d ≤ 64) :
    Calls Tryz.prog 66 #[.int .u64 u, .int .i64 d] w fun e w' => e = .returned (.int .u64 (rne u d)) ∧ ∃ n, w' = w.drewN n := by
  rw [← upOne_rne hd hd0]
  refine shiftNear_core u d _ _ w (by omega) (by omega) (Int.natCast_nonneg _) ?_ kept_eq (lost_eq hd)
  have : u / 2 ^ d ≤ u / 2 ^ 1 := Nat.div_le_div_left (Nat.pow_le_pow_right (by decide) hd0) (by decide)
  omega

set_option maxHeartbeats 400000 in
theorem shiftNear_far (u drop : Int) (w : World) (hd : 64 < drop) :
    Calls Tryz.prog 66 #[.int .u64 u, .int .i64 drop] w fun e w' => e = .returned (.int .u64 0) ∧ ∃ n, w' = w.drewN n := by
  go_enter Tryz.func66, Tryz.ntmps66
  go_wp2
  go_ret
  exact ⟨rfl, 0, rfl⟩

theorem shiftNear_all (u drop : Int) (v : Nat) (w : World) (h0 : 0 ≤ u) (h : u < 18446744073709551616) (hd0 : 1 ≤ drop) (hv : Hid (v = rne u.toNat drop.toNat)) :
    Calls Tryz.prog 66 #[.int .u64 u, .int .i64 drop] w fun e w' => e = .returned (.int .u64 v) ∧ ∃ n, w' = w.drewN n := by
  rw [hv.out]
  obtain ⟨a, rfl⟩ := Int.eq_ofNat_of_zero_le h0
  obtain ⟨d, rfl⟩ := Int.eq_ofNat_of_zero_le (show 0 ≤ drop by omega)
  rw [Int.toNat_natCast, Int.toNat_natCast]
  by_cases hd : d ≤ 64
  · exact shiftNear_any a d w (by omega) (by omega) hd
  · have e : rne a d = 0 := rne_small (by
      have : (2 : Nat) ^ 65 ≤ 2 ^ d := Nat.pow_le_pow_right (by decide) (by omega)
      omega)
    rw [e]; exact shiftNear_far a d w (by omega)

theorem shiftNear_11 (s q : Int) (w : World) (h0 : 0 ≤ s) (h : s < 18446744073709551616) (hq : Hid ((rne s.toNat 11 : Int) = q)) :
    Calls Tryz.prog 66 #[.int .u64 s, .int .i64 11] w fun e w' => e = .returned (.int .u64 q) ∧ ∃ n, w' = w.drewN n := by
  rw [← hq.out]; exact shiftNear_all s 11 (rne s.toNat 11) w h0 h (by omega) rfl

set_option maxHeartbeats 400000 in
theorem near_inf (u e : Int) (w : World) (h : 1023 < e) :
    Calls Tryz.prog 46 #[.int .u64 u, .int .i64 e] w fun x w' => x = .returned (.int .u64 9218868437227405312) ∧ ∃ n, w' = w.drewN n := by
  go_enter Tryz.func46, Tryz.ntmps46
  go_wp2_with fail
  go_ret
  exact ⟨rfl, 0, rfl⟩

set_option maxHeartbeats 400000 in
theorem near_nil (u e : Int) (w : World) (h : e < -1139) :
    Calls Tryz.prog 46 #[.int .u64 u, .int .i64 e] w fun x w' => x = .returned (.int .u64 0) ∧ ∃ n, w' = w.drewN n := by
  go_enter Tryz.func46, Tryz.ntmps46
  go_wp2_with fail
  go_ret
  exact ⟨rfl, 0, rfl⟩

set_option maxHeartbeats 400000 in
theorem near_mid (u e ld s : Int) (v : Nat) (w : World) (h0 : 0 ≤ u) (h1 : u ≤ 18446744073709551615) (he : e ≤ 1023) (he' : -1139 ≤ e) (hl0 : 0 ≤ ld) (hl1 : ld ≤ 63)
    (hl : Hid (64 - (Lib.bitLen u.toNat : Int) = ld)) (hs : IntKind.u64.wrap (u * 2 ^ ld.toNat) = s) (hs0 : 0 ≤ s) (hs1 : s < 18446744073709551616)
    (hv : Hid (e + 63 - ld ≤ 1023 → v = if e + 63 - ld < -1022 then rne s.toNat (-1074 - e + ld).toNat else (e + 63 - ld + 1022).toNat * 4503599627370496 + rne s.toNat 11))
    (hv' : Hid (1023 < e + 63 - ld → v = 9218868437227405312)) :
    Calls Tryz.prog 46 #[.int .u64 u, .int .i64 e] w fun x w' => x = .returned (.int .u64 v) ∧ ∃ n, w' = w.drewN n := by
  by_cases ht : 1023 < e + 63 - ld
  · rw [hv'.out ht]
    go_enter Tryz.func46, Tryz.ntmps46
    go_wp2_with (go_at_call 65; refine (lead_at _ ld _ h0 h1 hl).mono ?_; rintro x w' ⟨rfl, rfl⟩)
    go_ret
    exact ⟨rfl, 0, rfl⟩
  · by_cases ht2 : e + 63 - ld < -1022
    · have e1 := hv.out (by omega)
      rw [if_pos ht2] at e1
      have HE : Hid (v = rne s.toNat (-1011 - (e + 63 - ld)).toNat) := by
        show _ = _; rw [e1, show (-1074 - e + ld).toNat = (-1011 - (e + 63 - ld)).toNat by omega]
      clear e1
      go_enter Tryz.func46, Tryz.ntmps46
      go_wp2_with (go_at_call 65; refine (lead_at _ ld _ h0 h1 hl).mono ?_; rintro x w' ⟨rfl, rfl⟩)
      refine (shiftNear_all _ _ v _ hs0 hs1 (by omega) HE).mono ?_
      rintro x w' ⟨rfl, nq, rfl⟩
      go_wp2_with fail
      go_ret
      exact ⟨rfl, _, rfl⟩
    · have e1 := hv.out (by omega)
      rw [if_neg ht2] at e1
      have HE : Hid ((v : Int) = (e + 63 - ld + 1022) * 4503599627370496 + (rne s.toNat 11 : Int)) := by show _ = _; rw [e1]; omega
      have HB : (rne s.toNat 11 : Int) ≤ 9007199254740992 := by
        have := rne_bd (n := s.toNat) (d := 11) (c := 9007199254740992) (by omega)
        omega
      have HB0 : 0 ≤ (rne s.toNat 11 : Int) := by omega
      clear e1
      rw [HE.out]
      generalize hq : (rne s.toNat 11 : Int) = q at HB HB0
      have HQ : Hid ((rne s.toNat 11 : Int) = q) := hq
      clear hq
      go_enter Tryz.func46, Tryz.ntmps46
      go_wp2_with (first | (go_at_call 65; refine (lead_at _ ld _ h0 h1 hl).mono ?_; rintro x w' ⟨rfl, rfl⟩) | (go_at_call 66; refine (shiftNear_11 _ q _ hs0 hs1 HQ).mono ?_; rintro x w' ⟨rfl, nq, rfl⟩))
      go_ret
      exact ⟨rfl, _, rfl⟩


theorem near_any (u : Nat) (e : Int) (w : World) (h0 : u ≠ 0) (h : u < 18446744073709551616) :
    Calls Tryz.prog 46 #[.int .u64 u, .int .i64 e] w fun x w' => x = .returned (.int .u64 (nearR u e)) ∧ ∃ n, w' = w.drewN n := by
  have hl : u.log2 < 64 := (Nat.log2_lt h0).2 h
  by_cases h1 : 1023 < e
  · rw [nearR_big h0 (by omega)]; exact near_inf u e w h1
  by_cases h2 : e < -1139
  · rw [nearR_small h h2]; exact near_nil u e w h2
  have ht := top_lt h0 h
  refine near_mid u e (63 - u.log2 : Int) ((u * 2 ^ (63 - u.log2) : Nat) : Int) (nearR u e) w (by omega) (by omega) (by omega) (by omega) (by omega) (by omega) ?_ ?_ (Int.natCast_nonneg _) (by omega) ?_ ?_
  · show _ = _
    rw [Int.toNat_natCast, bitLen_log2 h0 h]; omega
  · rw [IntKind.wrap_u64, show ((63 : Int) - (u.log2 : Int)).toNat = 63 - u.log2 by omega]
    have e1 : ((u : Int) * 2 ^ (63 - u.log2)) = ((u * 2 ^ (63 - u.log2) : Nat) : Int) := by rw [Int.natCast_mul, Int.natCast_pow]; rfl
    rw [e1]; omega
  · intro h3
    rw [Int.toNat_natCast]
    by_cases h4 : e + 63 - (63 - (u.log2 : Int)) < -1022
    · rw [if_pos h4, nearR_sub h0 h (by omega), show (-1074 - e + (63 - (u.log2 : Int))).toNat = (-1011 - e - (u.log2 : Int)).toNat by omega]
    · rw [if_neg h4, nearR_normal h0 h (by omega) (by omega), show (e + 63 - (63 - (u.log2 : Int)) + 1022).toNat = (e + u.log2 + 1022).toNat by omega]
  · intro h3
    exact nearR_big h0 (by omega)

theorem near_as (u e q : Int) (w : World) (h0 : 0 < u) (h : u < 18446744073709551616) (hq : Hid ((nearR u.toNat e : Int) = q)) :
    Calls Tryz.prog 46 #[.int .u64 u, .int .i64 e] w fun x w' => x = .returned (.int .u64 q) ∧ ∃ n, w' = w.drewN n := by
  rw [← hq.out]
  obtain ⟨a, rfl⟩ := Int.eq_ofNat_of_zero_le (show 0 ≤ u by omega)
  rw [Int.toNat_natCast]
  exact near_any a e w (by omega) (by omega)
theorem nearR_le (u : Nat) (e : Int) : nearR u e ≤ 9218868437227405312 := Nat.min_le_right _ _

def joinN (m e : Int) : Nat := if m = 0 then 0 else if m < 0 then 9223372036854775808 + nearR m.natAbs e else nearR m.natAbs e

set_option maxHeartbeats 400000 in
theorem join_zero (e : Int) (w : World) :
    Calls Tryz.prog 23 #[.int .i64 0, .int .i64 e] w fun x w' => x = .returned (.float .f64 0) ∧ ∃ n, w' = w.drewN n := by
  go_enter Tryz.func23, Tryz.ntmps23
  go_wp2_with fail
  go_ret
  exact ⟨rfl, 0, rfl⟩

set_option maxHeartbeats 400000 in
theorem join_pos (m e q : Int) (w : World) (h0 : 0 < m) (h : m ≤ 9223372036854775807) (hq : Hid ((nearR m.toNat e : Int) = q)) :
    Calls Tryz.prog 23 #[.int .i64 m, .int .i64 e] w fun x w' => x = .returned (.float .f64 q.toNat) ∧ ∃ n, w' = w.drewN n := by
  have hm : (m == 0) = false := by simp; omega
  have hm' : decide (m < 0) = false := by simp; omega
  go_enter Tryz.func23, Tryz.ntmps23
  go_wp2_with (first | (go_at_call 46; refine (near_as _ _ q _ h0 (by omega) hq).mono ?_; rintro x w' ⟨rfl, nq, rfl⟩) | (go_at_call 45; refine (withSign_pos _ _).mono ?_; rintro x w' ⟨rfl, rfl⟩))
  go_ret
  exact ⟨rfl, _, rfl⟩

set_option maxHeartbeats 400000 in
theorem join_neg (m a e q : Int) (w : World) (h0 : m < 0) (h : -9223372036854775808 ≤ m) (hq : Hid ((nearR a.toNat e : Int) = q)) (ha : IntKind.u64.wrap (-IntKind.u64.wrap m) = a) (ha0 : 0 < a) (ha1 : a < 18446744073709551616) (hq0 : 0 ≤ q) (hq1 : q < 9223372036854775808) :
    Calls Tryz.prog 23 #[.int .i64 m, .int .i64 e] w fun x w' => x = .returned (.float .f64 (9223372036854775808 + q).toNat) ∧ ∃ n, w' = w.drewN n := by
  have hm : (m == 0) = false := by simp; omega
  go_enter Tryz.func23, Tryz.ntmps23
  go_wp2_with (first | (go_at_call 46; refine (near_as _ _ q _ ha0 ha1 hq).mono ?_; rintro x w' ⟨rfl, nq, rfl⟩) | (go_at_call 45; refine (withSign_neg _ _ hq0 hq1).mono ?_; rintro x w' ⟨rfl, rfl⟩))
  go_ret
  exact ⟨rfl, _, rfl⟩

theorem join_any (m e : Int) (w : World) (h0 : -9223372036854775808 ≤ m) (h1 : m ≤ 9223372036854775807) :
    Calls Tryz.prog 23 #[.int .i64 m, .int .i64 e] w fun x w' => x = .returned (.float .f64 (joinN m e)) ∧ ∃ n, w' = w.drewN n := by
  unfold joinN
  by_cases hz : m = 0
  · subst hz; rw [if_pos rfl]; exact join_zero e w
  rw [if_neg hz]
  by_cases hn : m < 0
  · rw [if_pos hn]
    have hb := nearR_le m.natAbs e
    have := join_neg m (-m) e (nearR m.natAbs e) w hn h0 (by show _ = _; rw [show (-m).toNat = m.natAbs by omega]) (by rw [IntKind.wrap_u64, IntKind.wrap_u64]; omega) (by omega) (by omega) (Int.natCast_nonneg _) (by omega)
    rw [show (9223372036854775808 + (nearR m.natAbs e : Int)).toNat = 9223372036854775808 + nearR m.natAbs e by omega] at this
    exact this
  · rw [if_neg hn]
    have := join_pos m e (nearR m.natAbs e) w (by omega) h1 (by show _ = _; rw [show m.toNat = m.natAbs by omega])
    rw [Int.toNat_natCast] at this
    exact this
end Go.Proofs.YtbgmbodedjhfoaaGreatDoor
namespace Go.Proofs.YtbgmbodedjhfoaaGreatDoor
open Go.RowKit

theorem and_mask52 {z : Int} (h0 : 0 ≤ z) (h : z < 18446744073709551616) : bits .and .u64 z 4503599627370495 = z % 4503599627370496 := by
  obtain ⟨b, rfl⟩ := Int.eq_ofNat_of_zero_le h0
  have := bits_and_u64_nat b 4503599627370495 (by omega) (by decide)
  rw [show ((4503599627370495 : Nat) : Int) = 4503599627370495 from rfl] at this
  rw [this]
  have e := Nat.and_two_pow_sub_one_eq_mod b 52
  rw [show (2 : Nat) ^ 52 - 1 = 4503599627370495 from rfl, show (2 : Nat) ^ 52 = 4503599627370496 from rfl] at e
  rw [e]; omega
theorem or_hidden {z : Int} (h0 : 0 ≤ z) (h : z < 4503599627370496) : bits .or .u64 z 4503599627370496 = 4503599627370496 + z := by
  obtain ⟨b, rfl⟩ := Int.eq_ofNat_of_zero_le h0
  have := bits_or_u64_nat b 4503599627370496 (by omega) (by decide)
  rw [show ((4503599627370496 : Nat) : Int) = 4503599627370496 from rfl] at this
  rw [this]
  have h2 := Nat.two_pow_add_eq_or_of_lt (i := 52) (b := b) (by omega) 1
  rw [Nat.or_comm, show (4503599627370496 : Nat) = 2 ^ 52 * 1 from rfl, ← h2]
  omega

def magI (z : Int) : Int := if z < 4503599627370496 then z else 4503599627370496 + z % 4503599627370496
def plcI (z : Int) : Int := if z < 4503599627370496 then -1074 else z / 4503599627370496 - 1075
def splOk (u : Int) : Bool := decide (szI u < 9218868437227405312)
def splM (u : Int) : Int := if splOk u then (if sgB u then -magI (szI u) else magI (szI u)) else 0
def splE (u : Int) : Int := if splOk u && decide (szI u ≠ 0) then plcI (szI u) else 0

set_option maxHeartbeats 400000 in
theorem split_no (b : Nat) (u : Int) (w : World) (hu : Hid (u = b)) (h : U64 u) (h1 : 9218868437227405312 ≤ szI u) :
    Calls Tryz.prog 12 #[.float .f64 b] w fun e w' => e = .returned (.tuple #[.int .i64 0, .int .i64 0, .bool false]) ∧ w' = w := by
  go_enter Tryz.func12, Tryz.ntmps12
  go_wp2_with (go_at_call 31; refine (size_as _ _ _ hu h).mono ?_; rintro e w' ⟨rfl, rfl⟩)
  go_ret3
  exact ⟨rfl, rfl⟩

set_option maxHeartbeats 400000 in
theorem split_zero (b : Nat) (u : Int) (w : World) (hu : Hid (u = b)) (h : U64 u) (h1 : szI u = 0) :
    Calls Tryz.prog 12 #[.float .f64 b] w fun e w' => e = .returned (.tuple #[.int .i64 0, .int .i64 0, .bool true]) ∧ w' = w := by
  go_enter Tryz.func12, Tryz.ntmps12
  go_wp2_with (go_at_call 31; refine (size_as _ _ _ hu h).mono ?_; rintro e w' ⟨rfl, rfl⟩)
  go_ret3
  exact ⟨rfl, rfl⟩

set_option maxHeartbeats 400000 in
theorem split_sub (b : Nat) (u : Int) (w : World) (hu : Hid (u = b)) (h : U64 u) (h1 : 0 < szI u) (h2 : szI u < 4503599627370496) :
    Calls Tryz.prog 12 #[.float .f64 b] w fun e w' => e = .returned (.tuple #[.int .i64 (if sgB u then -szI u else szI u), .int .i64 (-1074), .bool true]) ∧ w' = w := by
  cases hs : sgB u
  all_goals
    simp only [Bool.false_eq_true, if_true, if_false]
    go_enter Tryz.func12, Tryz.ntmps12
    go_wp2_with (first | (go_at_call 31; refine (size_as _ _ _ hu h).mono ?_; rintro e w' ⟨rfl, rfl⟩) | (go_at_call 32; refine (signed_as _ _ _ hu h).mono ?_; rintro e w' ⟨rfl, rfl⟩))
    go_ret3
    exact ⟨rfl, rfl⟩

set_option maxHeartbeats 400000 in
theorem split_normal (b : Nat) (u m : Int) (w : World) (hu : Hid (u = b)) (h : U64 u) (h1 : 4503599627370496 ≤ szI u) (h2 : szI u < 9218868437227405312)
    (hm : bits .or .u64 (bits .and .u64 (szI u) 4503599627370495) 4503599627370496 = m) (hm0 : 4503599627370496 ≤ m) (hm1 : m < 9007199254740992) :
    Calls Tryz.prog 12 #[.float .f64 b] w fun e w' => e = .returned (.tuple #[.int .i64 (if sgB u then -m else m), .int .i64 (szI u / 4503599627370496 - 1 + -1074), .bool true]) ∧ w' = w := by
  cases hs : sgB u
  all_goals
    simp only [Bool.false_eq_true, if_true, if_false]
    go_enter Tryz.func12, Tryz.ntmps12
    go_wp2_with (first | (go_at_call 31; refine (size_as _ _ _ hu h).mono ?_; rintro e w' ⟨rfl, rfl⟩) | (go_at_call 32; refine (signed_as _ _ _ hu h).mono ?_; rintro e w' ⟨rfl, rfl⟩))
    go_ret3
    exact ⟨rfl, rfl⟩

theorem split_as (b : Nat) (u : Int) (w : World) (hu : Hid (u = b)) (h : U64 u) :
    Calls Tryz.prog 12 #[.float .f64 b] w fun e w' => e = .returned (.tuple #[.int .i64 (splM u), .int .i64 (splE u), .bool (splOk u)]) ∧ w' = w := by
  have hlo := szI_lo u
  have hhi := szI_hi u
  by_cases h1 : szI u < 9218868437227405312
  · have e1 : splOk u = true := by simp [splOk, h1]
    by_cases h2 : szI u = 0
    · have e2 : splM u = 0 := by unfold splM magI; rw [h2]; simp
      have e3 : splE u = 0 := by unfold splE; rw [h2]; simp
      rw [e1, e2, e3]; exact split_zero b u w hu h h2
    · by_cases h3 : szI u < 4503599627370496
      · have e2 : splM u = if sgB u then -szI u else szI u := by unfold splM magI; rw [e1, if_pos h3]; rfl
        have e3 : splE u = -1074 := by unfold splE plcI; simp [e1, h2, h3]
        rw [e1, e2, e3]; exact split_sub b u w hu h (by omega) h3
      · have e2 : splM u = if sgB u then -(4503599627370496 + szI u % 4503599627370496) else 4503599627370496 + szI u % 4503599627370496 := by unfold splM magI; rw [e1, if_neg h3]; rfl
        have e3 : splE u = szI u / 4503599627370496 - 1 + -1074 := by unfold splE plcI; simp [e1, h2, h3]; omega
        rw [e1, e2, e3]
        exact split_normal b u _ w hu h (by omega) h1 (by rw [and_mask52 hlo (by omega), or_hidden (by omega) (by omega)]) (by omega) (by omega)
  · have e1 : splOk u = false := by simp [splOk, h1]
    have e2 : splM u = 0 := by simp [splM, e1]
    have e3 : splE u = 0 := by simp [splE, e1]
    rw [e1, e2, e3]; exact split_no b u w hu h (by omega)
end Go.Proofs.YtbgmbodedjhfoaaGreatDoor
namespace Go.Proofs.YtbgmbodedjhfoaaGreatDoor

theorem nearR_scale {M : Nat} (h0 : M ≠ 0) (k : Nat) (p : Int) : nearR (M * 2 ^ k) (p - k) = nearR M p := by
  have hlog : (M * 2 ^ k).log2 = M.log2 + k := by
    have a := Nat.log2_self_le h0
    have b : M < 2 ^ (M.log2 + 1) := Nat.lt_log2_self
    have hp := Nat.two_pow_pos k
    refine (Nat.log2_eq_iff (by have := Nat.mul_pos (show 0 < M by omega) hp; omega)).2 ⟨?_, ?_⟩
    · rw [Nat.pow_add]; exact Nat.mul_le_mul_right _ a
    · rw [show M.log2 + k + 1 = (M.log2 + 1) + k by omega, Nat.pow_add]; exact Nat.mul_lt_mul_of_pos_right b hp
  have hL : lastP (M * 2 ^ k) (p - k) = lastP M p := by unfold lastP; rw [hlog]; congr 1; omega
  unfold nearR
  rw [hL]
  generalize lastP M p = L
  congr 2
  by_cases hc : p ≤ L
  · have e1 : (p - (k : Int) - L).toNat = 0 := by omega
    have e2 : (p - L).toNat = 0 := by omega
    have e3 : (L - (p - (k : Int))).toNat = (L - p).toNat + k := by omega
    rw [e1, e2, e3, Nat.pow_zero, Nat.mul_one, Nat.mul_one, rne_scale]
  · obtain ⟨q, hq⟩ : ∃ q : Nat, p = L + q := ⟨(p - L).toNat, by omega⟩
    have e2 : (p - L).toNat = q := by omega
    have e4 : (L - p).toNat = 0 := by omega
    rw [e2, e4, rne_zero]
    by_cases hk : k ≤ q
    · have e1 : (p - (k : Int) - L).toNat = q - k := by omega
      have e3 : (L - (p - (k : Int))).toNat = 0 := by omega
      rw [e1, e3, rne_zero, Nat.mul_assoc, ← Nat.pow_add]; congr 2; omega
    · have e1 : (p - (k : Int) - L).toNat = 0 := by omega
      have e3 : (L - (p - (k : Int))).toNat = 0 + (k - q) := by omega
      rw [e1, e3, Nat.pow_zero, Nat.mul_one, show M * 2 ^ k = (M * 2 ^ q) * 2 ^ (k - q) by rw [Nat.mul_assoc, ← Nat.pow_add]; congr 2; omega, rne_scale, rne_zero]

end Go.Proofs.YtbgmbodedjhfoaaGreatDoor
namespace Go.Proofs.YtbgmbodedjhfoaaGreatDoor

def vI (b : Nat) : Int := if b / 9223372036854775808 % 2 == 1 then -(V (b % 9223372036854775808) : Int) else (V (b % 9223372036854775808) : Int)
def sgZ (s : Bool) (n : Nat) : Int := if s then -(n : Int) else (n : Int)
theorem sgZ_mul (s : Bool) (n k : Nat) : sgZ s (n * k) = sgZ s n * k := by
  unfold sgZ; cases s <;> simp [Int.neg_mul]
theorem signed_eq (s : Bool) (m k : Nat) : Ieee.signed s m k = sgZ s (m * 2 ^ k) := by
  unfold Ieee.signed sgZ; rw [Nat.shiftLeft_eq]
theorem word_true (r : Nat) : Ieee.double.word true r = 9223372036854775808 + r := rfl
theorem word_false (r : Nat) : Ieee.double.word false r = r := rfl
def addR (s t : Bool) (T : Int) : Nat := if T = 0 then (if s && t then 9223372036854775808 else 0) else joinN T (-1074)
theorem sum_write (s t : Bool) (m n p q : Nat) :
    ((Ieee.Datum.number s m (-1074 + (p : Int))).sum (.number t n (-1074 + (q : Int)))).map Ieee.double.write = some (addR s t (sgZ s (m * 2 ^ p) + sgZ t (n * 2 ^ q))) := by
  obtain ⟨e, he⟩ : ∃ e, min p q = e := ⟨_, rfl⟩
  have hb : min (-1074 + (p : Int)) (-1074 + (q : Int)) = -1074 + (e : Int) := by omega
  have h1 : (-1074 + (p : Int) - (-1074 + (e : Int))).toNat = p - e := by omega
  have h2 : (-1074 + (q : Int) - (-1074 + (e : Int))).toNat = q - e := by omega
  obtain ⟨T, hT⟩ : ∃ T, sgZ s (m * 2 ^ (p - e)) + sgZ t (n * 2 ^ (q - e)) = T := ⟨_, rfl⟩
  have hTT : sgZ s (m * 2 ^ p) + sgZ t (n * 2 ^ q) = T * ((2 ^ e : Nat) : Int) := by
    rw [← hT, Int.add_mul, ← sgZ_mul, ← sgZ_mul, Nat.mul_assoc, Nat.mul_assoc, ← Nat.pow_add, ← Nat.pow_add, show p - e + e = p by omega, show q - e + e = q by omega]
  have key : ((Ieee.Datum.number s m (-1074 + (p : Int))).sum (.number t n (-1074 + (q : Int)))).map Ieee.double.write = some (Ieee.double.nearest (if T = 0 then s && t else decide (T < 0)) T.natAbs (-1074 + (e : Int))) := by
    show some (Ieee.double.write (.number (if Ieee.signed s m (-1074 + (p : Int) - min (-1074 + (p : Int)) (-1074 + (q : Int))).toNat + Ieee.signed t n (-1074 + (q : Int) - min (-1074 + (p : Int)) (-1074 + (q : Int))).toNat = 0 then s && t else decide (Ieee.signed s m (-1074 + (p : Int) - min (-1074 + (p : Int)) (-1074 + (q : Int))).toNat + Ieee.signed t n (-1074 + (q : Int) - min (-1074 + (p : Int)) (-1074 + (q : Int))).toNat < 0)) (Ieee.signed s m (-1074 + (p : Int) - min (-1074 + (p : Int)) (-1074 + (q : Int))).toNat + Ieee.signed t n (-1074 + (q : Int) - min (-1074 + (p : Int)) (-1074 + (q : Int))).toNat).natAbs (min (-1074 + (p : Int)) (-1074 + (q : Int))))) = _
    rw [hb, h1, h2, signed_eq, signed_eq, hT]
    rfl
  rw [key, hTT]
  have hp : (0 : Int) < ((2 ^ e : Nat) : Int) := by have := Nat.two_pow_pos e; omega
  unfold addR
  by_cases h0 : T = 0
  · subst h0
    rw [if_pos rfl, Int.zero_mul, if_pos rfl]
    show some (Ieee.double.nearest (s && t) 0 _) = _
    rw [nearest_zero]
    cases s <;> cases t <;> rfl
  · rw [if_neg h0]
    have h3 : T * ((2 ^ e : Nat) : Int) ≠ 0 := Int.mul_ne_zero h0 (by omega)
    rw [if_neg h3, nearest_eq _ (by omega)]
    have h4 : nearR (T * ((2 ^ e : Nat) : Int)).natAbs (-1074) = nearR T.natAbs (-1074 + (e : Int)) := by
      have := nearR_scale (M := T.natAbs) (by omega) e (-1074 + (e : Int))
      rw [show -1074 + (e : Int) - (e : Int) = -1074 by omega] at this
      rw [Int.natAbs_mul, Int.natAbs_natCast]; exact this
    unfold joinN
    rw [if_neg h3, h4]
    have h5 : T * ((2 ^ e : Nat) : Int) < 0 ↔ T < 0 := by
      constructor
      · intro h
        by_cases h6 : T < 0
        · exact h6
        · have := Int.mul_nonneg (by omega : 0 ≤ T) (by omega : (0 : Int) ≤ ((2 ^ e : Nat) : Int)); omega
      · intro h; exact Int.mul_neg_of_neg_of_pos h hp
    by_cases h6 : T < 0
    · rw [if_pos (h5.2 h6)]
      simp only [h6, decide_true]
      rw [word_true]
    · rw [if_neg (fun h => h6 (h5.1 h))]
      simp only [h6, decide_false]
      rw [word_false]
theorem vI_eq (b : Nat) : vI b = sgZ (b / 9223372036854775808 % 2 == 1) (mg (b % 9223372036854775808) * 2 ^ pl (b % 9223372036854775808)) := rfl
theorem sub_num {x y : Nat} (hx : x % 9223372036854775808 < 9218868437227405312) (hy : y % 9223372036854775808 < 9218868437227405312) :
    floatBits .sub .f64 x y = some (addR (x / 9223372036854775808 % 2 == 1) (!(y / 9223372036854775808 % 2 == 1)) (vI x - vI y)) := by
  show ((Ieee.double.read x).sum (Ieee.double.read y).opposite).map Ieee.double.write = _
  rw [read_num hx, read_num hy]
  show ((Ieee.Datum.number _ _ _).sum (Ieee.Datum.number _ _ _)).map Ieee.double.write = _
  rw [sum_write, vI_eq, vI_eq, Int.sub_eq_add_neg]
  congr 3
  unfold sgZ
  cases (y / 9223372036854775808 % 2 == 1) <;> simp

end Go.Proofs.YtbgmbodedjhfoaaGreatDoor
namespace Go.Proofs.YtbgmbodedjhfoaaGreatDoor

def NumB (x : Nat) : Prop := x % 9223372036854775808 < 9218868437227405312
def Rep (A : Int) : Prop := ∃ r, r < 9218868437227405312 ∧ A.natAbs = V r
theorem Rep.neg {A : Int} (h : Rep A) : Rep (-A) := by obtain ⟨r, a, b⟩ := h; exact ⟨r, a, by rw [Int.natAbs_neg]; exact b⟩
end Go.Proofs.YtbgmbodedjhfoaaGreatDoor
namespace Go.Proofs.YtbgmbodedjhfoaaGreatDoor

end Go.Proofs.YtbgmbodedjhfoaaGreatDoor
namespace Go.Proofs.YtbgmbodedjhfoaaGreatDoor
open Go.RowKit

theorem hide {p : Prop} (h : p) : Hid p := h
theorem unhide {p : Prop} (h : Hid p) : p := h

def RowIs (w : World) (g n M : Nat) : Prop := ∀ i, i < n → w.cell? ⟨g, i, none⟩ = some (.int .u64 (dgt M i : Int))

theorem ret_slice {g a b c : Nat} (h : a = b) : Ending.returned (.slice (some ⟨g, 0, none⟩) a c) = .returned (.slice (some ⟨g, 0, none⟩) b c) := by rw [h]

set_option maxHeartbeats 400000 in
theorem trim_row (g n c M : Nat) (w : World) (hrow : RowIs w g n M) (hM : M < 2 ^ (32 * n)) (hn : n ≤ c) (hb : n ≤ 4611686018427387904) :
    Calls Tryz.prog 81 #[.slice (some ⟨g, 0, none⟩) n c] w fun e w' => e = .returned (.slice (some ⟨g, 0, none⟩) (nd M) c) ∧ w' = w := by
  have HR := hide hrow
  have HM := hide hM
  clear hrow hM
  go_enter Tryz.func81, Tryz.ntmps81
  go_wp2
  go_loop [3] (fun t => ∃ k : Nat, k ≤ n ∧ t = .int .i64 k ∧ Hid (M < 2 ^ (32 * k))) (fun t => (intOf t).toNat)
  case atStart => exact ⟨n, Nat.le_refl _, rfl, HM⟩
  case round =>
    obtain ⟨k, hk, rfl, HK⟩ := hrel
    cases k with
    | zero =>
      go_wp2
      go_ret
      exact ⟨ret_slice (by have h1 := HK.out; rw [Nat.mul_zero, Nat.pow_zero] at h1; rw [show M = 0 by omega]; rfl), rfl⟩
    | succ j =>
      have hc := unhide HR j (by omega)
      by_cases h0 : dgt M j = 0
      · rw [h0] at hc
        go_wp2
        go_round
        case rel => exact ⟨j, by omega, rfl, trim_step HK.out h0⟩
        case measure => simp [intOf]
      · have H0 := hide h0
        have h1 : ((dgt M j : Int) == 0) = false := by simpa using h0
        clear h0
        generalize (dgt M j : Int) = q at h1 hc
        go_wp2
        go_ret
        exact ⟨ret_slice (trim_end HK.out H0.out).symm, rfl⟩

def DN (w : World) (v : Value) (N : Nat) : Prop :=
  (N = 0 ∧ ∃ p c, v = .slice p 0 c) ∨ (N ≠ 0 ∧ ∃ g c, v = .slice (some ⟨g, 0, none⟩) (nd N) c ∧ nd N ≤ c ∧ g < w.heap.size ∧ RowIs w g (nd N) N)

theorem RowIs.mono {w : World} {g n m M : Nat} (h : RowIs w g n M) (hm : m ≤ n) : RowIs w g m M := fun i hi => h i (by omega)
theorem RowIs.below {w w' : World} {g n M : Nat} (h : RowIs w g n M) (hg : g < w.heap.size) (hb : Below w.heap.size w w') : RowIs w' g n M :=
  fun i hi => (hb.cell (p := ⟨g, i, none⟩) hg).trans (h i hi)
theorem DN.below {w w' : World} {v : Value} {N : Nat} (h : DN w v N) (hb : Below w.heap.size w w') : DN w' v N := by
  rcases h with h | ⟨h0, g, c, hv, hc, hg, hr⟩
  · exact Or.inl h
  · exact Or.inr ⟨h0, g, c, hv, hc, Nat.lt_of_lt_of_le hg hb.size, hr.below hg hb⟩
theorem dn_mk {w : World} {g c n M : Nat} (hr : RowIs w g n M) (hM : M < 2 ^ (32 * n)) (hc : n ≤ c) (hg : g < w.heap.size) : DN w (.slice (some ⟨g, 0, none⟩) (nd M) c) M := by
  by_cases h0 : M = 0
  · exact Or.inl ⟨h0, some ⟨g, 0, none⟩, c, by rw [h0]; rfl⟩
  · have := nd_mono hM
    exact Or.inr ⟨h0, g, c, rfl, by omega, hg, hr.mono this⟩

theorem row_two (n : Nat) (w : World) (h : n < 18446744073709551616) : RowIs (w.alloc (.cells #[.int .u64 ((n : Int) % 4294967296), .int .u64 ((n : Int) / 4294967296)] 28)) w.heap.size 2 n := by
  intro i hi
  have e0 : (dgt n 0 : Int) = (n : Int) % 4294967296 := by unfold dgt; rw [Nat.mul_zero, Nat.pow_zero, Nat.div_one]; omega
  have e1 : (dgt n 1 : Int) = (n : Int) / 4294967296 := by unfold dgt; rw [show (2 : Nat) ^ (32 * 1) = 4294967296 from rfl]; omega
  match i, hi with
  | 0, _ => rw [e0]; simp
  | 1, _ => rw [e1]; simp

def From (B : Nat) (v : Value) : Prop := ∀ a l c, v = .slice (some a) l c → B ≤ a.block
theorem from_nil (B : Nat) : From B (.slice none 0 0) := fun a l c h => by cases h
theorem from_at (B g l c : Nat) (h : B ≤ g) : From B (.slice (some ⟨g, 0, none⟩) l c) := fun a l' c' e => by cases e; exact h
theorem DN.set {w : World} {v : Value} {N B : Nat} (h : DN w v N) (hf : From B v) {a : Addr} (ha : a.block < B) (x : Value) : DN (w.setCell a x) v N := by
  rcases h with h | ⟨h0, g, c, rfl, hc, hg, hr⟩
  · exact Or.inl h
  · have := hf _ _ _ rfl
    refine Or.inr ⟨h0, g, c, rfl, hc, by simpa using hg, fun i hi => ?_⟩
    exact (World.cell?_of_block (a := ⟨g, i, none⟩) (Below.heap_setCell w a x g (by have h9 : B ≤ g := this; omega))).trans (hr i hi)

set_option maxHeartbeats 400000 in
theorem digits_new (n : Nat) (w : World) (h : n < 18446744073709551616) :
    Calls Tryz.prog 61 #[.int .u64 n] w fun e w' => ∃ v, e = .returned v ∧ DN w' v n ∧ From w.heap.size v ∧ Below w.heap.size w w' := by
  have HR := hide (row_two n w h)
  have HD := hide (dn_mk HR.out (by omega) (Nat.le_refl 2) (by simp))
  go_enter Tryz.func61, Tryz.ntmps61
  go_wp2_with fail
  refine (trim_row _ 2 2 n _ HR.out (by omega) (Nat.le_refl 2) (by omega)).mono ?_
  rintro e w' ⟨rfl, rfl⟩
  go_wp2_with fail
  go_ret
  exact ⟨_, rfl, HD.out, from_at _ _ _ _ (Nat.le_refl _), (Below.refl _ _).alloc (Nat.le_refl _) _⟩
theorem digits_as (u : Int) (n : Nat) (w : World) (hu : Hid (u = n)) (h : n < 18446744073709551616) :
    Calls Tryz.prog 61 #[.int .u64 u] w fun e w' => ∃ v, e = .returned v ∧ DN w' v n ∧ From w.heap.size v ∧ Below w.heap.size w w' := by
  rw [hu.out]; exact digits_new n w h

theorem bl_le64 {x : Nat} (h : x < 18446744073709551616) : bl x ≤ 64 := by
  unfold bl
  by_cases h0 : x = 0
  · rw [if_pos h0]; omega
  · rw [if_neg h0]; have := (Nat.log2_lt h0).2 (show x < 2 ^ 64 from h); omega

set_option maxHeartbeats 400000 in
theorem len_nil (p : Option Addr) (c : Nat) (w : World) :
    Calls Tryz.prog 82 #[.slice p 0 c] w fun e w' => e = .returned (.int .i64 0) ∧ w' = w := by
  go_enter Tryz.func82, Tryz.ntmps82
  go_wp2
  go_ret
  exact ⟨rfl, rfl⟩

set_option maxHeartbeats 400000 in
theorem len_row (g n c N : Nat) (w : World) (hN : N ≠ 0) (hn : Hid (n + 1 = nd N)) (hb : n ≤ 100000000) (hcell : w.cell? ⟨g, n, none⟩ = some (.int .u64 (dgt N n : Int))) :
    Calls Tryz.prog 82 #[.slice (some ⟨g, 0, none⟩) (n + 1 : Nat) c] w fun e w' => e = .returned (.int .i64 (bl N : Int)) ∧ w' = w := by
  have HB : Hid (bl N = 32 * n + bl (dgt N n)) := by
    have := bl_top hN
    rw [← hn.out, Nat.add_sub_cancel] at this; exact this
  have hd := dgt_lt N n
  generalize dgt N n = d at hcell HB hd
  rw [HB.out]
  clear HB
  go_enter Tryz.func82, Tryz.ntmps82
  go_wp2
  go_loop [3, 4] (fun s t => ∃ a x : Nat, s = .int .i64 a ∧ t = .int .u64 x ∧ x < 4294967296 ∧ Hid (a + bl x = 32 * n + bl d)) (fun _ t => (intOf t).toNat)
  case atStart => exact ⟨32 * n, d, by go_num, rfl, hd, rfl⟩
  case round =>
    obtain ⟨a, x, rfl, rfl, hx, HA⟩ := hrel
    have ha : a ≤ 3200000064 := by
      have h1 := HA.out
      have h2 : bl d ≤ 64 := bl_le64 (by omega)
      omega
    by_cases h0 : x = 0
    · subst h0
      go_wp2
      go_ret
      exact ⟨ret_int (by have := HA.out; rw [show bl 0 = 0 from rfl] at this; omega), rfl⟩
    · have HB := hide (bl_half h0)
      have h1 : 0 < x := by omega
      clear h0
      go_wp2
      go_round
      case rel => exact ⟨a + 1, x / 2, by go_num, by go_num, by omega, by have h2 := HA.out; rw [HB.out] at h2; show _ = _; omega⟩
      case measure => simp [intOf]; omega

theorem len_any (v : Value) (N : Nat) (w : World) (h : DN w v N) (hb : nd N ≤ 100000000) :
    Calls Tryz.prog 82 #[v] w fun e w' => e = .returned (.int .i64 (bl N : Int)) ∧ w' = w := by
  rcases h with ⟨h0, p, c, rfl⟩ | ⟨h0, g, c, rfl, hc, hg, hr⟩
  · rw [h0]; exact len_nil p c w
  · have h1 := nd_pos h0
    obtain ⟨n, hn⟩ : ∃ n, n + 1 = nd N := ⟨nd N - 1, by omega⟩
    rw [← hn]
    exact len_row g n c N w h0 hn (by omega) (hr n (by omega))

set_option maxHeartbeats 400000 in
theorem digit_out (p : Option Addr) (n c : Nat) (i : Int) (w : World) (hi : i < 0 ∨ (n : Int) ≤ i) :
    Calls Tryz.prog 38 #[.slice p n c, .int .i64 i] w fun e w' => e = .returned (.int .u64 0) ∧ w' = w := by
  by_cases h : i < 0
  · go_enter Tryz.func38, Tryz.ntmps38
    go_wp2
    go_ret
    exact ⟨rfl, rfl⟩
  · have h2 : (n : Int) ≤ i := by omega
    go_enter Tryz.func38, Tryz.ntmps38
    go_wp2
    go_ret
    exact ⟨rfl, rfl⟩

set_option maxHeartbeats 400000 in
theorem digit_in (g n c k : Nat) (q : Int) (w : World) (hk : k < n) (hcell : w.cell? ⟨g, k, none⟩ = some (.int .u64 q)) :
    Calls Tryz.prog 38 #[.slice (some ⟨g, 0, none⟩) n c, .int .i64 k] w fun e w' => e = .returned (.int .u64 q) ∧ w' = w := by
  go_enter Tryz.func38, Tryz.ntmps38
  go_wp2
  go_ret
  exact ⟨rfl, rfl⟩

theorem digit_any (v : Value) (N k : Nat) (w : World) (h : DN w v N) :
    Calls Tryz.prog 38 #[v, .int .i64 k] w fun e w' => e = .returned (.int .u64 (dgt N k : Int)) ∧ w' = w := by
  rcases h with ⟨h0, p, c, rfl⟩ | ⟨h0, g, c, rfl, hc, hg, hr⟩
  · rw [h0, dgt_zero]; exact digit_out p 0 c k w (by omega)
  · by_cases hk : k < nd N
    · exact digit_in g (nd N) c k _ w hk (hr k hk)
    · rw [dgt_past (by omega)]; exact digit_out _ _ c k w (by omega)

end Go.Proofs.YtbgmbodedjhfoaaGreatDoor
