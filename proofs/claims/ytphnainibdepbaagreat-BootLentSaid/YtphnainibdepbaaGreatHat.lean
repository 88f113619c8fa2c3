/- The closed look of every statement of this layer: the document's fixed answers. The contracts of shiftNear, near and Join: the nearest number. A great whole number rounded by its leading bits: what is behind them counts but as one bit. Sums of floats, by whole numbers; whole numbers as floats. Products of floats, by whole numbers; rounding keeps order. Binary32 by whole numbers: its rungs, rounding to it, and back. Contracts of the document's digits: trim, Digits, Len, digit. -/
import Derived.Test.YtphnainibdepbaaGreatHaj
import Derived.Test.YtphnainibdepbaaGreatHae
import Derived.BigQuiet
import Derived.Test.YtphnainibdepbaaGreatHac
import Derived.LoopTactic
namespace Go.Proofs.YtphnainibdepbaaGreat
open Go.RowKit

theorem lead_at (x : Int) (k : Int) (w : World) (h0 : 0 ≤ x) (h1 : x ≤ 18446744073709551615) (hk : Hid (64 - (Lib.bitLen x.toNat : Int) = k)) :
    Calls Tryz.prog 82 #[.int .u64 x] w fun e w' => e = .returned (.int .i64 k) ∧ w' = w := by
  rw [← hk.out]; exact Tryz.bits_LeadingZeros64 x w h0 h1

end Go.Proofs.YtphnainibdepbaaGreat
namespace Go.Proofs.YtphnainibdepbaaGreat
open Go.RowKit

theorem and1_u64 {E : Int} (h0 : 0 ≤ E) (h1 : E ≤ 18446744073709551615) : bits .and .u64 E 1 = E % 2 := and_one_u64 E h0 h1

def upOne (kept lost : Int) : Int := if 9223372036854775808 < lost ∨ (lost = 9223372036854775808 ∧ kept % 2 = 1) then kept + 1 else kept

set_option maxHeartbeats 400000 in
theorem shiftNear_core (u drop kept lost : Int) (w : World) (hd0 : 1 ≤ drop) (hd : drop ≤ 64) (hk0 : 0 ≤ kept) (hk1 : kept < 9223372036854775808)
    (hk : u / 2 ^ drop.toNat = kept) (hl : IntKind.u64.wrap (u * 2 ^ (64 - drop).toNat) = lost) :
    Calls Tryz.prog 122 #[.int .u64 u, .int .i64 drop] w fun e w' => e = .returned (.int .u64 (upOne kept lost)) ∧ ∃ n, w' = w.drewN n := by
  have ha : bits .and .u64 kept 1 = kept % 2 := and1_u64 hk0 (by omega)
  rcases Int.lt_trichotomy lost 9223372036854775808 with h1 | h1 | h1
  · rw [show upOne kept lost = kept by unfold upOne; rw [if_neg (by omega)]]
    go_enter Tryz.func122, Tryz.ntmps122
    go_wp2
    go_quiet (fail)
    go_wp2
    go_ret
    exact ⟨rfl, _, rfl⟩
  · by_cases h2 : kept % 2 = 1
    · rw [show upOne kept lost = kept + 1 by unfold upOne; rw [if_pos (by omega)]]
      have h3 : (kept % 2 == 1) = true := by simpa using h2
      clear h2
      go_enter Tryz.func122, Tryz.ntmps122
      go_wp2
      go_quiet (fail)
      go_wp2
      go_ret
      exact ⟨rfl, _, rfl⟩
    · rw [show upOne kept lost = kept by unfold upOne; rw [if_neg (by omega)]]
      have h3 : (kept % 2 == 1) = false := by simpa using h2
      clear h2
      go_enter Tryz.func122, Tryz.ntmps122
      go_wp2
      go_quiet (fail)
      go_wp2
      go_ret
      exact ⟨rfl, _, rfl⟩
  · rw [show upOne kept lost = kept + 1 by unfold upOne; rw [if_pos (by omega)]]
    go_enter Tryz.func122, Tryz.ntmps122
    go_wp2
    go_quiet (fail)
    go_wp2
    go_ret
    exact ⟨rfl, _, rfl⟩

theorem lost_eq {u d : Nat} (hd : d ≤ 64) : IntKind.u64.wrap ((u : Int) * 2 ^ (64 - (d : Int)).toNat) = ((u % 2 ^ d * 2 ^ (64 - d) : Nat) : Int) := by
  rw [IntKind.wrap_u64, show (64 - (d : Int)).toNat = 64 - d by omega]
  have e : ((u : Int) * 2 ^ (64 - d)) = ((u * 2 ^ (64 - d) : Nat) : Int) := by rw [Int.natCast_mul, Int.natCast_pow]; rfl
  rw [e]
  have h64 : (18446744073709551616 : Nat) = 2 ^ d * 2 ^ (64 - d) := by rw [← Nat.pow_add, show d + (64 - d) = 64 by omega]
  rw [show (18446744073709551616 : Int) = ((2 ^ d * 2 ^ (64 - d) : Nat) : Int) by rw [← h64]; rfl, ← Int.natCast_emod, Nat.mul_mod_mul_right]
theorem kept_eq {u d : Nat} : (u : Int) / 2 ^ ((d : Int)).toNat = ((u / 2 ^ d : Nat) : Int) := by
  rw [Int.toNat_natCast, Int.natCast_ediv, Int.natCast_pow]; rfl
theorem upOne_rne {u d : Nat} (hd : d ≤ 64) (hd0 : 1 ≤ d) : upOne ((u / 2 ^ d : Nat) : Int) ((u % 2 ^ d * 2 ^ (64 - d) : Nat) : Int) = (rne u d : Int) := by
  unfold upOne rne
  have hp : 0 < 2 ^ (64 - d) := Nat.two_pow_pos _
  have h63 : (9223372036854775808 : Nat) * 2 = 2 ^ d * 2 ^ (64 - d) := by rw [← Nat.pow_add, show d + (64 - d) = 64 by omega]
  have f1 : (9223372036854775808 : Int) < ((u % 2 ^ d * 2 ^ (64 - d) : Nat) : Int) ↔ 2 ^ d < 2 * (u % 2 ^ d) := by
    rw [← Nat.mul_lt_mul_right hp, Nat.mul_assoc]; omega
  have f2 : ((u % 2 ^ d * 2 ^ (64 - d) : Nat) : Int) = (9223372036854775808 : Int) ↔ 2 ^ d = 2 * (u % 2 ^ d) := by
    constructor
    · intro h; apply Nat.eq_of_mul_eq_mul_right hp; rw [Nat.mul_assoc]; omega
    · intro h
      have : 2 ^ d * 2 ^ (64 - d) = 2 * (u % 2 ^ d) * 2 ^ (64 - d) := congrArg (· * 2 ^ (64 - d)) h
      rw [Nat.mul_assoc] at this; omega
  have f3 : ((u / 2 ^ d : Nat) : Int) % 2 = 1 ↔ u / 2 ^ d % 2 = 1 := by omega
  simp only [f1, f2, f3]
  split <;> omega

theorem shiftNear_any (u d : Nat) (w : World) (h : u < 18446744073709551616) (hd0 : 1 ≤ d) (hd : d ≤ 64) :
    Calls Tryz.prog 122 #[.int .u64 u, .int .i64 d] w fun e w' => e = .returned (.int .u64 (rne u d)) ∧ ∃ n, w' = w.drewN n := by
  rw [← upOne_rne hd hd0]
  refine shiftNear_core u d _ _ w (by omega) (by omega) (Int.natCast_nonneg _) ?_ kept_eq (lost_eq hd)
  have : u / 2 ^ d ≤ u / 2 ^ 1 := Nat.div_le_div_left (Nat.pow_le_pow_right (by decide) hd0) (by decide)
  omega

set_option maxHeartbeats 400000 in
theorem shiftNear_far (u drop : Int) (w : World) (hd : 64 < drop) :
    Calls Tryz.prog 122 #[.int .u64 u, .int .i64 drop] w fun e w' => e = .returned (.int .u64 0) ∧ ∃ n, w' = w.drewN n := by
  go_enter Tryz.func122, Tryz.ntmps122
  go_wp2
  go_ret
  exact ⟨rfl, 0, rfl⟩

theorem shiftNear_all (u drop : Int) (v : Nat) (w : World) (h0 : 0 ≤ u) (h : u < 18446744073709551616) (hd0 : 1 ≤ drop) (hv : Hid (v = rne u.toNat drop.toNat)) :
    Calls Tryz.prog 122 #[.int .u64 u, .int .i64 drop] w fun e w' => e = .returned (.int .u64 v) ∧ ∃ n, w' = w.drewN n := by
  rw [hv.out]
  obtain ⟨a, rfl⟩ := Int.eq_ofNat_of_zero_le h0
  obtain ⟨d, rfl⟩ := Int.eq_ofNat_of_zero_le (show 0 ≤ drop by omega)
  rw [Int.toNat_natCast, Int.toNat_natCast]
  by_cases hd : d ≤ 64
  · exact shiftNear_any a d w (by omega) (by omega) hd
  · have e : rne a d = 0 := rne_small (by
      have : (2 : Nat) ^ 65 ≤ 2 ^ d := Nat.pow_le_pow_right (by decide) (by omega)
      omega)
    rw [e]; exact shiftNear_far a d w (by omega)

theorem shiftNear_11 (s q : Int) (w : World) (h0 : 0 ≤ s) (h : s < 18446744073709551616) (hq : Hid ((rne s.toNat 11 : Int) = q)) :
    Calls Tryz.prog 122 #[.int .u64 s, .int .i64 11] w fun e w' => e = .returned (.int .u64 q) ∧ ∃ n, w' = w.drewN n := by
  rw [← hq.out]; exact shiftNear_all s 11 (rne s.toNat 11) w h0 h (by omega) rfl

set_option maxHeartbeats 400000 in
theorem near_inf (u e : Int) (w : World) (h : 1023 < e) :
    Calls Tryz.prog 105 #[.int .u64 u, .int .i64 e] w fun x w' => x = .returned (.int .u64 9218868437227405312) ∧ ∃ n, w' = w.drewN n := by
  go_enter Tryz.func105, Tryz.ntmps105
  go_wp2_with fail
  go_ret
  exact ⟨rfl, 0, rfl⟩

set_option maxHeartbeats 400000 in
theorem near_nil (u e : Int) (w : World) (h : e < -1139) :
    Calls Tryz.prog 105 #[.int .u64 u, .int .i64 e] w fun x w' => x = .returned (.int .u64 0) ∧ ∃ n, w' = w.drewN n := by
  go_enter Tryz.func105, Tryz.ntmps105
  go_wp2_with fail
  go_ret
  exact ⟨rfl, 0, rfl⟩

set_option maxHeartbeats 400000 in
theorem near_mid (u e ld s : Int) (v : Nat) (w : World) (h0 : 0 ≤ u) (h1 : u ≤ 18446744073709551615) (he : e ≤ 1023) (he' : -1139 ≤ e) (hl0 : 0 ≤ ld) (hl1 : ld ≤ 63)
    (hl : Hid (64 - (Lib.bitLen u.toNat : Int) = ld)) (hs : IntKind.u64.wrap (u * 2 ^ ld.toNat) = s) (hs0 : 0 ≤ s) (hs1 : s < 18446744073709551616)
    (hv : Hid (e + 63 - ld ≤ 1023 → v = if e + 63 - ld < -1022 then rne s.toNat (-1074 - e + ld).toNat else (e + 63 - ld + 1022).toNat * 4503599627370496 + rne s.toNat 11))
    (hv' : Hid (1023 < e + 63 - ld → v = 9218868437227405312)) :
    Calls Tryz.prog 105 #[.int .u64 u, .int .i64 e] w fun x w' => x = .returned (.int .u64 v) ∧ ∃ n, w' = w.drewN n := by
  by_cases ht : 1023 < e + 63 - ld
  · rw [hv'.out ht]
    go_enter Tryz.func105, Tryz.ntmps105
    go_wp2_with (go_at_call 82; refine (lead_at _ ld _ h0 h1 hl).mono ?_; rintro x w' ⟨rfl, rfl⟩)
    go_ret
    exact ⟨rfl, 0, rfl⟩
  · by_cases ht2 : e + 63 - ld < -1022
    · have e1 := hv.out (by omega)
      rw [if_pos ht2] at e1
      have HE : Hid (v = rne s.toNat (-1011 - (e + 63 - ld)).toNat) := by
        show _ = _; rw [e1, show (-1074 - e + ld).toNat = (-1011 - (e + 63 - ld)).toNat by omega]
      clear e1
      go_enter Tryz.func105, Tryz.ntmps105
      go_wp2_with (go_at_call 82; refine (lead_at _ ld _ h0 h1 hl).mono ?_; rintro x w' ⟨rfl, rfl⟩)
      refine (shiftNear_all _ _ v _ hs0 hs1 (by omega) HE).mono ?_
      rintro x w' ⟨rfl, nq, rfl⟩
      go_wp2_with fail
      go_ret
      exact ⟨rfl, _, rfl⟩
    · have e1 := hv.out (by omega)
      rw [if_neg ht2] at e1
      have HE : Hid ((v : Int) = (e + 63 - ld + 1022) * 4503599627370496 + (rne s.toNat 11 : Int)) := by show _ = _; rw [e1]; omega
      have HB : (rne s.toNat 11 : Int) ≤ 9007199254740992 := by
        have := rne_bd (n := s.toNat) (d := 11) (c := 9007199254740992) (by omega)
        omega
      have HB0 : 0 ≤ (rne s.toNat 11 : Int) := by omega
      clear e1
      rw [HE.out]
      generalize hq : (rne s.toNat 11 : Int) = q at HB HB0
      have HQ : Hid ((rne s.toNat 11 : Int) = q) := hq
      clear hq
      go_enter Tryz.func105, Tryz.ntmps105
      go_wp2_with (first | (go_at_call 82; refine (lead_at _ ld _ h0 h1 hl).mono ?_; rintro x w' ⟨rfl, rfl⟩) | (go_at_call 122; refine (shiftNear_11 _ q _ hs0 hs1 HQ).mono ?_; rintro x w' ⟨rfl, nq, rfl⟩))
      go_ret
      exact ⟨rfl, _, rfl⟩


theorem near_any (u : Nat) (e : Int) (w : World) (h0 : u ≠ 0) (h : u < 18446744073709551616) :
    Calls Tryz.prog 105 #[.int .u64 u, .int .i64 e] w fun x w' => x = .returned (.int .u64 (nearR u e)) ∧ ∃ n, w' = w.drewN n := by
  have hl : u.log2 < 64 := (Nat.log2_lt h0).2 h
  by_cases h1 : 1023 < e
  · rw [nearR_big h0 (by omega)]; exact near_inf u e w h1
  by_cases h2 : e < -1139
  · rw [nearR_small h h2]; exact near_nil u e w h2
  have ht := top_lt h0 h
  refine near_mid u e (63 - u.log2 : Int) ((u * 2 ^ (63 - u.log2) : Nat) : Int) (nearR u e) w (by omega) (by omega) (by omega) (by omega) (by omega) (by omega) ?_ ?_ (Int.natCast_nonneg _) (by omega) ?_ ?_
  · show _ = _
    rw [Int.toNat_natCast, bitLen_log2 h0 h]; omega
  · rw [IntKind.wrap_u64, show ((63 : Int) - (u.log2 : Int)).toNat = 63 - u.log2 by omega]
    have e1 : ((u : Int) * 2 ^ (63 - u.log2)) = ((u * 2 ^ (63 - u.log2) : Nat) : Int) := by rw [Int.natCast_mul, Int.natCast_pow]; rfl
    rw [e1]; omega
  · intro h3
    rw [Int.toNat_natCast]
    by_cases h4 : e + 63 - (63 - (u.log2 : Int)) < -1022
    · rw [if_pos h4, nearR_sub h0 h (by omega), show (-1074 - e + (63 - (u.log2 : Int))).toNat = (-1011 - e - (u.log2 : Int)).toNat by omega]
    · rw [if_neg h4, nearR_normal h0 h (by omega) (by omega), show (e + 63 - (63 - (u.log2 : Int)) + 1022).toNat = (e + u.log2 + 1022).toNat by omega]
  · intro h3
    exact nearR_big h0 (by omega)

theorem near_as (u e q : Int) (w : World) (h0 : 0 < u) (h : u < 18446744073709551616) (hq : Hid ((nearR u.toNat e : Int) = q)) :
    Calls Tryz.prog 105 #[.int .u64 u, .int .i64 e] w fun x w' => x = .returned (.int .u64 q) ∧ ∃ n, w' = w.drewN n := by
  rw [← hq.out]
  obtain ⟨a, rfl⟩ := Int.eq_ofNat_of_zero_le (show 0 ≤ u by omega)
  rw [Int.toNat_natCast]
  exact near_any a e w (by omega) (by omega)
theorem nearR_le (u : Nat) (e : Int) : nearR u e ≤ 9218868437227405312 := Nat.min_le_right _ _

def joinN (m e : Int) : Nat := if m = 0 then 0 else if m < 0 then 9223372036854775808 + nearR m.natAbs e else nearR m.natAbs e

set_option maxHeartbeats 400000 in
theorem join_zero (e : Int) (w : World) :
    Calls Tryz.prog 83 #[.int .i64 0, .int .i64 e] w fun x w' => x = .returned (.float .f64 0) ∧ ∃ n, w' = w.drewN n := by
  go_enter Tryz.func83, Tryz.ntmps83
  go_wp2_with fail
  go_ret
  exact ⟨rfl, 0, rfl⟩

set_option maxHeartbeats 400000 in
theorem join_pos (m e q : Int) (w : World) (h0 : 0 < m) (h : m ≤ 9223372036854775807) (hq : Hid ((nearR m.toNat e : Int) = q)) :
    Calls Tryz.prog 83 #[.int .i64 m, .int .i64 e] w fun x w' => x = .returned (.float .f64 q.toNat) ∧ ∃ n, w' = w.drewN n := by
  have hm : (m == 0) = false := by simp; omega
  have hm' : decide (m < 0) = false := by simp; omega
  go_enter Tryz.func83, Tryz.ntmps83
  go_wp2_with (first | (go_at_call 105; refine (near_as _ _ q _ h0 (by omega) hq).mono ?_; rintro x w' ⟨rfl, nq, rfl⟩) | (go_at_call 93; refine (withSign_pos _ _).mono ?_; rintro x w' ⟨rfl, rfl⟩))
  go_ret
  exact ⟨rfl, _, rfl⟩

set_option maxHeartbeats 400000 in
theorem join_neg (m a e q : Int) (w : World) (h0 : m < 0) (h : -9223372036854775808 ≤ m) (hq : Hid ((nearR a.toNat e : Int) = q)) (ha : IntKind.u64.wrap (-IntKind.u64.wrap m) = a) (ha0 : 0 < a) (ha1 : a < 18446744073709551616) (hq0 : 0 ≤ q) (hq1 : q < 9223372036854775808) :
    Calls Tryz.prog 83 #[.int .i64 m, .int .i64 e] w fun x w' => x = .returned (.float .f64 (9223372036854775808 + q).toNat) ∧ ∃ n, w' = w.drewN n := by
  have hm : (m == 0) = false := by simp; omega
  go_enter Tryz.func83, Tryz.ntmps83
  go_wp2_with (first | (go_at_call 105; refine (near_as _ _ q _ ha0 ha1 hq).mono ?_; rintro x w' ⟨rfl, nq, rfl⟩) | (go_at_call 93; refine (withSign_neg _ _ hq0 hq1).mono ?_; rintro x w' ⟨rfl, rfl⟩))
  go_ret
  exact ⟨rfl, _, rfl⟩

theorem join_any (m e : Int) (w : World) (h0 : -9223372036854775808 ≤ m) (h1 : m ≤ 9223372036854775807) :
    Calls Tryz.prog 83 #[.int .i64 m, .int .i64 e] w fun x w' => x = .returned (.float .f64 (joinN m e)) ∧ ∃ n, w' = w.drewN n := by
  unfold joinN
  by_cases hz : m = 0
  · subst hz; rw [if_pos rfl]; exact join_zero e w
  rw [if_neg hz]
  by_cases hn : m < 0
  · rw [if_pos hn]
    have hb := nearR_le m.natAbs e
    have := join_neg m (-m) e (nearR m.natAbs e) w hn h0 (by show _ = _; rw [show (-m).toNat = m.natAbs by omega]) (by rw [IntKind.wrap_u64, IntKind.wrap_u64]; omega) (by omega) (by omega) (Int.natCast_nonneg _) (by omega)
    rw [show (9223372036854775808 + (nearR m.natAbs e : Int)).toNat = 9223372036854775808 + nearR m.natAbs e by omega] at this
    exact this
  · rw [if_neg hn]
    have := join_pos m e (nearR m.natAbs e) w (by omega) h1 (by show _ = _; rw [show m.toNat = m.natAbs by omega])
    rw [Int.toNat_natCast] at this
    exact this
end Go.Proofs.YtphnainibdepbaaGreat
namespace Go.Proofs.YtphnainibdepbaaGreat

def stick (M s : Nat) (more : Bool) : Nat := if M % 2 ^ s = 0 ∧ more = false then M / 2 ^ s else if M / 2 ^ s % 2 = 1 then M / 2 ^ s else M / 2 ^ s + 1
theorem log2_div {M s : Nat} (h : s ≤ M.log2) (h0 : M ≠ 0) : (M / 2 ^ s).log2 = M.log2 - s ∧ M / 2 ^ s ≠ 0 := by
  have a := Nat.log2_self_le h0
  have b : M < 2 ^ (M.log2 + 1) := Nat.lt_log2_self
  have hp := Nat.two_pow_pos s
  have e1 : 2 ^ (M.log2 - s) ≤ M / 2 ^ s := (Nat.le_div_iff_mul_le hp).2 (by rw [← Nat.pow_add]; rw [show M.log2 - s + s = M.log2 by omega]; exact a)
  have e2 : M / 2 ^ s < 2 ^ (M.log2 - s + 1) := (Nat.div_lt_iff_lt_mul hp).2 (by rw [← Nat.pow_add]; rw [show M.log2 - s + 1 + s = M.log2 + 1 by omega]; exact b)
  have h1 : M / 2 ^ s ≠ 0 := by have := Nat.two_pow_pos (M.log2 - s); omega
  exact ⟨(Nat.log2_eq_iff h1).2 ⟨e1, e2⟩, h1⟩
theorem log2_stick {M s : Nat} (more : Bool) (h : s ≤ M.log2) (h0 : M ≠ 0) : (stick M s more).log2 = M.log2 - s ∧ stick M s more ≠ 0 := by
  obtain ⟨h1, h2⟩ := log2_div h h0
  unfold stick
  split
  · exact ⟨h1, h2⟩
  · split
    · exact ⟨h1, h2⟩
    · rename_i ho
      have a := Nat.log2_self_le h2
      have b : M / 2 ^ s < 2 ^ ((M / 2 ^ s).log2 + 1) := Nat.lt_log2_self
      rw [h1] at a b
      refine ⟨(Nat.log2_eq_iff (by omega)).2 ⟨by omega, ?_⟩, by omega⟩
      have : (2 : Nat) ^ (M.log2 - s + 1) = 2 * 2 ^ (M.log2 - s) := by rw [Nat.pow_succ, Nat.mul_comm]
      omega
theorem nearR_stick {M s : Nat} {p : Int} (h0 : M ≠ 0) (h : s + 60 ≤ M.log2) : nearR (stick M s false) (s + p) = nearR M p := by
  obtain ⟨h1, _⟩ := log2_stick false (show s ≤ M.log2 by omega) h0
  have hL : lastP (stick M s false) (s + p) = lastP M p := by
    unfold lastP; rw [h1]; congr 1; omega
  have hL2 : (s : Int) + p + 8 ≤ lastP M p := by unfold lastP; omega
  unfold nearR
  rw [hL]
  obtain ⟨d, hd⟩ : ∃ d : Nat, lastP M p = s + p + d := ⟨(lastP M p - (s + p)).toNat, by omega⟩
  have e1 : ((s : Int) + p - lastP M p).toNat = 0 := by omega
  have e2 : (p - lastP M p).toNat = 0 := by omega
  have e3 : (lastP M p - (s + p)).toNat = d := by omega
  have e4 : (lastP M p - p).toNat = d + s := by omega
  rw [e1, e2, e3, e4, Nat.pow_zero, Nat.mul_one, Nat.mul_one]
  have hs : stick M s false = (if M % 2 ^ s = 0 then M / 2 ^ s else (if M / 2 ^ s % 2 = 1 then M / 2 ^ s else M / 2 ^ s + 1)) := by unfold stick; simp only [and_true]
  rw [hs, rne_sticky (by omega)]
theorem nearR_scale {M : Nat} (h0 : M ≠ 0) (k : Nat) (p : Int) : nearR (M * 2 ^ k) (p - k) = nearR M p := by
  have hlog : (M * 2 ^ k).log2 = M.log2 + k := by
    have a := Nat.log2_self_le h0
    have b : M < 2 ^ (M.log2 + 1) := Nat.lt_log2_self
    have hp := Nat.two_pow_pos k
    refine (Nat.log2_eq_iff (by have := Nat.mul_pos (show 0 < M by omega) hp; omega)).2 ⟨?_, ?_⟩
    · rw [Nat.pow_add]; exact Nat.mul_le_mul_right _ a
    · rw [show M.log2 + k + 1 = (M.log2 + 1) + k by omega, Nat.pow_add]; exact Nat.mul_lt_mul_of_pos_right b hp
  have hL : lastP (M * 2 ^ k) (p - k) = lastP M p := by unfold lastP; rw [hlog]; congr 1; omega
  unfold nearR
  rw [hL]
  generalize lastP M p = L
  congr 2
  by_cases hc : p ≤ L
  · have e1 : (p - (k : Int) - L).toNat = 0 := by omega
    have e2 : (p - L).toNat = 0 := by omega
    have e3 : (L - (p - (k : Int))).toNat = (L - p).toNat + k := by omega
    rw [e1, e2, e3, Nat.pow_zero, Nat.mul_one, Nat.mul_one, rne_scale]
  · obtain ⟨q, hq⟩ : ∃ q : Nat, p = L + q := ⟨(p - L).toNat, by omega⟩
    have e2 : (p - L).toNat = q := by omega
    have e4 : (L - p).toNat = 0 := by omega
    rw [e2, e4, rne_zero]
    by_cases hk : k ≤ q
    · have e1 : (p - (k : Int) - L).toNat = q - k := by omega
      have e3 : (L - (p - (k : Int))).toNat = 0 := by omega
      rw [e1, e3, rne_zero, Nat.mul_assoc, ← Nat.pow_add]; congr 2; omega
    · have e1 : (p - (k : Int) - L).toNat = 0 := by omega
      have e3 : (L - (p - (k : Int))).toNat = 0 + (k - q) := by omega
      rw [e1, e3, Nat.pow_zero, Nat.mul_one, show M * 2 ^ k = (M * 2 ^ q) * 2 ^ (k - q) by rw [Nat.mul_assoc, ← Nat.pow_add]; congr 2; omega, rne_scale, rne_zero]

def mant (M : Nat) (more : Bool) : Nat := if M = 0 then (if more then 1 else 0) else stick (M * 2 ^ 64) (M.log2 + 3) more
def expo (M : Nat) : Int := if M = 0 then -2210 else (M.log2 : Int) - 2209
def sgM (neg : Bool) (m : Nat) : Int := if neg then -(m : Int) else (m : Int)
theorem log2_scaled {M : Nat} (h0 : M ≠ 0) (k : Nat) : (M * 2 ^ k).log2 = M.log2 + k := by
  have a := Nat.log2_self_le h0
  have b : M < 2 ^ (M.log2 + 1) := Nat.lt_log2_self
  have hp := Nat.two_pow_pos k
  refine (Nat.log2_eq_iff (by have := Nat.mul_pos (show 0 < M by omega) hp; omega)).2 ⟨?_, ?_⟩
  · rw [Nat.pow_add]; exact Nat.mul_le_mul_right _ a
  · rw [show M.log2 + k + 1 = (M.log2 + 1) + k by omega, Nat.pow_add]; exact Nat.mul_lt_mul_of_pos_right b hp
theorem nearR_mant {M : Nat} (h0 : M ≠ 0) : nearR (mant M false) (expo M) = nearR M (-2148) := by
  have hp := Nat.two_pow_pos 64
  have h1 : M * 2 ^ 64 ≠ 0 := by have := Nat.mul_pos (show 0 < M by omega) hp; omega
  unfold mant expo
  rw [if_neg h0, if_neg h0, show (M.log2 : Int) - 2209 = ((M.log2 + 3 : Nat) : Int) + (-2148 - (64 : Nat)) by omega, nearR_stick h1 (by rw [log2_scaled h0]; omega), nearR_scale h0]
theorem mant_lt (M : Nat) (more : Bool) : mant M more < 2 ^ 62 := by
  unfold mant
  split
  · split <;> decide
  · rename_i h0
    have hp := Nat.two_pow_pos 64
    have h1 : M * 2 ^ 64 ≠ 0 := by have := Nat.mul_pos (show 0 < M by omega) hp; omega
    obtain ⟨h2, h3⟩ := log2_stick more (show M.log2 + 3 ≤ (M * 2 ^ 64).log2 by rw [log2_scaled h0]; omega) h1
    have : stick (M * 2 ^ 64) (M.log2 + 3) more < 2 ^ ((stick (M * 2 ^ 64) (M.log2 + 3) more).log2 + 1) := Nat.lt_log2_self
    rw [h2, log2_scaled h0, show M.log2 + 64 - (M.log2 + 3) + 1 = 62 by omega] at this
    exact this
def valF (N : Int) : Nat := joinN N (-2148)
theorem join_mant (N : Int) : joinN (sgM (decide (N < 0)) (mant N.natAbs false)) (expo N.natAbs) = valF N := by
  unfold valF
  by_cases h0 : N = 0
  · subst h0; decide
  · have h1 : N.natAbs ≠ 0 := by omega
    have hp := Nat.two_pow_pos 64
    have h2 : N.natAbs * 2 ^ 64 ≠ 0 := by have := Nat.mul_pos (show 0 < N.natAbs by omega) hp; omega
    have h3 : mant N.natAbs false ≠ 0 := by
      unfold mant; rw [if_neg h1]
      exact (log2_stick false (by rw [log2_scaled h1]; omega) h2).2
    have h4 := nearR_mant h1
    unfold joinN sgM
    by_cases hn : N < 0
    · simp only [hn, decide_true, if_true]
      rw [if_neg (by omega), if_pos (by omega), if_neg h0, show (-(mant N.natAbs false : Int)).natAbs = mant N.natAbs false by omega, h4]
    · simp only [hn, decide_false, Bool.false_eq_true, if_false]
      rw [if_neg (by omega), if_neg (by omega), if_neg h0, show ((mant N.natAbs false : Nat) : Int).natAbs = mant N.natAbs false by omega, h4]

theorem lead_parts {x y ld : Nat} (hx : x ≠ 0) (hxf : x < 18446744073709551616) (hy : y < 18446744073709551616) (hld : ld = 63 - x.log2) :
    x * 2 ^ ld < 18446744073709551616 ∧ (x * 2 ^ ld) ||| (y / 2 ^ (64 - ld)) = x * 2 ^ ld + y / 2 ^ (64 - ld) ∧ x * 2 ^ ld + y / 2 ^ (64 - ld) < 18446744073709551616 ∧ ld ≤ 63 := by
  have h1 : x * 2 ^ ld < 18446744073709551616 := by rw [hld]; exact top_lt hx hxf
  have h2 := piece1 (hi := x) (show ld < 64 by omega) hy
  rw [Nat.mod_eq_of_lt h1] at h2
  refine ⟨h1, h2, ?_, by omega⟩
  rw [← h2]
  exact Nat.or_lt_two_pow (n := 64) h1 (Nat.lt_of_le_of_lt (Nat.div_le_self _ _) hy)
theorem near_main {x y ld T R M : Nat} {more : Bool} (hx : x ≠ 0) (hxf : x < 18446744073709551616) (hld : ld = 63 - x.log2) (hM : M * 2 ^ 64 = (x * 18446744073709551616 + y) * 2 ^ (64 * T) + R * 2 ^ 64) (hR : R * 2 ^ 64 < 2 ^ (64 * T)) (hyf : y < 18446744073709551616) :
    mant M more = (if (more = true ∨ R ≠ 0) ∨ (x * 2 ^ ld + y / 2 ^ (64 - ld)) % 4 ≠ 0 ∨ y * 2 ^ ld % 18446744073709551616 ≠ 0 then (if (x * 2 ^ ld + y / 2 ^ (64 - ld)) / 4 % 2 = 1 then (x * 2 ^ ld + y / 2 ^ (64 - ld)) / 4 else (x * 2 ^ ld + y / 2 ^ (64 - ld)) / 4 + 1) else (x * 2 ^ ld + y / 2 ^ (64 - ld)) / 4) ∧ expo M = 64 * (T : Int) - ld + 2 + -2148 := by
  have e64 : (2 : Nat) ^ 64 = 18446744073709551616 := rfl
  rw [e64] at hM hR
  have hxl : x.log2 < 64 := (Nat.log2_lt hx).2 hxf
  have hl : ld ≤ 63 := by omega
  have eW : (18446744073709551616 : Nat) = 2 ^ ld * 2 ^ (64 - ld) := by rw [← Nat.pow_add, show ld + (64 - ld) = 64 by omega]
  obtain ⟨Z, hZ⟩ : ∃ Z, Z = x * 18446744073709551616 + y := ⟨_, rfl⟩
  rw [← hZ] at hM
  have hp := Nat.two_pow_pos (64 - ld)
  have hZd : Z / 2 ^ (64 - ld) = x * 2 ^ ld + y / 2 ^ (64 - ld) := by
    rw [hZ, eW, ← Nat.mul_assoc, Nat.add_comm, Nat.add_mul_div_right _ _ hp, Nat.add_comm]
  have hZm : Z % 2 ^ (64 - ld) = y % 2 ^ (64 - ld) := by
    rw [hZ, eW, ← Nat.mul_assoc, Nat.add_comm, Nat.add_mul_mod_self_right]
  have hM0 : M ≠ 0 := by
    intro e
    rw [e, Nat.zero_mul] at hM
    have h1 : 0 < Z * 2 ^ (64 * T) := Nat.mul_pos (by omega) (Nat.two_pow_pos _)
    omega
  have hlogM : M.log2 + 3 = 64 * T + (66 - ld) := by
    have h1 := log2_scaled hM0 64
    rw [e64] at h1
    have h2 : (M * 18446744073709551616).log2 = x.log2 + 64 + 64 * T := by
      have a := Nat.log2_self_le hx
      have b : x < 2 ^ (x.log2 + 1) := Nat.lt_log2_self
      have b2 : x + 1 ≤ 2 ^ (x.log2 + 1) := b
      have hz1 : 2 ^ (x.log2 + 64) ≤ Z := by
        rw [Nat.pow_add, hZ, e64]
        exact Nat.le_trans (Nat.mul_le_mul_right _ a) (Nat.le_add_right _ _)
      have hz2 : Z + 1 ≤ 2 ^ (x.log2 + 1 + 64) := by
        rw [Nat.pow_add, hZ, e64]
        refine Nat.le_trans ?_ (Nat.mul_le_mul_right 18446744073709551616 b2)
        rw [Nat.add_mul, Nat.one_mul, Nat.add_assoc]
        exact Nat.add_le_add_left (Nat.succ_le_of_lt hyf) _
      clear e64
      have hT := Nat.two_pow_pos (64 * T)
      refine (Nat.log2_eq_iff ?_).2 ⟨?_, ?_⟩
      · have := Nat.mul_pos (show 0 < M by omega) (show 0 < 18446744073709551616 by decide); omega
      · rw [hM, Nat.pow_add]; have := Nat.mul_le_mul_right (2 ^ (64 * T)) hz1; omega
      · rw [hM, show x.log2 + 64 + 64 * T + 1 = (x.log2 + 1 + 64) + 64 * T by omega, Nat.pow_add]
        have := Nat.mul_le_mul_right (2 ^ (64 * T)) hz2
        rw [Nat.add_mul, Nat.one_mul] at this
        omega
    omega
  have hs : M * 18446744073709551616 / 2 ^ (M.log2 + 3) = (x * 2 ^ ld + y / 2 ^ (64 - ld)) / 4 := by
    rw [hlogM, Nat.pow_add, ← Nat.div_div_eq_div_mul, hM, Nat.add_comm (Z * _), Nat.add_mul_div_right _ _ (Nat.two_pow_pos _), Nat.div_eq_of_lt hR, Nat.zero_add, show 66 - ld = (64 - ld) + 2 by omega, Nat.pow_add, ← Nat.div_div_eq_div_mul, hZd]
  have hm : M * 18446744073709551616 % 2 ^ (M.log2 + 3) = 0 ↔ (R = 0 ∧ (x * 2 ^ ld + y / 2 ^ (64 - ld)) % 4 = 0 ∧ y * 2 ^ ld % 18446744073709551616 = 0) := by
    rw [hlogM, Nat.pow_add, Nat.mod_mul]
    have e1 : M * 18446744073709551616 % 2 ^ (64 * T) = R * 18446744073709551616 := by rw [hM, Nat.add_comm (Z * _), Nat.add_mul_mod_self_right, Nat.mod_eq_of_lt hR]
    have e2 : M * 18446744073709551616 / 2 ^ (64 * T) = Z := by rw [hM, Nat.add_comm (Z * _), Nat.add_mul_div_right _ _ (Nat.two_pow_pos _), Nat.div_eq_of_lt hR, Nat.zero_add]
    rw [e1, e2, show 66 - ld = (64 - ld) + 2 by omega, Nat.pow_add, Nat.mod_mul, hZm, hZd]
    have e3 : y * 2 ^ ld % 18446744073709551616 = (y % 2 ^ (64 - ld)) * 2 ^ ld := by
      rw [eW, Nat.mul_comm y, Nat.mul_mod_mul_left, Nat.mul_comm]
    rw [e3]
    have hp1 := Nat.two_pow_pos ld
    have hp2 := Nat.two_pow_pos (64 * T)
    generalize y % 2 ^ (64 - ld) = r
    generalize (x * 2 ^ ld + y / 2 ^ (64 - ld)) = win
    rw [show (2 : Nat) ^ 2 = 4 from rfl]
    constructor
    · intro h
      obtain ⟨h1, h2⟩ := Nat.add_eq_zero_iff.1 h
      have h1' : R = 0 := by
        rcases Nat.mul_eq_zero.1 h1 with h3 | h3
        · exact h3
        · exact absurd h3 (by decide)
      rcases Nat.mul_eq_zero.1 h2 with h3 | h3
      · exact absurd h3 (Nat.ne_of_gt hp2)
      · obtain ⟨h4, h5⟩ := Nat.add_eq_zero_iff.1 h3
        rcases Nat.mul_eq_zero.1 h5 with h6 | h6
        · exact absurd h6 (Nat.ne_of_gt hp)
        · exact ⟨h1', h6, by rw [h4, Nat.zero_mul]⟩
    · rintro ⟨rfl, h2, h3⟩
      rcases Nat.mul_eq_zero.1 h3 with h4 | h4
      · rw [h4, h2]; simp
      · exact absurd h4 (Nat.ne_of_gt hp1)
  refine ⟨?_, ?_⟩
  · unfold mant stick
    rw [if_neg hM0, e64, hs]
    by_cases hc : M * 18446744073709551616 % 2 ^ (M.log2 + 3) = 0 ∧ more = false
    · rw [if_pos hc]
      obtain ⟨h1, h2, h3⟩ := hm.1 hc.1
      have h4 : ¬ ((more = true ∨ R ≠ 0) ∨ (x * 2 ^ ld + y / 2 ^ (64 - ld)) % 4 ≠ 0 ∨ y * 2 ^ ld % 18446744073709551616 ≠ 0) := by
        rw [hc.2]; simp [h1, h2, h3]
      rw [if_neg h4]
    · rw [if_neg hc]
      have h4 : (more = true ∨ R ≠ 0) ∨ (x * 2 ^ ld + y / 2 ^ (64 - ld)) % 4 ≠ 0 ∨ y * 2 ^ ld % 18446744073709551616 ≠ 0 := by
        by_cases h5 : more = true
        · exact Or.inl (Or.inl h5)
        · by_cases h6 : R = 0
          · by_cases h7 : (x * 2 ^ ld + y / 2 ^ (64 - ld)) % 4 = 0
            · refine Or.inr (Or.inr fun h8 => hc ⟨hm.2 ⟨h6, h7, h8⟩, by simpa using h5⟩)
            · exact Or.inr (Or.inl h7)
          · exact Or.inl (Or.inr h6)
      rw [if_pos h4]
  · unfold expo
    rw [if_neg hM0]; omega
end Go.Proofs.YtphnainibdepbaaGreat
namespace Go.Proofs.YtphnainibdepbaaGreat

def vI (b : Nat) : Int := if b / 9223372036854775808 % 2 == 1 then -(V (b % 9223372036854775808) : Int) else (V (b % 9223372036854775808) : Int)
def sgZ (s : Bool) (n : Nat) : Int := if s then -(n : Int) else (n : Int)
theorem sgZ_mul (s : Bool) (n k : Nat) : sgZ s (n * k) = sgZ s n * k := by
  unfold sgZ; cases s <;> simp [Int.neg_mul]
theorem signed_eq (s : Bool) (m k : Nat) : Ieee.signed s m k = sgZ s (m * 2 ^ k) := by
  unfold Ieee.signed sgZ; rw [Nat.shiftLeft_eq]
theorem word_true (r : Nat) : Ieee.double.word true r = 9223372036854775808 + r := rfl
theorem word_false (r : Nat) : Ieee.double.word false r = r := rfl
def addR (s t : Bool) (T : Int) : Nat := if T = 0 then (if s && t then 9223372036854775808 else 0) else joinN T (-1074)
theorem sum_write (s t : Bool) (m n p q : Nat) :
    ((Ieee.Datum.number s m (-1074 + (p : Int))).sum (.number t n (-1074 + (q : Int)))).map Ieee.double.write = some (addR s t (sgZ s (m * 2 ^ p) + sgZ t (n * 2 ^ q))) := by
  obtain ⟨e, he⟩ : ∃ e, min p q = e := ⟨_, rfl⟩
  have hb : min (-1074 + (p : Int)) (-1074 + (q : Int)) = -1074 + (e : Int) := by omega
  have h1 : (-1074 + (p : Int) - (-1074 + (e : Int))).toNat = p - e := by omega
  have h2 : (-1074 + (q : Int) - (-1074 + (e : Int))).toNat = q - e := by omega
  obtain ⟨T, hT⟩ : ∃ T, sgZ s (m * 2 ^ (p - e)) + sgZ t (n * 2 ^ (q - e)) = T := ⟨_, rfl⟩
  have hTT : sgZ s (m * 2 ^ p) + sgZ t (n * 2 ^ q) = T * ((2 ^ e : Nat) : Int) := by
    rw [← hT, Int.add_mul, ← sgZ_mul, ← sgZ_mul, Nat.mul_assoc, Nat.mul_assoc, ← Nat.pow_add, ← Nat.pow_add, show p - e + e = p by omega, show q - e + e = q by omega]
  have key : ((Ieee.Datum.number s m (-1074 + (p : Int))).sum (.number t n (-1074 + (q : Int)))).map Ieee.double.write = some (Ieee.double.nearest (if T = 0 then s && t else decide (T < 0)) T.natAbs (-1074 + (e : Int))) := by
    show some (Ieee.double.write (.number (if Ieee.signed s m (-1074 + (p : Int) - min (-1074 + (p : Int)) (-1074 + (q : Int))).toNat + Ieee.signed t n (-1074 + (q : Int) - min (-1074 + (p : Int)) (-1074 + (q : Int))).toNat = 0 then s && t else decide (Ieee.signed s m (-1074 + (p : Int) - min (-1074 + (p : Int)) (-1074 + (q : Int))).toNat + Ieee.signed t n (-1074 + (q : Int) - min (-1074 + (p : Int)) (-1074 + (q : Int))).toNat < 0)) (Ieee.signed s m (-1074 + (p : Int) - min (-1074 + (p : Int)) (-1074 + (q : Int))).toNat + Ieee.signed t n (-1074 + (q : Int) - min (-1074 + (p : Int)) (-1074 + (q : Int))).toNat).natAbs (min (-1074 + (p : Int)) (-1074 + (q : Int))))) = _
    rw [hb, h1, h2, signed_eq, signed_eq, hT]
    rfl
  rw [key, hTT]
  have hp : (0 : Int) < ((2 ^ e : Nat) : Int) := by have := Nat.two_pow_pos e; omega
  unfold addR
  by_cases h0 : T = 0
  · subst h0
    rw [if_pos rfl, Int.zero_mul, if_pos rfl]
    show some (Ieee.double.nearest (s && t) 0 _) = _
    rw [nearest_zero]
    cases s <;> cases t <;> rfl
  · rw [if_neg h0]
    have h3 : T * ((2 ^ e : Nat) : Int) ≠ 0 := Int.mul_ne_zero h0 (by omega)
    rw [if_neg h3, nearest_eq _ (by omega)]
    have h4 : nearR (T * ((2 ^ e : Nat) : Int)).natAbs (-1074) = nearR T.natAbs (-1074 + (e : Int)) := by
      have := nearR_scale (M := T.natAbs) (by omega) e (-1074 + (e : Int))
      rw [show -1074 + (e : Int) - (e : Int) = -1074 by omega] at this
      rw [Int.natAbs_mul, Int.natAbs_natCast]; exact this
    unfold joinN
    rw [if_neg h3, h4]
    have h5 : T * ((2 ^ e : Nat) : Int) < 0 ↔ T < 0 := by
      constructor
      · intro h
        by_cases h6 : T < 0
        · exact h6
        · have := Int.mul_nonneg (by omega : 0 ≤ T) (by omega : (0 : Int) ≤ ((2 ^ e : Nat) : Int)); omega
      · intro h; exact Int.mul_neg_of_neg_of_pos h hp
    by_cases h6 : T < 0
    · rw [if_pos (h5.2 h6)]
      simp only [h6, decide_true]
      rw [word_true]
    · rw [if_neg (fun h => h6 (h5.1 h))]
      simp only [h6, decide_false]
      rw [word_false]
theorem vI_eq (b : Nat) : vI b = sgZ (b / 9223372036854775808 % 2 == 1) (mg (b % 9223372036854775808) * 2 ^ pl (b % 9223372036854775808)) := rfl
theorem add_num {x y : Nat} (hx : x % 9223372036854775808 < 9218868437227405312) (hy : y % 9223372036854775808 < 9218868437227405312) :
    floatBits .add .f64 x y = some (addR (x / 9223372036854775808 % 2 == 1) (y / 9223372036854775808 % 2 == 1) (vI x + vI y)) := by
  show ((Ieee.double.read x).sum (Ieee.double.read y)).map Ieee.double.write = _
  rw [read_num hx, read_num hy, sum_write, vI_eq, vI_eq]
theorem sub_num {x y : Nat} (hx : x % 9223372036854775808 < 9218868437227405312) (hy : y % 9223372036854775808 < 9218868437227405312) :
    floatBits .sub .f64 x y = some (addR (x / 9223372036854775808 % 2 == 1) (!(y / 9223372036854775808 % 2 == 1)) (vI x - vI y)) := by
  show ((Ieee.double.read x).sum (Ieee.double.read y).opposite).map Ieee.double.write = _
  rw [read_num hx, read_num hy]
  show ((Ieee.Datum.number _ _ _).sum (Ieee.Datum.number _ _ _)).map Ieee.double.write = _
  rw [sum_write, vI_eq, vI_eq, Int.sub_eq_add_neg]
  congr 3
  unfold sgZ
  cases (y / 9223372036854775808 % 2 == 1) <;> simp

def fi (m : Int) : Nat := joinN m 0
theorem fi_zero : fi 0 = 0 := rfl
theorem V_great {K : Nat} (hK : K = 1074) : V 4845873199050653696 = 9007199254740992 * 2 ^ K := by
  have h1 : mg 4845873199050653696 = 4503599627370496 := by decide
  have h2 : pl 4845873199050653696 = K + 1 := by rw [hK]; decide
  unfold V
  rw [h1, h2, Nat.pow_succ]; omega
theorem near_low {m l k : Nat} (hl : m.log2 = l) (hl2 : l ≤ 52) (hk : m * 2 ^ (52 - l) = k) (hk2 : k < 9007199254740992) : nearR m 0 = (l + 1022) * 4503599627370496 + k := by
  have hL : lastP m 0 = (l : Int) - 52 := by unfold lastP; rw [hl]; omega
  have e1 : (0 - lastP m 0).toNat = 52 - l := by rw [hL]; omega
  have e2 : (lastP m 0 - 0).toNat = 0 := by rw [hL]; omega
  have e3 : (lastP m 0 + 1074).toNat = l + 1022 := by rw [hL]; omega
  unfold nearR
  rw [e1, e2, e3, hk, rne_zero]
  exact Nat.min_eq_left (by omega)
theorem mg_pl {l k : Nat} (hk1 : 4503599627370496 ≤ k) (hk2 : k < 9007199254740992) : mg ((l + 1022) * 4503599627370496 + k) = k ∧ pl ((l + 1022) * 4503599627370496 + k) = l + 1022 := by
  unfold mg pl
  rw [if_neg (by omega)]
  omega
theorem V_whole {m K : Nat} (hK : K = 1074) (h0 : 0 < m) (h : m ≤ 9007199254740992) : V (nearR m 0) = m * 2 ^ K ∧ nearR m 0 < 9218868437227405312 := by
  have hlog : m.log2 ≤ 53 := by
    have : m.log2 < 54 := (Nat.log2_lt (by omega)).2 (by omega)
    omega
  have a := Nat.log2_self_le (show m ≠ 0 by omega)
  have b : m < 2 ^ (m.log2 + 1) := Nat.lt_log2_self
  by_cases h53 : m.log2 = 53
  · have hm : m = 9007199254740992 := by rw [h53] at a; omega
    subst hm
    have e : nearR 9007199254740992 0 = 4845873199050653696 := by decide
    rw [e]
    exact ⟨V_great hK, by decide⟩
  · obtain ⟨l, hl⟩ : ∃ l, m.log2 = l := ⟨_, rfl⟩
    rw [hl] at a b hlog h53
    have hl2 : l ≤ 52 := by omega
    obtain ⟨k, hk⟩ : ∃ k, m * 2 ^ (52 - l) = k := ⟨_, rfl⟩
    have hk1 : 4503599627370496 ≤ k := by
      have := Nat.mul_le_mul_right (2 ^ (52 - l)) a
      rw [← Nat.pow_add, show l + (52 - l) = 52 by omega, hk] at this; exact this
    have hk2 : k < 9007199254740992 := by
      have := Nat.mul_lt_mul_of_pos_right b (Nat.two_pow_pos (52 - l))
      rw [← Nat.pow_add, show l + 1 + (52 - l) = 53 by omega, hk] at this; exact this
    rw [near_low hl hl2 hk hk2]
    obtain ⟨hmg, hpl⟩ := mg_pl (l := l) hk1 hk2
    refine ⟨?_, by omega⟩
    unfold V
    rw [hmg, hpl, ← hk, Nat.mul_assoc, ← Nat.pow_add, show 52 - l + (l + 1022) = K by omega]
theorem vI_fi {m : Int} {K : Nat} (hK : K = 1074) (h1 : -9007199254740992 ≤ m) (h2 : m ≤ 9007199254740992) : vI (fi m) = m * ((2 ^ K : Nat) : Int) ∧ fi m % 9223372036854775808 < 9218868437227405312 ∧ (fi m / 9223372036854775808 % 2 == 1) = decide (m < 0) ∧ fi m < 18446744073709551616 := by
  unfold fi joinN
  by_cases h0 : m = 0
  · subst h0; exact ⟨by simp [vI, V_zero], by decide, by decide, by decide⟩
  · rw [if_neg h0]
    obtain ⟨a, b⟩ := V_whole (m := m.natAbs) hK (by omega) (by omega)
    by_cases hn : m < 0
    · rw [if_pos hn]
      have e1 : (9223372036854775808 + nearR m.natAbs 0) % 9223372036854775808 = nearR m.natAbs 0 := by omega
      have e2 : (9223372036854775808 + nearR m.natAbs 0) / 9223372036854775808 % 2 = 1 := by omega
      refine ⟨?_, by omega, by rw [e2]; simp [hn], by omega⟩
      unfold vI
      rw [e1, e2, a]
      simp only [beq_self_eq_true, if_true, Int.natCast_mul]
      rw [← Int.neg_mul]
      congr 1; omega
    · rw [if_neg hn]
      have e1 : nearR m.natAbs 0 % 9223372036854775808 = nearR m.natAbs 0 := by omega
      have e2 : nearR m.natAbs 0 / 9223372036854775808 % 2 = 0 := by omega
      refine ⟨?_, by omega, by rw [e2]; simp [hn], by omega⟩
      unfold vI
      rw [e1, e2, a]
      simp only [show ((0 : Nat) == 1) = false from rfl, Bool.false_eq_true, if_false, Int.natCast_mul]
      congr 1; omega
end Go.Proofs.YtphnainibdepbaaGreat
namespace Go.Proofs.YtphnainibdepbaaGreat

def wrd (s : Bool) (r : Nat) : Nat := if s then 9223372036854775808 + r else r
theorem word_eq (s : Bool) (r : Nat) : Ieee.double.word s r = wrd s r := by cases s <;> rfl
def sB (x : Nat) : Bool := x / 9223372036854775808 % 2 == 1
def aV (x : Nat) : Nat := V (x % 9223372036854775808)
def NumB (x : Nat) : Prop := x % 9223372036854775808 < 9218868437227405312
def mulR (s : Bool) (T : Nat) : Nat := if T = 0 then wrd s 0 else wrd s (nearR T (-2148))
theorem mul_write (s : Bool) (m n p q : Nat) :
    Ieee.double.nearest s (m * n) (-1074 + (p : Int) + (-1074 + (q : Int))) = mulR s (m * 2 ^ p * (n * 2 ^ q)) := by
  have e : m * 2 ^ p * (n * 2 ^ q) = m * n * 2 ^ (p + q) := by rw [Nat.pow_add, Nat.mul_mul_mul_comm]
  rw [e]
  unfold mulR
  by_cases h0 : m * n = 0
  · rw [h0, Nat.zero_mul, if_pos rfl, nearest_zero, word_eq]
  · have hp := Nat.two_pow_pos (p + q)
    have h1 : m * n * 2 ^ (p + q) ≠ 0 := by have := Nat.mul_pos (show 0 < m * n by omega) hp; omega
    rw [if_neg h1, nearest_eq _ h0, word_eq]
    have := nearR_scale h0 (p + q) (-1074 + (p : Int) + (-1074 + (q : Int)))
    rw [← this]
    congr 2
    omega
theorem mul_num {x y : Nat} (hx : NumB x) (hy : NumB y) : floatBits .mul .f64 x y = some (mulR (sB x ^^ sB y) (aV x * aV y)) := by
  show ((Ieee.double.read x).product (Ieee.double.read y)).map Ieee.double.write = _
  rw [read_num hx, read_num hy]
  show some (Ieee.double.nearest (_ ^^ _) _ _) = _
  rw [mul_write]; rfl

theorem rne_mono {n n' d : Nat} (h : n ≤ n') : rne n d ≤ rne n' d := by
  have h1 : n / 2 ^ d ≤ n' / 2 ^ d := Nat.div_le_div_right h
  rcases Nat.lt_or_eq_of_le h1 with h2 | h2
  · have := rne_le n d
    have h3 : n' / 2 ^ d ≤ rne n' d := by unfold rne; exact Nat.le_add_right _ _
    omega
  · have e1 := Nat.div_add_mod n (2 ^ d)
    have e2 := Nat.div_add_mod n' (2 ^ d)
    rw [h2] at e1
    have h3 : n % 2 ^ d ≤ n' % 2 ^ d := by omega
    unfold rne
    rw [h2]
    by_cases hc : 2 ^ d < 2 * (n % 2 ^ d) ∨ (2 ^ d = 2 * (n % 2 ^ d) ∧ n' / 2 ^ d % 2 = 1)
    · rw [if_pos hc, if_pos (by omega)]; exact Nat.le_refl _
    · rw [if_neg hc]; omega
theorem log2_le {m n : Nat} (h : m ≤ n) : m.log2 ≤ n.log2 := by
  by_cases h0 : m = 0
  · subst h0; simp
  · by_cases hc : n.log2 < m.log2
    · have a := Nat.log2_self_le h0
      have b : n < 2 ^ (n.log2 + 1) := Nat.lt_log2_self
      have : 2 ^ (n.log2 + 1) ≤ 2 ^ m.log2 := Nat.pow_le_pow_right (by decide) hc
      omega
    · omega
def keptN (M : Nat) (e : Int) : Nat := rne (M * 2 ^ (e - lastP M e).toNat) (lastP M e - e).toNat
theorem kept_hi {M : Nat} {e : Int} : keptN M e ≤ 9007199254740992 := by
  unfold keptN
  have hl : e + M.log2 - 52 ≤ lastP M e := by unfold lastP; omega
  generalize lastP M e = L at hl
  have b : M < 2 ^ (M.log2 + 1) := Nat.lt_log2_self
  generalize M.log2 = l at b hl
  refine rne_bd ?_
  have h1 : M * 2 ^ (e - L).toNat < 2 ^ (l + 1) * 2 ^ (e - L).toNat := Nat.mul_lt_mul_of_pos_right b (Nat.two_pow_pos _)
  refine Nat.lt_of_lt_of_le h1 ?_
  rw [show (9007199254740992 : Nat) = 2 ^ 53 from rfl, ← Nat.pow_add, ← Nat.pow_add]
  exact Nat.pow_le_pow_right (by decide) (by omega)
theorem kept_lo {M : Nat} {e : Int} (h0 : M ≠ 0) (h : -1074 < lastP M e) : 4503599627370496 ≤ keptN M e := by
  unfold keptN
  have hl : e + M.log2 - 52 = lastP M e := by unfold lastP at *; omega
  generalize lastP M e = L at hl h
  have a := Nat.log2_self_le h0
  generalize M.log2 = l at a hl
  refine Nat.le_trans ?_ (Nat.le_add_right _ _)
  rw [Nat.le_div_iff_mul_le (Nat.two_pow_pos _), show (4503599627370496 : Nat) = 2 ^ 52 from rfl, ← Nat.pow_add]
  refine Nat.le_trans ?_ (Nat.mul_le_mul_right _ a)
  rw [← Nat.pow_add]
  exact Nat.pow_le_pow_right (by decide) (by omega)
theorem nearR_kept (M : Nat) (e : Int) : nearR M e = min ((lastP M e + 1074).toNat * 4503599627370496 + keptN M e) 9218868437227405312 := rfl
theorem min_same {a c c' I : Nat} (h : c ≤ c') : min (a + c) I ≤ min (a + c') I := by omega
theorem min_next {a a' c c' I : Nat} (h : a + 1 ≤ a') (h1 : c ≤ 9007199254740992) (h2 : 4503599627370496 ≤ c') : min (a * 4503599627370496 + c) I ≤ min (a' * 4503599627370496 + c') I := by omega
theorem nearR_mono {M M' : Nat} (e : Int) (h : M ≤ M') : nearR M e ≤ nearR M' e := by
  have hl := log2_le h
  have hL : lastP M e ≤ lastP M' e := by unfold lastP; omega
  have hb : -1074 ≤ lastP M e := by unfold lastP; omega
  rw [nearR_kept, nearR_kept]
  by_cases hc : lastP M e = lastP M' e
  · have : keptN M e ≤ keptN M' e := by
      unfold keptN
      rw [hc]
      exact rne_mono (Nat.mul_le_mul_right _ h)
    rw [hc]; exact min_same this
  · have h0 : M' ≠ 0 := by
      intro h0; subst h0
      have : M = 0 := by omega
      subst this; exact hc rfl
    have h1 := kept_hi (M := M) (e := e)
    have h2 := kept_lo (M := M') (e := e) h0 (by omega)
    have h3 : (lastP M e + 1074).toNat + 1 ≤ (lastP M' e + 1074).toNat := by omega
    exact min_next h3 h1 h2
theorem nearR_zero {e : Int} (h : e ≤ -1022) : nearR 0 e = 0 := by
  have hl : lastP 0 e = -1074 := by unfold lastP; simp; omega
  unfold nearR
  rw [hl, Nat.zero_mul, rne_small (by have := Nat.two_pow_pos (-1074 - e).toNat; omega)]; rfl
theorem nearR_V {r : Nat} (h : r < 9218868437227405312) (k : Nat) : nearR (V r * 2 ^ k) (-1074 - (k : Int)) = r := by
  by_cases h0 : r = 0
  · subst h0; rw [V_zero, Nat.zero_mul, nearR_zero (by omega)]
  · have hm : mg r ≠ 0 := by
      unfold mg; split <;> omega
    have := nearR_scale hm (pl r + k) (-1074 + (pl r : Int))
    rw [nearR_mg (by omega) h] at this
    have e1 : V r * 2 ^ k = mg r * 2 ^ (pl r + k) := by unfold V; rw [Nat.mul_assoc, ← Nat.pow_add]
    have e2 : (-1074 - (k : Int)) = -1074 + (pl r : Int) - ((pl r + k : Nat) : Int) := by omega
    rw [e1, e2]; exact this
theorem near_le {T r k : Nat} (h : r < 9218868437227405312) (hT : T ≤ V r * 2 ^ k) : nearR T (-1074 - (k : Int)) ≤ r := by
  have := nearR_mono (-1074 - (k : Int)) hT
  rwa [nearR_V h] at this
theorem near_ge {T r k : Nat} (h : r < 9218868437227405312) (hT : V r * 2 ^ k ≤ T) : r ≤ nearR T (-1074 - (k : Int)) := by
  have := nearR_mono (-1074 - (k : Int)) hT
  rwa [nearR_V h] at this

def Rep (A : Int) : Prop := ∃ r, r < 9218868437227405312 ∧ A.natAbs = V r
theorem Rep.neg {A : Int} (h : Rep A) : Rep (-A) := by obtain ⟨r, a, b⟩ := h; exact ⟨r, a, by rw [Int.natAbs_neg]; exact b⟩
theorem rep_zero : Rep 0 := ⟨0, by decide, by rw [V_zero]; rfl⟩
def rI (k : Nat) (T : Int) : Int := if T < 0 then -(V (nearR T.natAbs (-1074 - (k : Int))) : Int) else (V (nearR T.natAbs (-1074 - (k : Int))) : Int)
def FinR (k : Nat) (T : Int) : Prop := nearR T.natAbs (-1074 - (k : Int)) < 9218868437227405312
theorem natAbs_mul_pow (A : Int) (k : Nat) : (A * ((2 ^ k : Nat) : Int)).natAbs = A.natAbs * 2 ^ k := by rw [Int.natAbs_mul, Int.natAbs_natCast]
theorem round_le {k : Nat} {T B : Int} (hB : Rep B) (h : T ≤ B * ((2 ^ k : Nat) : Int)) : rI k T ≤ B := by
  obtain ⟨r, hr, e⟩ := hB
  have hp : (0 : Int) < ((2 ^ k : Nat) : Int) := by have := Nat.two_pow_pos k; omega
  have hn := natAbs_mul_pow B k
  unfold rI
  by_cases hT : T < 0
  · rw [if_pos hT]
    by_cases hb : B < 0
    · have hb2 : B * ((2 ^ k : Nat) : Int) < 0 := Int.mul_neg_of_neg_of_pos hb hp
      have := near_ge (T := T.natAbs) hr (k := k) (by rw [← e, ← hn]; omega)
      have := V_le this
      omega
    · omega
  · rw [if_neg hT]
    have hb : 0 ≤ B := by
      by_cases hb : B < 0
      · have hb2 : B * ((2 ^ k : Nat) : Int) < 0 := Int.mul_neg_of_neg_of_pos hb hp
        omega
      · omega
    have hb2 : 0 ≤ B * ((2 ^ k : Nat) : Int) := Int.mul_nonneg hb (by omega)
    have := near_le (T := T.natAbs) hr (k := k) (by rw [← e, ← hn]; omega)
    have := V_le this
    omega
theorem rI_neg (k : Nat) (T : Int) : rI k (-T) = -rI k T := by
  unfold rI
  by_cases h0 : T = 0
  · subst h0
    have : V (nearR (0 : Int).natAbs (-1074 - (k : Int))) = 0 := by rw [Int.natAbs_zero, nearR_zero (by omega), V_zero]
    simp only [Int.neg_zero, this]; simp
  · rw [Int.natAbs_neg]
    by_cases h : T < 0
    · rw [if_pos h, if_neg (by omega)]; omega
    · rw [if_neg h, if_pos (by omega)]
theorem round_ge {k : Nat} {T A : Int} (hA : Rep A) (h : A * ((2 ^ k : Nat) : Int) ≤ T) : A ≤ rI k T := by
  have := round_le (k := k) (T := -T) hA.neg (by rw [Int.neg_mul]; omega)
  rw [rI_neg] at this; omega
theorem fin_of {k : Nat} {T A B : Int} (hA : Rep A) (hB : Rep B) (h1 : A * ((2 ^ k : Nat) : Int) ≤ T) (h2 : T ≤ B * ((2 ^ k : Nat) : Int)) : FinR k T := by
  unfold FinR
  have hp : (0 : Int) < ((2 ^ k : Nat) : Int) := by have := Nat.two_pow_pos k; omega
  by_cases hT : T < 0
  · obtain ⟨r, hr, e⟩ := hA
    have hn := natAbs_mul_pow A k
    have := near_le (T := T.natAbs) hr (k := k) (by rw [← e, ← hn]; omega)
    omega
  · obtain ⟨r, hr, e⟩ := hB
    have hn := natAbs_mul_pow B k
    have := near_le (T := T.natAbs) hr (k := k) (by rw [← e, ← hn]; omega)
    omega
end Go.Proofs.YtphnainibdepbaaGreat
namespace Go.Proofs.YtphnainibdepbaaGreat

def mgS (r : Nat) : Nat := if r < 8388608 then r else 8388608 + r % 8388608
def plS (r : Nat) : Nat := r / 8388608 - 1
def VS (r : Nat) : Nat := mgS r * 2 ^ plS r
theorem mgS_lt (r : Nat) : mgS r < 16777216 := by unfold mgS; split <;> omega
theorem readS_num {b : Nat} (h : b % 2147483648 < 2139095040) :
    Ieee.single.read b = .number (b / 2147483648 % 2 == 1) (mgS (b % 2147483648)) (-149 + (plS (b % 2147483648) : Int)) := by
  show (if b % 2147483648 < 8388608 then Ieee.Datum.number (b / 2147483648 % 2 == 1) (b % 2147483648) (-149) else
    if b % 2147483648 < 2139095040 then .number (b / 2147483648 % 2 == 1) (8388608 + b % 2147483648 % 8388608) (-149 + ((b % 2147483648 / 8388608 - 1 : Nat) : Int)) else _) = _
  generalize b % 2147483648 = r at *
  unfold mgS plS
  by_cases h1 : r < 8388608
  · rw [if_pos h1, if_pos h1, show r / 8388608 - 1 = 0 by omega]; rfl
  · rw [if_neg h1, if_pos h, if_neg h1]
theorem readS_inf {b : Nat} (h : b % 2147483648 = 2139095040) : Ieee.single.read b = .infinity (b / 2147483648 % 2 == 1) := by
  show (if b % 2147483648 < 8388608 then _ else if b % 2147483648 < 2139095040 then _ else
    if b % 2147483648 = 2139095040 then Ieee.Datum.infinity (b / 2147483648 % 2 == 1) else _) = _
  rw [h]; rfl
theorem readS_nan {b : Nat} (h : 2139095040 < b % 2147483648) : ∃ f, Ieee.single.read b = .nan (b / 2147483648 % 2 == 1) f := by
  refine ⟨b % 2147483648 - 2139095040, ?_⟩
  show (if b % 2147483648 < 8388608 then _ else if b % 2147483648 < 2139095040 then _ else
    if b % 2147483648 = 2139095040 then _ else Ieee.Datum.nan (b / 2147483648 % 2 == 1) (b % 2147483648 - 2139095040)) = _
  rw [if_neg (by omega), if_neg (by omega), if_neg (by omega)]
def lastS (mag : Nat) (place : Int) : Int := max (place + mag.log2 - 23) (-149)
def nearS (mag : Nat) (place : Int) : Nat :=
  min ((lastS mag place + 149).toNat * 8388608 + rne (mag * 2 ^ (place - lastS mag place).toNat) (lastS mag place - place).toNat) 2139095040
theorem nearestS_eq (neg : Bool) {mag : Nat} (h : mag ≠ 0) (place : Int) : Ieee.single.nearest neg mag place = Ieee.single.word neg (nearS mag place) := by
  unfold Ieee.Format.nearest
  rw [if_neg h]
  dsimp only
  rw [cut_even, Nat.shiftLeft_eq]
  rfl
theorem nearS_scale {M : Nat} (h0 : M ≠ 0) (k : Nat) (p : Int) : nearS (M * 2 ^ k) (p - k) = nearS M p := by
  have hlog : (M * 2 ^ k).log2 = M.log2 + k := by
    have a := Nat.log2_self_le h0
    have b : M < 2 ^ (M.log2 + 1) := Nat.lt_log2_self
    have hp := Nat.two_pow_pos k
    refine (Nat.log2_eq_iff (by have := Nat.mul_pos (show 0 < M by omega) hp; omega)).2 ⟨?_, ?_⟩
    · rw [Nat.pow_add]; exact Nat.mul_le_mul_right _ a
    · rw [show M.log2 + k + 1 = (M.log2 + 1) + k by omega, Nat.pow_add]; exact Nat.mul_lt_mul_of_pos_right b hp
  have hL : lastS (M * 2 ^ k) (p - k) = lastS M p := by unfold lastS; rw [hlog]; congr 1; omega
  unfold nearS
  rw [hL]
  generalize lastS M p = L
  congr 2
  by_cases hc : p ≤ L
  · have e1 : (p - (k : Int) - L).toNat = 0 := by omega
    have e2 : (p - L).toNat = 0 := by omega
    have e3 : (L - (p - (k : Int))).toNat = (L - p).toNat + k := by omega
    rw [e1, e2, e3, Nat.pow_zero, Nat.mul_one, Nat.mul_one, rne_scale]
  · obtain ⟨q, hq⟩ : ∃ q : Nat, p = L + q := ⟨(p - L).toNat, by omega⟩
    have e2 : (p - L).toNat = q := by omega
    have e4 : (L - p).toNat = 0 := by omega
    rw [e2, e4, rne_zero]
    by_cases hk : k ≤ q
    · have e1 : (p - (k : Int) - L).toNat = q - k := by omega
      have e3 : (L - (p - (k : Int))).toNat = 0 := by omega
      rw [e1, e3, rne_zero, Nat.mul_assoc, ← Nat.pow_add]; congr 2; omega
    · have e1 : (p - (k : Int) - L).toNat = 0 := by omega
      have e3 : (L - (p - (k : Int))).toNat = 0 + (k - q) := by omega
      rw [e1, e3, Nat.pow_zero, Nat.mul_one, show M * 2 ^ k = (M * 2 ^ q) * 2 ^ (k - q) by rw [Nat.mul_assoc, ← Nat.pow_add]; congr 2; omega, rne_scale, rne_zero]
def sgl (f : Nat) : Nat := nearS (V f) (-1074)
def dblK (K b : Nat) : Nat := nearR (VS b * 2 ^ K) (-1074)
def dblS (b : Nat) : Nat := dblK 925 b
theorem dbl_ex {b K : Nat} (hK : K = 925) (h0 : 0 < b) (h : b < 2139095040) : ∃ r, 0 < r ∧ r < 9218868437227405312 ∧ V r = VS b * 2 ^ K := by
  have hm : mgS b ≠ 0 := by unfold mgS; split <;> omega
  have hm2 := mgS_lt b
  have hp : plS b ≤ 253 := by unfold plS; omega
  unfold VS
  generalize mgS b = M at *
  generalize plS b = p at *
  have a := Nat.log2_self_le hm
  have c : M < 2 ^ (M.log2 + 1) := Nat.lt_log2_self
  have hl : M.log2 < 24 := (Nat.log2_lt hm).2 (by omega)
  generalize M.log2 = l at *
  have h1 : 4503599627370496 ≤ M * 2 ^ (52 - l) := by
    have : 2 ^ l * 2 ^ (52 - l) ≤ M * 2 ^ (52 - l) := Nat.mul_le_mul_right _ a
    rw [← Nat.pow_add, show l + (52 - l) = 52 by omega] at this
    exact this
  have h2 : M * 2 ^ (52 - l) < 9007199254740992 := by
    have : M * 2 ^ (52 - l) < 2 ^ (l + 1) * 2 ^ (52 - l) := Nat.mul_lt_mul_of_pos_right c (Nat.two_pow_pos _)
    rw [← Nat.pow_add, show l + 1 + (52 - l) = 53 by omega] at this
    exact this
  obtain ⟨k, hk⟩ : ∃ k, k = p + K - (52 - l) := ⟨_, rfl⟩
  have e : M * 2 ^ p * 2 ^ K = M * 2 ^ (52 - l) * 2 ^ k := by
    rw [Nat.mul_assoc, Nat.mul_assoc, ← Nat.pow_add, ← Nat.pow_add, show p + K = 52 - l + k by omega]
  rw [e]
  have hk2 : k ≤ 1200 := by omega
  generalize M * 2 ^ (52 - l) = m at *
  clear e hK hk
  refine ⟨(k + 1) * 4503599627370496 + (m - 4503599627370496), by omega, by omega, ?_⟩
  unfold V
  have em : mg ((k + 1) * 4503599627370496 + (m - 4503599627370496)) = m := by unfold mg; rw [if_neg (by omega)]; omega
  have ep : pl ((k + 1) * 4503599627370496 + (m - 4503599627370496)) = k := by unfold pl; omega
  rw [em, ep]
theorem dblK_V {b K : Nat} (hK : K = 925) (h0 : 0 < b) (h : b < 2139095040) : 0 < dblK K b ∧ dblK K b < 9218868437227405312 ∧ V (dblK K b) = VS b * 2 ^ K := by
  obtain ⟨r, h1, h2, h3⟩ := dbl_ex hK h0 h
  have := nearR_V h2 0
  rw [Nat.pow_zero, Nat.mul_one, h3] at this
  have e : dblK K b = r := this
  rw [e]; exact ⟨h1, h2, h3⟩
theorem dblS_fin {b : Nat} (h0 : 0 < b) (h : b < 2139095040) : 0 < dblS b ∧ dblS b < 9218868437227405312 := by
  unfold dblS
  obtain ⟨K, hK⟩ : ∃ K, K = 925 := ⟨_, rfl⟩
  rw [← hK]
  have := dblK_V hK h0 h
  exact ⟨this.1, this.2.1⟩
theorem sgl_top (f : Nat) : sgl f ≤ 2139095040 := Nat.min_le_right _ _
theorem readD_pos {f : Nat} (h : f < 9218868437227405312) : Ieee.double.read f = .number false (mg f) (-1074 + (pl f : Int)) := by
  have e : f % 9223372036854775808 = f := Nat.mod_eq_of_lt (by omega)
  have := read_num (b := f) (by omega)
  rw [e, show f / 9223372036854775808 = 0 by omega] at this
  exact this
theorem wordS_false (r : Nat) : Ieee.single.word false r = r := rfl
theorem sgl_eq (f : Nat) : sgl f = nearS (V f) (-1074) := rfl
theorem V_eq (f : Nat) : V f = mg f * 2 ^ pl f := rfl
theorem writeS_pos {f : Nat} (h0 : 0 < f) : Ieee.single.nearest false (mg f) (-1074 + (pl f : Int)) = sgl f := by
  have hm : mg f ≠ 0 := by unfold mg; split <;> omega
  rw [nearestS_eq _ hm, wordS_false, sgl_eq, V_eq]
  generalize mg f = M at *
  generalize pl f = q at *
  have := nearS_scale hm q (-1074 + (q : Int))
  rw [show (-1074 + (q : Int) - (q : Int)) = -1074 by omega] at this
  exact this.symm
theorem conv_down {f : Nat} (h0 : 0 < f) (h : f < 9218868437227405312) : floatToFloatBits .f64 f .f32 = if sgl f < 2139095040 then some (sgl f) else none := by
  unfold floatToFloatBits
  rw [if_neg (by decide)]
  show (match Ieee.double.read f with
    | .nan _ _ => none
    | .infinity s => some (Ieee.single.write (.infinity s))
    | .number s m e => if (Ieee.single.read (Ieee.single.nearest s m e)).isInfinity then none else some (Ieee.single.nearest s m e)) = _
  rw [readD_pos h]
  show (if (Ieee.single.read (Ieee.single.nearest false (mg f) (-1074 + (pl f : Int)))).isInfinity then none else some (Ieee.single.nearest false (mg f) (-1074 + (pl f : Int)))) = _
  rw [writeS_pos h0]
  have ht := sgl_top f
  by_cases hs : sgl f < 2139095040
  · have e : sgl f % 2147483648 = sgl f := Nat.mod_eq_of_lt (by omega)
    rw [readS_num (by omega), if_pos hs]; rfl
  · have e : sgl f = 2139095040 := by omega
    rw [readS_inf (by rw [e]), if_neg hs]; rfl
theorem convUp_show (b : Nat) : floatToFloatBits .f32 b .f64 = (match Ieee.single.read b with
    | .nan _ _ => none
    | .infinity s => some (Ieee.double.write (.infinity s))
    | .number s m e => if (Ieee.double.read (Ieee.double.nearest s m e)).isInfinity then none else some (Ieee.double.nearest s m e)) := by
  unfold floatToFloatBits
  rw [if_neg (by decide)]; rfl
theorem conv_up_inf {b : Nat} (h : b % 2147483648 = 2139095040) : floatToFloatBits .f32 b .f64 = some (wrd (b / 2147483648 % 2 == 1) 9218868437227405312) := by
  rw [convUp_show, readS_inf h]
  show some (Ieee.double.word _ 9218868437227405312) = _
  rw [word_eq]
theorem writeD_posK {K : Nat} (hK : K = 925) (s : Bool) {b : Nat} (h0 : 0 < b) : Ieee.double.nearest s (mgS b) (-149 + (plS b : Int)) = wrd s (dblK K b) := by
  have hm : mgS b ≠ 0 := by unfold mgS; split <;> omega
  rw [nearest_eq _ hm, word_eq]
  have := nearR_scale hm (plS b + K) (-149 + (plS b : Int))
  rw [← this, show (-149 + (plS b : Int) - ((plS b + K : Nat) : Int)) = -1074 by omega]
  unfold dblK VS
  rw [Nat.mul_assoc, ← Nat.pow_add]
theorem writeD_pos (s : Bool) {b : Nat} (h0 : 0 < b) : Ieee.double.nearest s (mgS b) (-149 + (plS b : Int)) = wrd s (dblS b) := writeD_posK rfl s h0
theorem conv_up_num {b : Nat} (h0 : 0 < b % 2147483648) (h : b % 2147483648 < 2139095040) : floatToFloatBits .f32 b .f64 = some (wrd (b / 2147483648 % 2 == 1) (dblS (b % 2147483648))) := by
  rw [convUp_show, readS_num h]
  show (if (Ieee.double.read (Ieee.double.nearest _ (mgS (b % 2147483648)) (-149 + (plS (b % 2147483648) : Int)))).isInfinity then none else some (Ieee.double.nearest _ (mgS (b % 2147483648)) (-149 + (plS (b % 2147483648) : Int)))) = _
  rw [writeD_pos _ h0]
  obtain ⟨d0, d1⟩ := dblS_fin h0 h
  have hr : wrd (b / 2147483648 % 2 == 1) (dblS (b % 2147483648)) % 9223372036854775808 = dblS (b % 2147483648) := by
    unfold wrd; split <;> omega
  rw [read_num (by rw [hr]; exact d1)]; rfl
theorem conv_up_zero {b : Nat} (h : b % 2147483648 = 0) : floatToFloatBits .f32 b .f64 = some (wrd (b / 2147483648 % 2 == 1) 0) := by
  rw [convUp_show, readS_num (by rw [h]; decide), h]
  show (if (Ieee.double.read (Ieee.double.nearest _ 0 _)).isInfinity then none else some (Ieee.double.nearest _ 0 _)) = _
  rw [nearest_zero, word_eq]
  have hr : wrd (b / 2147483648 % 2 == 1) 0 % 9223372036854775808 = 0 := by
    unfold wrd; split <;> omega
  rw [read_num (by rw [hr]; decide)]; rfl
end Go.Proofs.YtphnainibdepbaaGreat
namespace Go.Proofs.YtphnainibdepbaaGreat
open Go.RowKit

def RowIs (w : World) (g n M : Nat) : Prop := ∀ i, i < n → w.cell? ⟨g, i, none⟩ = some (.int .u64 (dgt M i : Int))

def DN (w : World) (v : Value) (N : Nat) : Prop :=
  (N = 0 ∧ ∃ p c, v = .slice p 0 c) ∨ (N ≠ 0 ∧ ∃ g c, v = .slice (some ⟨g, 0, none⟩) (nd N) c ∧ nd N ≤ c ∧ g < w.heap.size ∧ RowIs w g (nd N) N)

theorem RowIs.mono {w : World} {g n m M : Nat} (h : RowIs w g n M) (hm : m ≤ n) : RowIs w g m M := fun i hi => h i (by omega)
theorem RowIs.below {w w' : World} {g n M : Nat} (h : RowIs w g n M) (hg : g < w.heap.size) (hb : Below w.heap.size w w') : RowIs w' g n M :=
  fun i hi => (hb.cell (p := ⟨g, i, none⟩) hg).trans (h i hi)
theorem DN.below {w w' : World} {v : Value} {N : Nat} (h : DN w v N) (hb : Below w.heap.size w w') : DN w' v N := by
  rcases h with h | ⟨h0, g, c, hv, hc, hg, hr⟩
  · exact Or.inl h
  · exact Or.inr ⟨h0, g, c, hv, hc, Nat.lt_of_lt_of_le hg hb.size, hr.below hg hb⟩
def From (B : Nat) (v : Value) : Prop := ∀ a l c, v = .slice (some a) l c → B ≤ a.block
end Go.Proofs.YtphnainibdepbaaGreat
