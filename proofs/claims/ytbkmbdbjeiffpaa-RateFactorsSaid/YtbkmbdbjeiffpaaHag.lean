/- The contract of ShiftUp. The contract of ShiftDown. -/
import Derived.Test.YtbkmbdbjeiffpaaHaf
import Derived.Deep.OwnRows
import Derived.Deep.RegionHeld3
namespace Go.Proofs.Ytbkmbdbjeiffpaa
open Go.RowKit

theorem info_u64 : (Try.prog.info? 26).map (fun i => (i.zero, i.size, i.bytes)) = some (some (.int .u64 0), 1, 8) := by kernel_rfl

set_option maxHeartbeats 400000 in
theorem shiftUp_nil (p : Option Addr) (c : Nat) (n : Int) (w : World) :
    Calls Try.prog 73 #[.slice p 0 c, .int .i64 n] w fun e w' => e = .returned (.slice none 0 0) ∧ w' = w := by
  go_enter Try.func73, Try.ntmps73
  go_wp2
  go_ret
  exact ⟨rfl, rfl⟩

/-- A row of the call's own whose cells are M's digits. -/
def Own (w : World) (b n M : Nat) : Prop := w.rowIs b 26 n (fun i => .int .u64 (dgt M i : Int))
theorem Own.row {w : World} {b n M : Nat} (h : Own w b n M) : RowIs w b n M := fun _ hi => h.cell hi
theorem own_made (w : World) (n : Nat) : Own (w.alloc (.cells (madeCells #[.int .u64 0] n) 26)) w.heap.size n 0 :=
  (World.rowIs_made w (.int .u64 0) n 26).congr (fun i _ => by rw [dgt_zero]; rfl)

theorem shift_step {w : World} {b L N q r k n D X : Nat} (h : Own w b L ((N % 2 ^ (32 * k)) * 2 ^ n)) (hn : n = 32 * q + r) (hr : r < 32) (hD : D = dgt N k) (hX : X = D * 2 ^ r) (_hL : k + q + 1 < L) :
    Own ((w.setCell ⟨b, k + q, none⟩ (.int .u64 ((dgt ((N % 2 ^ (32 * k)) * 2 ^ n) (k + q) : Int) + (X : Int) % 4294967296))).setCell ⟨b, k + q + 1, none⟩ (.int .u64 ((X : Int) / 4294967296))) b L ((N % 2 ^ (32 * (k + 1))) * 2 ^ n) := by
  have h2 := (h.set (k + q) (.int .u64 ((dgt ((N % 2 ^ (32 * k)) * 2 ^ n) (k + q) : Int) + (X : Int) % 4294967296))).set (k + q + 1) (.int .u64 ((X : Int) / 4294967296))
  refine h2.congr fun j _ => ?_
  have hM : N % 2 ^ (32 * k) * 2 ^ n < 2 ^ r * 2 ^ (32 * (k + q)) := by
    have h1 : N % 2 ^ (32 * k) < 2 ^ (32 * k) := Nat.mod_lt _ (Nat.two_pow_pos _)
    have e : 2 ^ r * 2 ^ (32 * (k + q)) = 2 ^ (32 * k) * 2 ^ n := by rw [← Nat.pow_add, ← Nat.pow_add]; congr 1; omega
    rw [e]; exact Nat.mul_lt_mul_of_pos_right h1 (Nat.two_pow_pos _)
  have hx63 : X < 2 ^ 63 := by
    have h1 := dgt_lt N k
    have h3 : (2 : Nat) ^ r ≤ 2 ^ 31 := Nat.pow_le_pow_right (by decide) (by omega)
    rw [hX, hD]
    calc dgt N k * 2 ^ r ≤ dgt N k * 2 ^ 31 := Nat.mul_le_mul_left _ h3
      _ < 2 ^ 63 := by omega
  have es : N % 2 ^ (32 * (k + 1)) * 2 ^ n = N % 2 ^ (32 * k) * 2 ^ n + X * 2 ^ (32 * (k + q)) := by
    rw [mod_succ, Nat.add_mul, hX, hD]
    congr 1
    rw [Nat.mul_assoc, Nat.mul_assoc, ← Nat.pow_add, ← Nat.pow_add]; congr 2; omega
  have key := add_at (j := j) hM hx63 (by rw [hX, Nat.mul_mod_left]) (by omega)
  rw [← es] at key
  rw [key]
  by_cases c1 : j = k + q + 1
  · rw [if_pos c1, if_neg (by omega), if_neg (by omega), if_pos c1]; congr 1
  · rw [if_neg c1]
    by_cases c2 : j = k + q
    · rw [if_pos c2, if_neg (by omega), if_pos c2]; congr 1
    · rw [if_neg c2]
      by_cases c3 : j < k + q
      · rw [if_pos c3]
      · rw [if_neg c3, if_neg c2, if_neg c1]
        rw [dgt_ge]
        refine Nat.lt_of_lt_of_le hM ?_
        rw [← Nat.pow_add]; exact Nat.pow_le_pow_right (by decide) (by omega)

set_option maxRecDepth 10000 in
set_option maxHeartbeats 800000 in
theorem shiftUp_row (g c N m n q r : Nat) (w : World) (hm : 1 ≤ m) (hm' : m ≤ 10000000) (hn : n ≤ 100000000) (hq : (n : Int) / 32 = q) (hr : (n : Int) % 32 = r) (hrow : Hid (RowIs w g m N)) (hg : g < w.heap.size) (hN : Hid (N < 2 ^ (32 * m))) :
    Calls Try.prog 73 #[.slice (some ⟨g, 0, none⟩) m c, .int .i64 n] w fun e w' => ∃ v, e = .returned v ∧ DN w' v (N * 2 ^ n) ∧ From w.heap.size v ∧ Below w.heap.size w w' := by
  have hq1 : q ≤ 3125000 := by omega
  have hr1 : r < 32 := by omega
  have HN : Hid (n = 32 * q + r) := by show _ = _; omega
  have hmk := fun w => run_make_row' (P := Try.prog) 54 26 (.int .u64 0) 8 Try.underlying54 info_u64 rfl .i64 .i64 (m + q + 1) (by omega) (by omega) w
  have ec : ((m + q + 1 : Nat) : Int) = (m : Int) + (q : Int) + 1 := by omega
  rw [ec] at hmk
  clear ec
  have HO := hide (own_made w (m + q + 1))
  go_enter Try.func73, Try.ntmps73
  go_wp2
  go_loopw [6] (fun i wr => ∃ k : Nat, k ≤ m ∧ i = .int .i64 k ∧ Hid (Own wr w.heap.size (m + q + 1) ((N % 2 ^ (32 * k)) * 2 ^ n)) ∧ Hid (Below w.heap.size w wr)) (fun i _ => m - (intOf i).toNat)
  case atStart => exact ⟨0, Nat.zero_le _, rfl, by rw [Nat.mul_zero, Nat.pow_zero, Nat.mod_one, Nat.zero_mul]; exact HO, (Below.refl _ _).alloc (Nat.le_refl _) _⟩
  case round =>
    clear HO hmk
    obtain ⟨k, hk, rfl, HOwn, HB⟩ := hrel
    by_cases hlt : k < m
    · have hc : wr.cell? ⟨g, k, none⟩ = some (.int .u64 (dgt N k : Int)) := (HB.out.cell (p := ⟨g, k, none⟩) hg).trans (hrow.out k hlt)
      have h1 := HOwn.out.cell (i := k + q) (by omega)
      have h2 := HOwn.out.cell (i := k + q + 1) (by omega)
      have f1 := HOwn.out.frozen (k + q)
      have f2 := HOwn.out.frozen (k + q + 1)
      have b1 := dgt_lt ((N % 2 ^ (32 * k)) * 2 ^ n) (k + q)
      have b2 := dgt_lt N k
      have HS := fun D X (hD : D = dgt N k) (hX : X = D * 2 ^ r) => shift_step HOwn.out HN.out hr1 hD hX (by omega)
      have HS := hide HS
      generalize hA : dgt ((N % 2 ^ (32 * k)) * 2 ^ n) (k + q) = A at h1 b1 HS
      generalize hE : dgt ((N % 2 ^ (32 * k)) * 2 ^ n) (k + q + 1) = E at h2
      generalize hD : dgt N k = D at hc b2
      have HD := hide hD
      clear hA hE hD
      have hX : IntKind.u64.wrap ((D : Int) * 2 ^ r) = ((D * 2 ^ r : Nat) : Int) := by
        have e1 : ((D : Int) * 2 ^ r) = ((D * 2 ^ r : Nat) : Int) := by rw [Int.natCast_mul, Int.natCast_pow]; rfl
        have h3 : (2 : Nat) ^ r ≤ 2 ^ 31 := Nat.pow_le_pow_right (by decide) (by omega)
        have h4 : D * 2 ^ r ≤ D * 2 ^ 31 := Nat.mul_le_mul_left _ h3
        rw [e1, IntKind.wrap_u64]; omega
      have hXb : D * 2 ^ r < 9223372036854775808 := by
        have h3 : (2 : Nat) ^ r ≤ 2 ^ 31 := Nat.pow_le_pow_right (by decide) (by omega)
        have h4 : D * 2 ^ r ≤ D * 2 ^ 31 := Nat.mul_le_mul_left _ h3
        omega
      generalize hXX : D * 2 ^ r = X at hX hXb
      have HXX := hide hXX
      clear hXX
      go_wp2
      go_roundw
      case rel => exact ⟨k + 1, by omega, by go_num, HS.out D X HD.out.symm HXX.out.symm, (HB.out.setCell (Nat.le_refl _) _).setCell (Nat.le_refl _) _⟩
      case measure => simp [intOf]; omega
    · obtain rfl : k = m := by omega
      have e : N % 2 ^ (32 * k) = N := Nat.mod_eq_of_lt hN.out
      rw [e] at HOwn
      have hM : Hid (N * 2 ^ n < 2 ^ (32 * (k + q + 1))) := by
        show _ < _
        have h1 : N * 2 ^ n < 2 ^ (32 * k) * 2 ^ n := Nat.mul_lt_mul_of_pos_right hN.out (Nat.two_pow_pos _)
        rw [← Nat.pow_add] at h1
        refine Nat.lt_of_lt_of_le h1 (Nat.pow_le_pow_right (by decide) ?_)
        have := HN.out; omega
      have hlt2 := HOwn.out.lt
      have HD := hide (dn_mk HOwn.out.row hM.out (Nat.le_refl _) hlt2)
      clear e
      go_wp2_with fail
      refine (trim_row _ _ _ _ _ HOwn.out.row hM.out (Nat.le_refl _) (by omega)).mono ?_
      rintro e w' ⟨rfl, rfl⟩
      go_wp2_with fail
      go_ret
      exact ⟨_, rfl, HD.out, from_at _ _ _ _ (Nat.le_refl _), HB.out⟩

theorem shiftUp_new (v : Value) (N n : Nat) (w : World) (h : DN w v N) (hb : nd N ≤ 10000000) (hn : n ≤ 100000000) :
    Calls Try.prog 73 #[v, .int .i64 n] w fun e w' => ∃ v, e = .returned v ∧ DN w' v (N * 2 ^ n) ∧ From w.heap.size v ∧ Below w.heap.size w w' := by
  rcases h with ⟨h0, p, c, rfl⟩ | ⟨h0, g, c, rfl, hc, hg, hr⟩
  · refine (shiftUp_nil p c n w).mono ?_
    rintro e w' ⟨rfl, rfl⟩
    exact ⟨_, rfl, Or.inl ⟨by rw [h0, Nat.zero_mul], none, 0, rfl⟩, from_nil _, Below.refl _ _⟩
  · exact shiftUp_row g c N (nd N) n (n / 32) (n % 32) w (nd_pos h0) hb hn (by omega) (by omega) hr hg (nd_lt N)
theorem shiftUp_any (v : Value) (N n : Nat) (w : World) (h : DN w v N) (hb : nd N ≤ 10000000) (hn : n ≤ 100000000) :
    Calls Try.prog 73 #[v, .int .i64 n] w fun e w' => ∃ v, e = .returned v ∧ DN w' v (N * 2 ^ n) ∧ Below w.heap.size w w' :=
  (shiftUp_new v N n w h hb hn).mono fun _ _ ⟨v, a, b, _, d⟩ => ⟨v, a, b, d⟩

end Go.Proofs.Ytbkmbdbjeiffpaa
namespace Go.Proofs.Ytbkmbdbjeiffpaa
open Go.RowKit

def lostB (N n : Nat) : Bool := decide (N % 2 ^ n ≠ 0)
theorem lost_zero (N : Nat) : lostB N 0 = false := by unfold lostB; rw [Nat.pow_zero, Nat.mod_one]; rfl
theorem lost_step (N k : Nat) : lostB N (32 * (k + 1)) = (lostB N (32 * k) || decide (dgt N k ≠ 0)) := by
  unfold lostB
  rw [mod_succ]
  have hp := Nat.two_pow_pos (32 * k)
  by_cases h1 : N % 2 ^ (32 * k) = 0
  · by_cases h2 : dgt N k = 0
    · simp [h1, h2]
    · have : dgt N k * 2 ^ (32 * k) ≠ 0 := Nat.mul_ne_zero h2 (by omega)
      simp [h1, h2]; exact this
  · simp [h1]
theorem lost_end {N q r n : Nat} (hn : n = 32 * q + r) (hr : r < 32) : lostB N n = (lostB N (32 * q) || decide (dgt N q % 2 ^ r ≠ 0)) := by
  unfold lostB
  have e : N % 2 ^ n = N % 2 ^ (32 * q) + 2 ^ (32 * q) * (N / 2 ^ (32 * q) % 2 ^ r) := by rw [hn, Nat.pow_add, Nat.mod_mul]
  have e2 : dgt N q % 2 ^ r = N / 2 ^ (32 * q) % 2 ^ r := by
    unfold dgt
    exact Nat.mod_mod_of_dvd _ (by rw [show (4294967296 : Nat) = 2 ^ r * 2 ^ (32 - r) by rw [← Nat.pow_add, show r + (32 - r) = 32 by omega]]; exact Nat.dvd_mul_right _ _)
  rw [e, e2]
  have hp := Nat.two_pow_pos (32 * q)
  by_cases h1 : N % 2 ^ (32 * q) = 0
  · by_cases h2 : N / 2 ^ (32 * q) % 2 ^ r = 0
    · simp [h1, h2]
    · have : 2 ^ (32 * q) * (N / 2 ^ (32 * q) % 2 ^ r) ≠ 0 := Nat.mul_ne_zero (by omega) h2
      simp [h1, h2]; exact this
  · simp [h1]
theorem down_digit (N q r n i : Nat) (hn : n = 32 * q + r) (hr : r < 32) : (dgt N (i + q) + dgt N (i + q + 1) * 4294967296) / 2 ^ r % 4294967296 = dgt (N / 2 ^ n) i := by
  have e1 : dgt N (i + q) + dgt N (i + q + 1) * 4294967296 = N / 2 ^ (32 * (i + q)) % (4294967296 * 4294967296) := by
    unfold dgt
    rw [pow32, ← Nat.div_div_eq_div_mul]
    rw [Nat.mod_mul, Nat.mul_comm 4294967296]
  rw [e1]
  unfold dgt
  have e2 : N / 2 ^ n / 2 ^ (32 * i) = N / 2 ^ (32 * (i + q)) / 2 ^ r := by
    rw [Nat.div_div_eq_div_mul, Nat.div_div_eq_div_mul, ← Nat.pow_add, ← Nat.pow_add]; congr 2; omega
  rw [e2]
  generalize N / 2 ^ (32 * (i + q)) = Y
  have e3 : (4294967296 * 4294967296 : Nat) = 2 ^ r * (4294967296 * 2 ^ (32 - r)) := by
    rw [Nat.mul_left_comm, ← Nat.pow_add, show r + (32 - r) = 32 by omega]
  rw [e3, Nat.mod_mul_right_div_self]
  exact Nat.mod_mod_of_dvd _ (Nat.dvd_mul_right _ _)

theorem wrap_pow {r : Nat} (h : r < 32) : IntKind.u64.wrap (2 ^ r) = ((2 ^ r : Nat) : Int) := by
  have h3 : (2 : Nat) ^ r ≤ 2 ^ 31 := Nat.pow_le_pow_right (by decide) (by omega)
  have e1 : ((2 : Int) ^ r) = ((2 ^ r : Nat) : Int) := by rw [Int.natCast_pow]; rfl
  rw [e1, IntKind.wrap_u64]
  generalize 2 ^ r = z at *
  omega

theorem digit_row (g m c N kk : Nat) (i : Int) (w : World) (hr : RowIs w g m N) (hN : N < 2 ^ (32 * m)) (hi : Hid (i = kk)) :
    Calls Try.prog 74 #[.slice (some ⟨g, 0, none⟩) m c, .int .i64 i] w fun e w' => e = .returned (.int .u64 (dgt N kk : Int)) ∧ w' = w := by
  rw [hi.out]
  by_cases hk : kk < m
  · exact digit_in g m c kk _ w hk (hr kk hk)
  · rw [dgt_ge (Nat.lt_of_lt_of_le hN (Nat.pow_le_pow_right (by decide) (by omega)))]; exact digit_out _ _ c kk w (by omega)

theorem row_far {w : World} {g m N b j : Nat} {v : Value} (h : RowIs w g m N) (hb : b ≠ g) : RowIs (w.setCell ⟨b, j, none⟩ v) g m N :=
  fun i hi => (World.cell?_setCell_far w ⟨b, j, none⟩ ⟨g, i, none⟩ v hb).trans (h i hi)

theorem ret_vb {v : Value} {a b : Bool} (h : a = b) : Ending.returned (.tuple #[v, .bool a]) = .returned (.tuple #[v, .bool b]) := by rw [h]
theorem neq_dec (D P : Nat) : ((D : Int) % (P : Int) != 0) = decide (D % P ≠ 0) := by
  by_cases h : D % P = 0
  · have : (D : Int) % (P : Int) = 0 := by rw [← Int.natCast_emod, h]; rfl
    simp [h, this]
  · have : (D : Int) % (P : Int) ≠ 0 := by rw [← Int.natCast_emod]; omega
    simp [h, this]
theorem down_val {N q r n i : Nat} (hn : n = 32 * q + r) (hr : r < 32) : (((dgt N (i + q) : Int) + (dgt N (i + q + 1) : Int) * 4294967296) / 2 ^ r).tmod 4294967296 = (dgt (N / 2 ^ n) i : Int) := by
  have e := down_digit N q r n i hn hr
  have e1 : ((dgt N (i + q) : Int) + (dgt N (i + q + 1) : Int) * 4294967296) / 2 ^ r = (((dgt N (i + q) + dgt N (i + q + 1) * 4294967296) / 2 ^ r : Nat) : Int) := by
    rw [Int.natCast_ediv, Int.natCast_add, Int.natCast_mul, Int.natCast_pow]; rfl
  rw [e1, Int.tmod_eq_emod_of_nonneg (Int.natCast_nonneg _), ← e, Int.natCast_emod]; rfl

/-- The row half filled. -/
def Half (w : World) (b n M j : Nat) : Prop := w.rowIs b 26 n (fun i => .int .u64 ((if i < j then dgt M i else 0 : Nat) : Int))
theorem half_made (w : World) (n M : Nat) : Half (w.alloc (.cells (madeCells #[.int .u64 0] n) 26)) w.heap.size n M 0 :=
  (World.rowIs_made w (.int .u64 0) n 26).congr (fun i _ => by rw [if_neg (by omega)]; rfl)
theorem half_step {w : World} {b n M j : Nat} {x : Int} (h : Half w b n M j) (hx : x = (dgt M j : Int)) : Half (w.setCell ⟨b, j, none⟩ (.int .u64 x)) b n M (j + 1) := by
  refine (h.set j (.int .u64 x)).congr fun i _ => ?_
  by_cases c : i = j
  · rw [if_pos c, if_pos (by omega), hx, c]
  · rw [if_neg c]
    by_cases d : i < j
    · rw [if_pos d, if_pos (by omega)]
    · rw [if_neg d, if_neg (by omega)]
theorem half_end {w : World} {b n M : Nat} (h : Half w b n M n) : Own w b n M := h.congr (fun i hi => by rw [if_pos hi])

set_option maxHeartbeats 400000 in
theorem shiftDown_far (p : Option Addr) (m c : Nat) (n : Int) (w : World) (hm : m ≤ 10000000) (h : 32 * (m : Int) ≤ n) :
    Calls Try.prog 75 #[.slice p m c, .int .i64 n] w fun e w' => e = .returned (.tuple #[.slice none 0 0, .bool (decide (0 < m))]) ∧ w' = w := by
  go_enter Try.func75, Try.ntmps75
  go_wp2
  go_ret2
  exact ⟨rfl, rfl⟩

set_option maxRecDepth 10000 in
set_option maxHeartbeats 800000 in
theorem shiftDown_row (g c N m n q r : Nat) (w : World) (hm : 1 ≤ m) (hm' : m ≤ 10000000) (hn : (n : Int) < 32 * m) (hq : (n : Int) / 32 = q) (hr : (n : Int) % 32 = r) (hrow : Hid (RowIs w g m N)) (hg : g < w.heap.size) (hN : Hid (N < 2 ^ (32 * m))) :
    Calls Try.prog 75 #[.slice (some ⟨g, 0, none⟩) m c, .int .i64 n] w fun e w' => ∃ v, e = .returned (.tuple #[v, .bool (lostB N n)]) ∧ DN w' v (N / 2 ^ n) ∧ Below w.heap.size w w' := by
  have hr1 : r < 32 := by omega
  have hq1 : q < m := by omega
  have HN : Hid (n = 32 * q + r) := by show _ = _; omega
  go_enter Try.func75, Try.ntmps75
  go_wp2
  go_loop [6, 7] (fun l i => ∃ k : Nat, k ≤ q ∧ l = .bool (lostB N (32 * k)) ∧ i = .int .i64 k) (fun _ i => q - (intOf i).toNat)
  case atStart => exact ⟨0, Nat.zero_le _, by rw [Nat.mul_zero, lost_zero], rfl⟩
  case round =>
    obtain ⟨k, hk, rfl, rfl⟩ := hrel
    by_cases hlt : k < q
    · have hc := hrow.out k (by omega)
      have HS := hide (lost_step N k)
      have HD : Hid (∀ D, dgt N k = D → lostB N (32 * (k + 1)) = (lostB N (32 * k) || decide (D ≠ 0))) := fun D hD => by rw [← hD]; exact HS.out
      generalize hD : dgt N k = D at hc
      have HS := hide (HD.out D hD)
      clear hD HD
      cases hl : lostB N (32 * k)
      · rw [hl, Bool.false_or] at HS
        by_cases h0 : D = 0
        · subst h0
          go_wp2
          go_round
          case rel => exact ⟨k + 1, by omega, by rw [HS.out]; rfl, by go_num⟩
          case measure => simp [intOf]; omega
        · have h1 : ((D : Int) != 0) = true := by simpa using h0
          have H0 := hide h0
          clear h0
          go_wp2
          go_round
          case rel => exact ⟨k + 1, by omega, by rw [HS.out, decide_eq_true H0.out], by go_num⟩
          case measure => simp [intOf]; omega
      · rw [hl, Bool.true_or] at HS
        go_wp2
        go_round
        case rel => exact ⟨k + 1, by omega, by rw [HS.out], by go_num⟩
        case measure => simp [intOf]; omega
    · obtain rfl : k = q := by omega
      have hcq := hrow.out k hq1
      have hki : (k : Int) < (m : Int) := by omega
      have HL := hide (lost_end (N := N) HN.out hr1)
      have HD : Hid (∀ D, dgt N k = D → lostB N n = (lostB N (32 * k) || decide (D % 2 ^ r ≠ 0))) := fun D hD => by rw [← hD]; exact HL.out
      have b1 := dgt_lt N k
      generalize hD : dgt N k = D at hcq b1
      have HL := hide (HD.out D hD)
      clear hD HD
      cases hl : lostB N (32 * k)
      · rw [hl, Bool.false_or] at HL
        have hw1 := wrap_pow hr1
        have hP := Nat.two_pow_pos r
        generalize 2 ^ r = P at hw1 HL hP
        go_wp2_with fail
        go_quiet (fail)
        have hmk := fun w => run_make_row' (P := Try.prog) 54 26 (.int .u64 0) 8 Try.underlying54 info_u64 rfl .i64 .i64 (m - k) (by omega) (by omega) w
        have ec : ((m - k : Nat) : Int) = (m : Int) - (k : Int) := by omega
        rw [ec] at hmk
        clear ec
        go_wp2_with fail
        rw [hr]
        go_loopw [9] (fun i wr => ∃ j : Nat, j ≤ m - k ∧ i = .int .i64 j ∧ Hid (Half wr w.heap.size (m - k) (N / 2 ^ n) j) ∧ Hid (Below w.heap.size w wr)) (fun i _ => m - k - (intOf i).toNat)
        case atStart => exact ⟨0, Nat.zero_le _, rfl, half_made (w.drewN nq) (m - k) _, below_drewN ((Below.refl _ _).alloc (Nat.le_refl _) _) _⟩
        case round =>
          obtain ⟨j, hj, rfl, HH, HB⟩ := hrel
          by_cases hlt : j < m - k
          · have hc1 : wr.cell? ⟨g, j + k, none⟩ = some (.int .u64 (dgt N (j + k) : Int)) := (HB.out.cell (p := ⟨g, j + k, none⟩) hg).trans (hrow.out (j + k) (by omega))
            have HR : Hid (RowIs wr g m N) := hrow.out.below hg HB.out
            have h1 := HH.out.cell (i := j) (by omega)
            have f1 := HH.out.frozen j
            have b2 := dgt_lt N (j + k)
            have b3 := dgt_lt N (j + k + 1)
            generalize hE : (if j < j then dgt (N / 2 ^ n) j else 0 : Nat) = E at h1
            clear hE
            have hjk : (j : Int) + (k : Int) < (m : Int) := by omega
            have hjm : (j : Int) < ((m - k : Nat) : Int) := by omega
            go_wp2_with fail
            generalize hD1 : dgt N (j + k) = D1 at hc1 b2
            have HD1 := hide hD1
            clear hD1
            generalize hD2 : dgt N (j + k + 1) = D2 at b3
            have HD2 := hide hD2
            clear hD2
            have t1 : (n : Int).tdiv 32 = (k : Int) := by rw [Int.tdiv_eq_ediv_of_nonneg (by omega)]; exact hq
            have t2 : (n : Int).tmod 32 = (r : Int) := by rw [Int.tmod_eq_emod_of_nonneg (by omega)]; exact hr
            have w0 : IntKind.i64.wrap (k : Int) = (k : Int) := by rw [IntKind.wrap_i64]; omega
            have w0' : IntKind.i64.wrap (r : Int) = (r : Int) := by rw [IntKind.wrap_i64]; omega
            have nn : (0 : Int) ≤ (j : Int) + (k : Int) := by omega
            have tn : ((j : Int) + (k : Int)).toNat = j + k := by omega
            have w1 : IntKind.i64.wrap ((j : Int) + (k : Int)) = (j : Int) + (k : Int) := by rw [IntKind.wrap_i64]; omega
            have w2 : IntKind.i64.wrap ((j : Int) + (k : Int) + 1) = (j : Int) + (k : Int) + 1 := by rw [IntKind.wrap_i64]; omega
            have w3 : IntKind.u64.wrap ((D2 : Int) * 4294967296) = (D2 : Int) * 4294967296 := by rw [IntKind.wrap_u64]; omega
            have w4 : IntKind.u64.wrap ((D1 : Int) + (D2 : Int) * 4294967296) = (D1 : Int) + (D2 : Int) * 4294967296 := by rw [IntKind.wrap_u64]; omega
            have hDig : ∀ w', RowIs w' g m N → Calls Try.prog 74 #[.slice (some ⟨g, 0, none⟩) m c, .int .i64 ((j : Int) + (k : Int) + 1)] w' fun e w'' => e = .returned (.int .u64 (D2 : Int)) ∧ w'' = w' := fun w' h => by
              have := digit_row g m c N (j + k + 1) ((j : Int) + (k : Int) + 1) w' h hN.out (by show _ = _; omega)
              rw [HD2.out] at this; exact this
            have HDig := hide hDig
            clear hDig
            have hfar : w.heap.size ≠ g := by omega
            have HST : Hid (Half (wr.setCell ⟨w.heap.size, j, none⟩ (.int .u64 ((((D1 : Int) + (D2 : Int) * 4294967296) / 2 ^ r).tmod 4294967296))).drew w.heap.size (m - k) (N / 2 ^ n) (j + 1)) := half_step HH.out (by rw [← HD1.out, ← HD2.out]; exact down_val HN.out hr1)
            have HBT : Hid (Below w.heap.size w (wr.setCell ⟨w.heap.size, j, none⟩ (.int .u64 ((((D1 : Int) + (D2 : Int) * 4294967296) / 2 ^ r).tmod 4294967296))).drew) := (HB.out.setCell (Nat.le_refl _) _).drew
            go_region_held3 (fun w' => w'.cell? ⟨g, j + k, none⟩ = some (.int .u64 (D1 : Int)) ∧ RowIs w' g m N) (first | exact ⟨hc1, HR.out⟩ | exact ⟨(World.cell?_setCell_far _ _ _ _ hfar).trans hc1, row_far HR.out hfar⟩ | go_keep) ((go_at_call 74; refine (HDig.out _ (by first | assumption | exact HR.out)).mono ?_; rintro e w' ⟨rfl, rfl⟩))
            go_wp2_with fail
            go_roundw
            case rel => first | exact ⟨j + 1, by omega, by go_num, HST, HBT⟩ | ((repeat apply Exists.intro); exact ⟨⟨j + 1, by omega, by go_num, HST, HBT⟩, rfl⟩)
            case measure => simp [intOf]; omega
          · obtain rfl : j = m - k := by omega
            have HO := hide (half_end HH.out)
            have HM : Hid (N / 2 ^ n < 2 ^ (32 * (m - k))) := by
              show _ < _
              rw [Nat.div_lt_iff_lt_mul (Nat.two_pow_pos _), ← Nat.pow_add]
              refine Nat.lt_of_lt_of_le hN.out (Nat.pow_le_pow_right (by decide) ?_)
              have := HN.out; omega
            have hlt2 := HH.out.lt
            have HD := hide (dn_mk HO.out.row HM.out (Nat.le_refl _) hlt2)
            go_wp2_with fail
            refine (trim_row _ _ _ _ _ HO.out.row HM.out (Nat.le_refl _) (by omega)).mono ?_
            rintro e w' ⟨rfl, rfl⟩
            go_wp2_with fail
            go_ret2
            exact ⟨_, ret_vb (by rw [HL.out]; exact neq_dec D P), HD.out, HB.out⟩
      · rw [hl, Bool.true_or] at HL
        go_wp2_with fail
        go_quiet (fail)
        have hmk := fun w => run_make_row' (P := Try.prog) 54 26 (.int .u64 0) 8 Try.underlying54 info_u64 rfl .i64 .i64 (m - k) (by omega) (by omega) w
        have ec : ((m - k : Nat) : Int) = (m : Int) - (k : Int) := by omega
        rw [ec] at hmk
        clear ec
        go_wp2_with fail
        go_loopw [9] (fun i wr => ∃ j : Nat, j ≤ m - k ∧ i = .int .i64 j ∧ Hid (Half wr w.heap.size (m - k) (N / 2 ^ n) j) ∧ Hid (Below w.heap.size w wr)) (fun i _ => m - k - (intOf i).toNat)
        case atStart => exact ⟨0, Nat.zero_le _, rfl, half_made (w.drewN nq) (m - k) _, below_drewN ((Below.refl _ _).alloc (Nat.le_refl _) _) _⟩
        case round =>
          obtain ⟨j, hj, rfl, HH, HB⟩ := hrel
          by_cases hlt : j < m - k
          · have hc1 : wr.cell? ⟨g, j + k, none⟩ = some (.int .u64 (dgt N (j + k) : Int)) := (HB.out.cell (p := ⟨g, j + k, none⟩) hg).trans (hrow.out (j + k) (by omega))
            have HR : Hid (RowIs wr g m N) := hrow.out.below hg HB.out
            have h1 := HH.out.cell (i := j) (by omega)
            have f1 := HH.out.frozen j
            have b2 := dgt_lt N (j + k)
            have b3 := dgt_lt N (j + k + 1)
            generalize hE : (if j < j then dgt (N / 2 ^ n) j else 0 : Nat) = E at h1
            clear hE
            have hjk : (j : Int) + (k : Int) < (m : Int) := by omega
            have hjm : (j : Int) < ((m - k : Nat) : Int) := by omega
            go_wp2_with fail
            generalize hD1 : dgt N (j + k) = D1 at hc1 b2
            have HD1 := hide hD1
            clear hD1
            generalize hD2 : dgt N (j + k + 1) = D2 at b3
            have HD2 := hide hD2
            clear hD2
            have t1 : (n : Int).tdiv 32 = (k : Int) := by rw [Int.tdiv_eq_ediv_of_nonneg (by omega)]; exact hq
            have t2 : (n : Int).tmod 32 = (r : Int) := by rw [Int.tmod_eq_emod_of_nonneg (by omega)]; exact hr
            have w0 : IntKind.i64.wrap (k : Int) = (k : Int) := by rw [IntKind.wrap_i64]; omega
            have w0' : IntKind.i64.wrap (r : Int) = (r : Int) := by rw [IntKind.wrap_i64]; omega
            have nn : (0 : Int) ≤ (j : Int) + (k : Int) := by omega
            have tn : ((j : Int) + (k : Int)).toNat = j + k := by omega
            have w1 : IntKind.i64.wrap ((j : Int) + (k : Int)) = (j : Int) + (k : Int) := by rw [IntKind.wrap_i64]; omega
            have w2 : IntKind.i64.wrap ((j : Int) + (k : Int) + 1) = (j : Int) + (k : Int) + 1 := by rw [IntKind.wrap_i64]; omega
            have w3 : IntKind.u64.wrap ((D2 : Int) * 4294967296) = (D2 : Int) * 4294967296 := by rw [IntKind.wrap_u64]; omega
            have w4 : IntKind.u64.wrap ((D1 : Int) + (D2 : Int) * 4294967296) = (D1 : Int) + (D2 : Int) * 4294967296 := by rw [IntKind.wrap_u64]; omega
            have hDig : ∀ w', RowIs w' g m N → Calls Try.prog 74 #[.slice (some ⟨g, 0, none⟩) m c, .int .i64 ((j : Int) + (k : Int) + 1)] w' fun e w'' => e = .returned (.int .u64 (D2 : Int)) ∧ w'' = w' := fun w' h => by
              have := digit_row g m c N (j + k + 1) ((j : Int) + (k : Int) + 1) w' h hN.out (by show _ = _; omega)
              rw [HD2.out] at this; exact this
            have HDig := hide hDig
            clear hDig
            have hfar : w.heap.size ≠ g := by omega
            have HST : Hid (Half (wr.setCell ⟨w.heap.size, j, none⟩ (.int .u64 ((((D1 : Int) + (D2 : Int) * 4294967296) / 2 ^ r).tmod 4294967296))).drew w.heap.size (m - k) (N / 2 ^ n) (j + 1)) := half_step HH.out (by rw [← HD1.out, ← HD2.out]; exact down_val HN.out hr1)
            have HBT : Hid (Below w.heap.size w (wr.setCell ⟨w.heap.size, j, none⟩ (.int .u64 ((((D1 : Int) + (D2 : Int) * 4294967296) / 2 ^ r).tmod 4294967296))).drew) := (HB.out.setCell (Nat.le_refl _) _).drew
            go_region_held3 (fun w' => w'.cell? ⟨g, j + k, none⟩ = some (.int .u64 (D1 : Int)) ∧ RowIs w' g m N) (first | exact ⟨hc1, HR.out⟩ | exact ⟨(World.cell?_setCell_far _ _ _ _ hfar).trans hc1, row_far HR.out hfar⟩ | go_keep) ((go_at_call 74; refine (HDig.out _ (by first | assumption | exact HR.out)).mono ?_; rintro e w' ⟨rfl, rfl⟩))
            go_wp2_with fail
            go_roundw
            case rel => first | exact ⟨j + 1, by omega, by go_num, HST, HBT⟩ | ((repeat apply Exists.intro); exact ⟨⟨j + 1, by omega, by go_num, HST, HBT⟩, rfl⟩)
            case measure => simp [intOf]; omega
          · obtain rfl : j = m - k := by omega
            have HO := hide (half_end HH.out)
            have HM : Hid (N / 2 ^ n < 2 ^ (32 * (m - k))) := by
              show _ < _
              rw [Nat.div_lt_iff_lt_mul (Nat.two_pow_pos _), ← Nat.pow_add]
              refine Nat.lt_of_lt_of_le hN.out (Nat.pow_le_pow_right (by decide) ?_)
              have := HN.out; omega
            have hlt2 := HH.out.lt
            have HD := hide (dn_mk HO.out.row HM.out (Nat.le_refl _) hlt2)
            go_wp2_with fail
            refine (trim_row _ _ _ _ _ HO.out.row HM.out (Nat.le_refl _) (by omega)).mono ?_
            rintro e w' ⟨rfl, rfl⟩
            go_wp2_with fail
            go_ret2
            exact ⟨_, ret_vb HL.out.symm, HD.out, HB.out⟩

theorem shiftDown_any (v : Value) (N n : Nat) (w : World) (h : DN w v N) (hb : nd N ≤ 10000000) :
    Calls Try.prog 75 #[v, .int .i64 n] w fun e w' => ∃ v, e = .returned (.tuple #[v, .bool (lostB N n)]) ∧ DN w' v (N / 2 ^ n) ∧ Below w.heap.size w w' := by
  rcases h with ⟨h0, p, c, rfl⟩ | ⟨h0, g, c, rfl, hc, hg, hr⟩
  · refine (shiftDown_far p 0 c n w (by omega) (by omega)).mono ?_
    rintro e w' ⟨rfl, rfl⟩
    exact ⟨_, ret_vb (by rw [h0]; unfold lostB; rw [Nat.zero_mod]; rfl), Or.inl ⟨by rw [h0, Nat.zero_div], none, 0, rfl⟩, Below.refl _ _⟩
  · have h1 := nd_pos h0
    by_cases hf : 32 * (nd N : Int) ≤ n
    · have hlt : N < 2 ^ n := Nat.lt_of_lt_of_le (nd_lt N) (Nat.pow_le_pow_right (by decide) (by omega))
      refine (shiftDown_far _ (nd N) c n w hb hf).mono ?_
      rintro e w' ⟨rfl, rfl⟩
      exact ⟨_, ret_vb (by unfold lostB; rw [Nat.mod_eq_of_lt hlt]; simp [h0]; omega), Or.inl ⟨Nat.div_eq_of_lt hlt, none, 0, rfl⟩, Below.refl _ _⟩
    · exact shiftDown_row g c N (nd N) n (n / 32) (n % 32) w h1 hb (by omega) (by omega) (by omega) hr hg (nd_lt N)

end Go.Proofs.Ytbkmbdbjeiffpaa
