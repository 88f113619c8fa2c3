/- The contract of ShiftDown. The contract of the document's 'rounded' at 53 bits. Contracts of the document's Near: made, Zero, far, NearMore, Near. -/
import Derived.Test.YtbgmbodedjhfoaaGreatDoorHao
import Derived.Deep.RegionHeld3
import Derived.Test.YtbgmbodedjhfoaaGreatDoorHad
import Derived.Deep.RegionWith
import Derived.Lib.MinMax
namespace Go.Proofs.YtbgmbodedjhfoaaGreatDoor
open Go.RowKit

def lostB (N n : Nat) : Bool := decide (N % 2 ^ n ≠ 0)
theorem lost_zero (N : Nat) : lostB N 0 = false := by unfold lostB; rw [Nat.pow_zero, Nat.mod_one]; rfl
theorem lost_step (N k : Nat) : lostB N (32 * (k + 1)) = (lostB N (32 * k) || decide (dgt N k ≠ 0)) := by
  unfold lostB
  rw [mod_succ]
  have hp := Nat.two_pow_pos (32 * k)
  by_cases h1 : N % 2 ^ (32 * k) = 0
  · by_cases h2 : dgt N k = 0
    · simp [h1, h2]
    · have : dgt N k * 2 ^ (32 * k) ≠ 0 := Nat.mul_ne_zero h2 (by omega)
      simp [h1, h2]; exact this
  · simp [h1]
theorem lost_end {N q r n : Nat} (hn : n = 32 * q + r) (hr : r < 32) : lostB N n = (lostB N (32 * q) || decide (dgt N q % 2 ^ r ≠ 0)) := by
  unfold lostB
  have e : N % 2 ^ n = N % 2 ^ (32 * q) + 2 ^ (32 * q) * (N / 2 ^ (32 * q) % 2 ^ r) := by rw [hn, Nat.pow_add, Nat.mod_mul]
  have e2 : dgt N q % 2 ^ r = N / 2 ^ (32 * q) % 2 ^ r := by
    unfold dgt
    exact Nat.mod_mod_of_dvd _ (by rw [show (4294967296 : Nat) = 2 ^ r * 2 ^ (32 - r) by rw [← Nat.pow_add, show r + (32 - r) = 32 by omega]]; exact Nat.dvd_mul_right _ _)
  rw [e, e2]
  have hp := Nat.two_pow_pos (32 * q)
  by_cases h1 : N % 2 ^ (32 * q) = 0
  · by_cases h2 : N / 2 ^ (32 * q) % 2 ^ r = 0
    · simp [h1, h2]
    · have : 2 ^ (32 * q) * (N / 2 ^ (32 * q) % 2 ^ r) ≠ 0 := Nat.mul_ne_zero (by omega) h2
      simp [h1, h2]; exact this
  · simp [h1]
theorem down_digit (N q r n i : Nat) (hn : n = 32 * q + r) (hr : r < 32) : (dgt N (i + q) + dgt N (i + q + 1) * 4294967296) / 2 ^ r % 4294967296 = dgt (N / 2 ^ n) i := by
  have e1 : dgt N (i + q) + dgt N (i + q + 1) * 4294967296 = N / 2 ^ (32 * (i + q)) % (4294967296 * 4294967296) := by
    unfold dgt
    rw [pow32, ← Nat.div_div_eq_div_mul]
    rw [Nat.mod_mul, Nat.mul_comm 4294967296]
  rw [e1]
  unfold dgt
  have e2 : N / 2 ^ n / 2 ^ (32 * i) = N / 2 ^ (32 * (i + q)) / 2 ^ r := by
    rw [Nat.div_div_eq_div_mul, Nat.div_div_eq_div_mul, ← Nat.pow_add, ← Nat.pow_add]; congr 2; omega
  rw [e2]
  generalize N / 2 ^ (32 * (i + q)) = Y
  have e3 : (4294967296 * 4294967296 : Nat) = 2 ^ r * (4294967296 * 2 ^ (32 - r)) := by
    rw [Nat.mul_left_comm, ← Nat.pow_add, show r + (32 - r) = 32 by omega]
  rw [e3, Nat.mod_mul_right_div_self]
  exact Nat.mod_mod_of_dvd _ (Nat.dvd_mul_right _ _)

theorem wrap_pow {r : Nat} (h : r < 32) : IntKind.u64.wrap (2 ^ r) = ((2 ^ r : Nat) : Int) := by
  have h3 : (2 : Nat) ^ r ≤ 2 ^ 31 := Nat.pow_le_pow_right (by decide) (by omega)
  have e1 : ((2 : Int) ^ r) = ((2 ^ r : Nat) : Int) := by rw [Int.natCast_pow]; rfl
  rw [e1, IntKind.wrap_u64]
  generalize 2 ^ r = z at *
  omega

theorem digit_row (g m c N kk : Nat) (i : Int) (w : World) (hr : RowIs w g m N) (hN : N < 2 ^ (32 * m)) (hi : Hid (i = kk)) :
    Calls Tryz.prog 38 #[.slice (some ⟨g, 0, none⟩) m c, .int .i64 i] w fun e w' => e = .returned (.int .u64 (dgt N kk : Int)) ∧ w' = w := by
  rw [hi.out]
  by_cases hk : kk < m
  · exact digit_in g m c kk _ w hk (hr kk hk)
  · rw [dgt_ge (Nat.lt_of_lt_of_le hN (Nat.pow_le_pow_right (by decide) (by omega)))]; exact digit_out _ _ c kk w (by omega)

theorem row_far {w : World} {g m N b j : Nat} {v : Value} (h : RowIs w g m N) (hb : b ≠ g) : RowIs (w.setCell ⟨b, j, none⟩ v) g m N :=
  fun i hi => (World.cell?_setCell_far w ⟨b, j, none⟩ ⟨g, i, none⟩ v hb).trans (h i hi)

theorem ret_vb {v : Value} {a b : Bool} (h : a = b) : Ending.returned (.tuple #[v, .bool a]) = .returned (.tuple #[v, .bool b]) := by rw [h]
theorem neq_dec (D P : Nat) : ((D : Int) % (P : Int) != 0) = decide (D % P ≠ 0) := by
  by_cases h : D % P = 0
  · have : (D : Int) % (P : Int) = 0 := by rw [← Int.natCast_emod, h]; rfl
    simp [h, this]
  · have : (D : Int) % (P : Int) ≠ 0 := by rw [← Int.natCast_emod]; omega
    simp [h, this]
theorem down_val {N q r n i : Nat} (hn : n = 32 * q + r) (hr : r < 32) : (((dgt N (i + q) : Int) + (dgt N (i + q + 1) : Int) * 4294967296) / 2 ^ r).tmod 4294967296 = (dgt (N / 2 ^ n) i : Int) := by
  have e := down_digit N q r n i hn hr
  have e1 : ((dgt N (i + q) : Int) + (dgt N (i + q + 1) : Int) * 4294967296) / 2 ^ r = (((dgt N (i + q) + dgt N (i + q + 1) * 4294967296) / 2 ^ r : Nat) : Int) := by
    rw [Int.natCast_ediv, Int.natCast_add, Int.natCast_mul, Int.natCast_pow]; rfl
  rw [e1, Int.tmod_eq_emod_of_nonneg (Int.natCast_nonneg _), ← e, Int.natCast_emod]; rfl

def Half (w : World) (b n M j : Nat) : Prop := w.rowIs b 28 n (fun i => .int .u64 ((if i < j then dgt M i else 0 : Nat) : Int))
theorem half_made (w : World) (n M : Nat) : Half (w.alloc (.cells (madeCells #[.int .u64 0] n) 28)) w.heap.size n M 0 :=
  (World.rowIs_made w (.int .u64 0) n 28).congr (fun i _ => by rw [if_neg (by omega)]; rfl)
theorem half_step {w : World} {b n M j : Nat} {x : Int} (h : Half w b n M j) (hx : x = (dgt M j : Int)) : Half (w.setCell ⟨b, j, none⟩ (.int .u64 x)) b n M (j + 1) := by
  refine (h.set j (.int .u64 x)).congr fun i _ => ?_
  by_cases c : i = j
  · rw [if_pos c, if_pos (by omega), hx, c]
  · rw [if_neg c]
    by_cases d : i < j
    · rw [if_pos d, if_pos (by omega)]
    · rw [if_neg d, if_neg (by omega)]
theorem half_end {w : World} {b n M : Nat} (h : Half w b n M n) : Own w b n M := h.congr (fun i hi => by rw [if_pos hi])

set_option maxHeartbeats 400000 in
theorem shiftDown_far (p : Option Addr) (m c : Nat) (n : Int) (w : World) (hm : m ≤ 10000000) (h : 32 * (m : Int) ≤ n) :
    Calls Tryz.prog 108 #[.slice p m c, .int .i64 n] w fun e w' => e = .returned (.tuple #[.slice none 0 0, .bool (decide (0 < m))]) ∧ w' = w := by
  go_enter Tryz.func108, Tryz.ntmps108
  go_wp2
  go_ret2
  exact ⟨rfl, rfl⟩

set_option maxRecDepth 10000 in
set_option maxHeartbeats 800000 in
theorem shiftDown_row (g c N m n q r : Nat) (w : World) (hm : 1 ≤ m) (hm' : m ≤ 10000000) (hn : (n : Int) < 32 * m) (hq : (n : Int) / 32 = q) (hr : (n : Int) % 32 = r) (hrow : Hid (RowIs w g m N)) (hg : g < w.heap.size) (hN : Hid (N < 2 ^ (32 * m))) :
    Calls Tryz.prog 108 #[.slice (some ⟨g, 0, none⟩) m c, .int .i64 n] w fun e w' => ∃ v, e = .returned (.tuple #[v, .bool (lostB N n)]) ∧ DN w' v (N / 2 ^ n) ∧ Below w.heap.size w w' := by
  have hr1 : r < 32 := by omega
  have hq1 : q < m := by omega
  have HN : Hid (n = 32 * q + r) := by show _ = _; omega
  go_enter Tryz.func108, Tryz.ntmps108
  go_wp2
  go_loop [6, 7] (fun l i => ∃ k : Nat, k ≤ q ∧ l = .bool (lostB N (32 * k)) ∧ i = .int .i64 k) (fun _ i => q - (intOf i).toNat)
  case atStart => exact ⟨0, Nat.zero_le _, by rw [Nat.mul_zero, lost_zero], rfl⟩
  case round =>
    obtain ⟨k, hk, rfl, rfl⟩ := hrel
    by_cases hlt : k < q
    · have hc := hrow.out k (by omega)
      have HS := hide (lost_step N k)
      have HD : Hid (∀ D, dgt N k = D → lostB N (32 * (k + 1)) = (lostB N (32 * k) || decide (D ≠ 0))) := fun D hD => by rw [← hD]; exact HS.out
      generalize hD : dgt N k = D at hc
      have HS := hide (HD.out D hD)
      clear hD HD
      cases hl : lostB N (32 * k)
      · rw [hl, Bool.false_or] at HS
        by_cases h0 : D = 0
        · subst h0
          go_wp2
          go_round
          case rel => exact ⟨k + 1, by omega, by rw [HS.out]; rfl, by go_num⟩
          case measure => simp [intOf]; omega
        · have h1 : ((D : Int) != 0) = true := by simpa using h0
          have H0 := hide h0
          clear h0
          go_wp2
          go_round
          case rel => exact ⟨k + 1, by omega, by rw [HS.out, decide_eq_true H0.out], by go_num⟩
          case measure => simp [intOf]; omega
      · rw [hl, Bool.true_or] at HS
        go_wp2
        go_round
        case rel => exact ⟨k + 1, by omega, by rw [HS.out], by go_num⟩
        case measure => simp [intOf]; omega
    · obtain rfl : k = q := by omega
      have hcq := hrow.out k hq1
      have hki : (k : Int) < (m : Int) := by omega
      have HL := hide (lost_end (N := N) HN.out hr1)
      have HD : Hid (∀ D, dgt N k = D → lostB N n = (lostB N (32 * k) || decide (D % 2 ^ r ≠ 0))) := fun D hD => by rw [← hD]; exact HL.out
      have b1 := dgt_lt N k
      generalize hD : dgt N k = D at hcq b1
      have HL := hide (HD.out D hD)
      clear hD HD
      cases hl : lostB N (32 * k)
      · rw [hl, Bool.false_or] at HL
        have hw1 := wrap_pow hr1
        have hP := Nat.two_pow_pos r
        generalize 2 ^ r = P at hw1 HL hP
        go_wp2_with fail
        go_quiet (fail)
        have hmk := fun w => run_make_row' (P := Tryz.prog) 58 28 (.int .u64 0) 8 Tryz.underlying58 info_u64 rfl .i64 .i64 (m - k) (by omega) (by omega) w
        have ec : ((m - k : Nat) : Int) = (m : Int) - (k : Int) := by omega
        rw [ec] at hmk
        clear ec
        go_wp2_with fail
        rw [hr]
        go_loopw [9] (fun i wr => ∃ j : Nat, j ≤ m - k ∧ i = .int .i64 j ∧ Hid (Half wr w.heap.size (m - k) (N / 2 ^ n) j) ∧ Hid (Below w.heap.size w wr)) (fun i _ => m - k - (intOf i).toNat)
        case atStart => exact ⟨0, Nat.zero_le _, rfl, half_made (w.drewN nq) (m - k) _, below_drewN ((Below.refl _ _).alloc (Nat.le_refl _) _) _⟩
        case round =>
          obtain ⟨j, hj, rfl, HH, HB⟩ := hrel
          by_cases hlt : j < m - k
          · have hc1 : wr.cell? ⟨g, j + k, none⟩ = some (.int .u64 (dgt N (j + k) : Int)) := (HB.out.cell (p := ⟨g, j + k, none⟩) hg).trans (hrow.out (j + k) (by omega))
            have HR : Hid (RowIs wr g m N) := hrow.out.below hg HB.out
            have h1 := HH.out.cell (i := j) (by omega)
            have f1 := HH.out.frozen j
            have b2 := dgt_lt N (j + k)
            have b3 := dgt_lt N (j + k + 1)
            generalize hE : (if j < j then dgt (N / 2 ^ n) j else 0 : Nat) = E at h1
            clear hE
            have hjk : (j : Int) + (k : Int) < (m : Int) := by omega
            have hjm : (j : Int) < ((m - k : Nat) : Int) := by omega
            go_wp2_with fail
            generalize hD1 : dgt N (j + k) = D1 at hc1 b2
            have HD1 := hide hD1
            clear hD1
            generalize hD2 : dgt N (j + k + 1) = D2 at b3
            have HD2 := hide hD2
            clear hD2
            have t1 : (n : Int).tdiv 32 = (k : Int) := by rw [Int.tdiv_eq_ediv_of_nonneg (by omega)]; exact hq
            have t2 : (n : Int).tmod 32 = (r : Int) := by rw [Int.tmod_eq_emod_of_nonneg (by omega)]; exact hr
            have w0 : IntKind.i64.wrap (k : Int) = (k : Int) := by rw [IntKind.wrap_i64]; omega
            have w0' : IntKind.i64.wrap (r : Int) = (r : Int) := by rw [IntKind.wrap_i64]; omega
            have nn : (0 : Int) ≤ (j : Int) + (k : Int) := by omega
            have tn : ((j : Int) + (k : Int)).toNat = j + k := by omega
            have w1 : IntKind.i64.wrap ((j : Int) + (k : Int)) = (j : Int) + (k : Int) := by rw [IntKind.wrap_i64]; omega
            have w2 : IntKind.i64.wrap ((j : Int) + (k : Int) + 1) = (j : Int) + (k : Int) + 1 := by rw [IntKind.wrap_i64]; omega
            have w3 : IntKind.u64.wrap ((D2 : Int) * 4294967296) = (D2 : Int) * 4294967296 := by rw [IntKind.wrap_u64]; omega
            have w4 : IntKind.u64.wrap ((D1 : Int) + (D2 : Int) * 4294967296) = (D1 : Int) + (D2 : Int) * 4294967296 := by rw [IntKind.wrap_u64]; omega
            have hDig : ∀ w', RowIs w' g m N → Calls Tryz.prog 38 #[.slice (some ⟨g, 0, none⟩) m c, .int .i64 ((j : Int) + (k : Int) + 1)] w' fun e w'' => e = .returned (.int .u64 (D2 : Int)) ∧ w'' = w' := fun w' h => by
              have := digit_row g m c N (j + k + 1) ((j : Int) + (k : Int) + 1) w' h hN.out (by show _ = _; omega)
              rw [HD2.out] at this; exact this
            have HDig := hide hDig
            clear hDig
            have hfar : w.heap.size ≠ g := by omega
            have HST : Hid (Half (wr.setCell ⟨w.heap.size, j, none⟩ (.int .u64 ((((D1 : Int) + (D2 : Int) * 4294967296) / 2 ^ r).tmod 4294967296))).drew w.heap.size (m - k) (N / 2 ^ n) (j + 1)) := half_step HH.out (by rw [← HD1.out, ← HD2.out]; exact down_val HN.out hr1)
            have HBT : Hid (Below w.heap.size w (wr.setCell ⟨w.heap.size, j, none⟩ (.int .u64 ((((D1 : Int) + (D2 : Int) * 4294967296) / 2 ^ r).tmod 4294967296))).drew) := (HB.out.setCell (Nat.le_refl _) _).drew
            go_region_held3 (fun w' => w'.cell? ⟨g, j + k, none⟩ = some (.int .u64 (D1 : Int)) ∧ RowIs w' g m N) (first | exact ⟨hc1, HR.out⟩ | exact ⟨(World.cell?_setCell_far _ _ _ _ hfar).trans hc1, row_far HR.out hfar⟩ | go_keep) ((go_at_call 38; refine (HDig.out _ (by first | assumption | exact HR.out)).mono ?_; rintro e w' ⟨rfl, rfl⟩))
            go_wp2_with fail
            go_roundw
            case rel => first | exact ⟨j + 1, by omega, by go_num, HST, HBT⟩ | ((repeat apply Exists.intro); exact ⟨⟨j + 1, by omega, by go_num, HST, HBT⟩, rfl⟩)
            case measure => simp [intOf]; omega
          · obtain rfl : j = m - k := by omega
            have HO := hide (half_end HH.out)
            have HM : Hid (N / 2 ^ n < 2 ^ (32 * (m - k))) := by
              show _ < _
              rw [Nat.div_lt_iff_lt_mul (Nat.two_pow_pos _), ← Nat.pow_add]
              refine Nat.lt_of_lt_of_le hN.out (Nat.pow_le_pow_right (by decide) ?_)
              have := HN.out; omega
            have hlt2 := HH.out.lt
            have HD := hide (dn_mk HO.out.row HM.out (Nat.le_refl _) hlt2)
            go_wp2_with fail
            refine (trim_row _ _ _ _ _ HO.out.row HM.out (Nat.le_refl _) (by omega)).mono ?_
            rintro e w' ⟨rfl, rfl⟩
            go_wp2_with fail
            go_ret2
            exact ⟨_, ret_vb (by rw [HL.out]; exact neq_dec D P), HD.out, HB.out⟩
      · rw [hl, Bool.true_or] at HL
        go_wp2_with fail
        go_quiet (fail)
        have hmk := fun w => run_make_row' (P := Tryz.prog) 58 28 (.int .u64 0) 8 Tryz.underlying58 info_u64 rfl .i64 .i64 (m - k) (by omega) (by omega) w
        have ec : ((m - k : Nat) : Int) = (m : Int) - (k : Int) := by omega
        rw [ec] at hmk
        clear ec
        go_wp2_with fail
        go_loopw [9] (fun i wr => ∃ j : Nat, j ≤ m - k ∧ i = .int .i64 j ∧ Hid (Half wr w.heap.size (m - k) (N / 2 ^ n) j) ∧ Hid (Below w.heap.size w wr)) (fun i _ => m - k - (intOf i).toNat)
        case atStart => exact ⟨0, Nat.zero_le _, rfl, half_made (w.drewN nq) (m - k) _, below_drewN ((Below.refl _ _).alloc (Nat.le_refl _) _) _⟩
        case round =>
          obtain ⟨j, hj, rfl, HH, HB⟩ := hrel
          by_cases hlt : j < m - k
          · have hc1 : wr.cell? ⟨g, j + k, none⟩ = some (.int .u64 (dgt N (j + k) : Int)) := (HB.out.cell (p := ⟨g, j + k, none⟩) hg).trans (hrow.out (j + k) (by omega))
            have HR : Hid (RowIs wr g m N) := hrow.out.below hg HB.out
            have h1 := HH.out.cell (i := j) (by omega)
            have f1 := HH.out.frozen j
            have b2 := dgt_lt N (j + k)
            have b3 := dgt_lt N (j + k + 1)
            generalize hE : (if j < j then dgt (N / 2 ^ n) j else 0 : Nat) = E at h1
            clear hE
            have hjk : (j : Int) + (k : Int) < (m : Int) := by omega
            have hjm : (j : Int) < ((m - k : Nat) : Int) := by omega
            go_wp2_with fail
            generalize hD1 : dgt N (j + k) = D1 at hc1 b2
            have HD1 := hide hD1
            clear hD1
            generalize hD2 : dgt N (j + k + 1) = D2 at b3
            have HD2 := hide hD2
            clear hD2
            have t1 : (n : Int).tdiv 32 = (k : Int) := by rw [Int.tdiv_eq_ediv_of_nonneg (by omega)]; exact hq
            have t2 : (n : Int).tmod 32 = (r : Int) := by rw [Int.tmod_eq_emod_of_nonneg (by omega)]; exact hr
            have w0 : IntKind.i64.wrap (k : Int) = (k : Int) := by rw [IntKind.wrap_i64]; omega
            have w0' : IntKind.i64.wrap (r : Int) = (r : Int) := by rw [IntKind.wrap_i64]; omega
            have nn : (0 : Int) ≤ (j : Int) + (k : Int) := by omega
            have tn : ((j : Int) + (k : Int)).toNat = j + k := by omega
            have w1 : IntKind.i64.wrap ((j : Int) + (k : Int)) = (j : Int) + (k : Int) := by rw [IntKind.wrap_i64]; omega
            have w2 : IntKind.i64.wrap ((j : Int) + (k : Int) + 1) = (j : Int) + (k : Int) + 1 := by rw [IntKind.wrap_i64]; omega
            have w3 : IntKind.u64.wrap ((D2 : Int) * 4294967296) = (D2 : Int) * 4294967296 := by rw [IntKind.wrap_u64]; omega
            have w4 : IntKind.u64.wrap ((D1 : Int) + (D2 : Int) * 4294967296) = (D1 : Int) + (D2 : Int) * 4294967296 := by rw [IntKind.wrap_u64]; omega
            have hDig : ∀ w', RowIs w' g m N → Calls Tryz.prog 38 #[.slice (some ⟨g, 0, none⟩) m c, .int .i64 ((j : Int) + (k : Int) + 1)] w' fun e w'' => e = .returned (.int .u64 (D2 : Int)) ∧ w'' = w' := fun w' h => by
              have := digit_row g m c N (j + k + 1) ((j : Int) + (k : Int) + 1) w' h hN.out (by show _ = _; omega)
              rw [HD2.out] at this; exact this
            have HDig := hide hDig
            clear hDig
            have hfar : w.heap.size ≠ g := by omega
            have HST : Hid (Half (wr.setCell ⟨w.heap.size, j, none⟩ (.int .u64 ((((D1 : Int) + (D2 : Int) * 4294967296) / 2 ^ r).tmod 4294967296))).drew w.heap.size (m - k) (N / 2 ^ n) (j + 1)) := half_step HH.out (by rw [← HD1.out, ← HD2.out]; exact down_val HN.out hr1)
            have HBT : Hid (Below w.heap.size w (wr.setCell ⟨w.heap.size, j, none⟩ (.int .u64 ((((D1 : Int) + (D2 : Int) * 4294967296) / 2 ^ r).tmod 4294967296))).drew) := (HB.out.setCell (Nat.le_refl _) _).drew
            go_region_held3 (fun w' => w'.cell? ⟨g, j + k, none⟩ = some (.int .u64 (D1 : Int)) ∧ RowIs w' g m N) (first | exact ⟨hc1, HR.out⟩ | exact ⟨(World.cell?_setCell_far _ _ _ _ hfar).trans hc1, row_far HR.out hfar⟩ | go_keep) ((go_at_call 38; refine (HDig.out _ (by first | assumption | exact HR.out)).mono ?_; rintro e w' ⟨rfl, rfl⟩))
            go_wp2_with fail
            go_roundw
            case rel => first | exact ⟨j + 1, by omega, by go_num, HST, HBT⟩ | ((repeat apply Exists.intro); exact ⟨⟨j + 1, by omega, by go_num, HST, HBT⟩, rfl⟩)
            case measure => simp [intOf]; omega
          · obtain rfl : j = m - k := by omega
            have HO := hide (half_end HH.out)
            have HM : Hid (N / 2 ^ n < 2 ^ (32 * (m - k))) := by
              show _ < _
              rw [Nat.div_lt_iff_lt_mul (Nat.two_pow_pos _), ← Nat.pow_add]
              refine Nat.lt_of_lt_of_le hN.out (Nat.pow_le_pow_right (by decide) ?_)
              have := HN.out; omega
            have hlt2 := HH.out.lt
            have HD := hide (dn_mk HO.out.row HM.out (Nat.le_refl _) hlt2)
            go_wp2_with fail
            refine (trim_row _ _ _ _ _ HO.out.row HM.out (Nat.le_refl _) (by omega)).mono ?_
            rintro e w' ⟨rfl, rfl⟩
            go_wp2_with fail
            go_ret2
            exact ⟨_, ret_vb HL.out.symm, HD.out, HB.out⟩

theorem shiftDown_any (v : Value) (N n : Nat) (w : World) (h : DN w v N) (hb : nd N ≤ 10000000) :
    Calls Tryz.prog 108 #[v, .int .i64 n] w fun e w' => ∃ v, e = .returned (.tuple #[v, .bool (lostB N n)]) ∧ DN w' v (N / 2 ^ n) ∧ Below w.heap.size w w' := by
  rcases h with ⟨h0, p, c, rfl⟩ | ⟨h0, g, c, rfl, hc, hg, hr⟩
  · refine (shiftDown_far p 0 c n w (by omega) (by omega)).mono ?_
    rintro e w' ⟨rfl, rfl⟩
    exact ⟨_, ret_vb (by rw [h0]; unfold lostB; rw [Nat.zero_mod]; rfl), Or.inl ⟨by rw [h0, Nat.zero_div], none, 0, rfl⟩, Below.refl _ _⟩
  · have h1 := nd_pos h0
    by_cases hf : 32 * (nd N : Int) ≤ n
    · have hlt : N < 2 ^ n := Nat.lt_of_lt_of_le (nd_lt N) (Nat.pow_le_pow_right (by decide) (by omega))
      refine (shiftDown_far _ (nd N) c n w hb hf).mono ?_
      rintro e w' ⟨rfl, rfl⟩
      exact ⟨_, ret_vb (by unfold lostB; rw [Nat.mod_eq_of_lt hlt]; simp [h0]; omega), Or.inl ⟨Nat.div_eq_of_lt hlt, none, 0, rfl⟩, Below.refl _ _⟩
    · exact shiftDown_row g c N (nd N) n (n / 32) (n % 32) w h1 hb (by omega) (by omega) (by omega) hr hg (nd_lt N)

end Go.Proofs.YtbgmbodedjhfoaaGreatDoor
namespace Go.Proofs.YtbgmbodedjhfoaaGreatDoor
open Go.RowKit

theorem digit_at (v : Value) (N k : Nat) (i : Int) (q : Int) (w : World) (h : DN w v N) (hi : Hid (i = k)) (hq : Hid ((dgt N k : Int) = q)) :
    Calls Tryz.prog 38 #[v, .int .i64 i] w fun e w' => e = .returned (.int .u64 q) ∧ w' = w := by
  rw [hi.out, ← hq.out]; exact digit_any v N k w h
theorem shiftUp_at (v : Value) (N n : Nat) (i : Int) (w : World) (h : DN w v N) (hb : nd N ≤ 10000000) (hn : n ≤ 100000000) (hi : Hid (i = n)) :
    Calls Tryz.prog 83 #[v, .int .i64 i] w fun e w' => ∃ v, e = .returned v ∧ DN w' v (N * 2 ^ n) ∧ Below w.heap.size w w' := by
  rw [hi.out]; exact shiftUp_any v N n w h hb hn
theorem shiftDown_at (v : Value) (N n : Nat) (i : Int) (w : World) (h : DN w v N) (hb : nd N ≤ 10000000) (hi : Hid (i = n)) :
    Calls Tryz.prog 108 #[v, .int .i64 i] w fun e w' => ∃ v, e = .returned (.tuple #[v, .bool (lostB N n)]) ∧ DN w' v (N / 2 ^ n) ∧ Below w.heap.size w w' := by
  rw [hi.out]; exact shiftDown_any v N n w h hb
theorem DN.drewN {w : World} {v : Value} {N : Nat} (h : DN w v N) (n : Nat) : DN (w.drewN n) v N := h

set_option maxHeartbeats 800000 in
theorem rounded_up (v : Value) (N : Nat) (e L : Int) (more : Bool) (w : World) (h : DN w v N) (hb : nd N ≤ 1000000) (he : -10000000 ≤ e) (he' : e ≤ 10000000) (hL : Hid (L = lsb53 N e)) (hLe : L ≤ e) (hLm : L + 1074 ≤ 3000) :
    Calls Tryz.prog 92 #[v, .int .i64 e, .bool more, .int .i64 53, .int .i64 (-1074)] w fun x w' => x = .returned (.int .u64 (rnd53 N e more : Int)) ∧ Below w.heap.size w w' := by
  have hbl := bl_nd N
  have HK : Hid (N * 2 ^ (e - L).toNat < 9007199254740992) := by rw [hL.out] at hLe ⊢; exact kept_up hLe
  have hLl : -1074 ≤ L := by rw [hL.out]; exact lsb_ge N e
  have HV : Hid ((rnd53 N e more : Int) = (L + 1074) * 4503599627370496 + (dgt (N * 2 ^ (e - L).toNat) 0 : Int) + (dgt (N * 2 ^ (e - L).toNat) 1 : Int) * 4294967296) := by
    show _ = _
    have e1 := two_digits (K := N * 2 ^ (e - L).toNat) (by have := HK.out; omega)
    have e2 : rnd53 N e more = (L + 1074).toNat * 4503599627370496 + N * 2 ^ (e - L).toNat := by
      unfold rnd53 kept53; rw [← hL.out, if_pos hLe]
    rw [e2]
    generalize N * 2 ^ (e - L).toNat = K at *
    omega
  have hmax : max ((bl N : Int) - 53 + e) (-1074) = L := by rw [hL.out]; rfl
  have b0 := dgt_lt (N * 2 ^ (e - L).toNat) 0
  have HB1 : dgt (N * 2 ^ (e - L).toNat) 1 ≤ 2097152 := by
    have e1 := two_digits (K := N * 2 ^ (e - L).toNat) (by have := HK.out; omega)
    have := HK.out; omega
  rw [HV.out]
  generalize hd0 : dgt (N * 2 ^ (e - L).toNat) 0 = d0 at b0
  generalize hd1 : dgt (N * 2 ^ (e - L).toNat) 1 = d1 at HB1
  have HD0 : Hid ((dgt (N * 2 ^ (e - L).toNat) 0 : Int) = d0) := by show _ = _; rw [hd0]
  have HD1 : Hid ((dgt (N * 2 ^ (e - L).toNat) 1 : Int) = d1) := by show _ = _; rw [hd1]
  clear hd0 hd1 HV
  have H := hide h
  clear h
  have HLen := hide (fun w (h : DN w v N) => len_any v N w h (by omega))
  generalize hB : (bl N : Int) = B at hmax HLen
  have hB0 : 0 ≤ B := by omega
  have hB1 : B ≤ 32000000 := by omega
  clear hB hbl
  have w1 : IntKind.i64.wrap (L + 1074) = L + 1074 := by rw [IntKind.wrap_i64]; omega
  have w2 : IntKind.u64.wrap (L + 1074) = L + 1074 := by rw [IntKind.wrap_u64]; omega
  have w3 : IntKind.u64.wrap ((L + 1074) * 4503599627370496) = (L + 1074) * 4503599627370496 := by rw [IntKind.wrap_u64]; omega
  have w4 : IntKind.u64.wrap ((L + 1074) * 4503599627370496 + (d0 : Int)) = (L + 1074) * 4503599627370496 + (d0 : Int) := by rw [IntKind.wrap_u64]; omega
  have w5 : IntKind.u64.wrap ((d1 : Int) * 4294967296) = (d1 : Int) * 4294967296 := by rw [IntKind.wrap_u64]; omega
  have w6 : IntKind.u64.wrap ((L + 1074) * 4503599627370496 + (d0 : Int) + (d1 : Int) * 4294967296) = (L + 1074) * 4503599627370496 + (d0 : Int) + (d1 : Int) * 4294967296 := by rw [IntKind.wrap_u64]; omega
  go_enter Tryz.func92, Tryz.ntmps92
  go_wp2_with fail
  refine (unhide HLen _ H.out).mono ?_
  rintro x w' ⟨rfl, rfl⟩
  go_wp2_with fail
  refine (shiftUp_at v N (e - L).toNat _ _ H.out (by omega) (by omega) (by show _ = _; omega)).mono ?_
  rintro x w1 ⟨v1, rfl, hd1, hb1⟩
  have HN1 := hide hd1
  have HB := hide hb1
  clear hd1 hb1
  go_wp2_with fail
  go_quiet ((first | (go_at_call_of 38 (Value.int IntKind.i64 0); exact Calls.quiet_of_same (digit_at v1 _ 0 0 _ _ HN1.out rfl HD0)) | (go_at_call_of 38 (Value.int IntKind.i64 1); exact Calls.quiet_of_same (digit_at v1 _ 1 1 _ _ HN1.out rfl HD1))))
  go_wp2_with fail
  go_ret
  exact ⟨rfl, below_drewN HB.out _⟩

set_option maxHeartbeats 2000000 in
theorem rounded_down (v : Value) (N d : Nat) (e L : Int) (more hf lo qo : Bool) (w : World) (h : DN w v N) (hb : nd N ≤ 1000000) (he : -10000000 ≤ e) (he' : e ≤ 10000000) (hL : Hid (L = lsb53 N e)) (hLe : e < L) (hLm : L + 1074 ≤ 3000) (hd : Hid (L - e = d))
    (hhf : Hid (((dgt (N / 2 ^ (d - 1)) 0 : Int) % 2 == 1) = hf)) (hlo : Hid (lostB N (d - 1) = lo)) (hqo : Hid (((N / 2 ^ d : Nat) : Int) % 2 = if qo then 1 else 0)) :
    Calls Tryz.prog 92 #[v, .int .i64 e, .bool more, .int .i64 53, .int .i64 (-1074)] w fun x w' => x = .returned (.int .u64 ((L + 1074) * 4503599627370496 + (((N / 2 ^ d : Nat) : Int) + if hf && (lo || more || qo) then 1 else 0))) ∧ Below w.heap.size w w' := by
  have hbl := bl_nd N
  have HQ : N / 2 ^ d < 9007199254740992 := by
    have := kept_down (N := N) (e := e) (by rw [← hL.out]; exact hLe)
    rw [← hL.out, show (L - e).toNat = d by have := hd.out; omega] at this; exact this
  have hLl : -1074 ≤ L := by rw [hL.out]; exact lsb_ge N e
  have hmax : max ((bl N : Int) - 53 + e) (-1074) = L := by rw [hL.out]; rfl
  have h2 := two_digits (K := N / 2 ^ d) (by omega)
  have b0 := dgt_lt (N / 2 ^ d) 0
  have b1 : dgt (N / 2 ^ d) 1 ≤ 2097152 := by omega
  have bh := dgt_lt (N / 2 ^ (d - 1)) 0
  generalize hQ : N / 2 ^ d = Q at hqo HQ h2
  have HQe : Hid (N / 2 ^ d = Q) := hQ
  rw [hQ] at b0 b1
  generalize hq0 : dgt Q 0 = q0 at h2 b0
  generalize hq1 : dgt Q 1 = q1 at h2 b1
  have hh := hhf.out
  generalize hg0 : dgt (N / 2 ^ (d - 1)) 0 = g0 at bh hh
  have HD0 : Hid ((dgt Q 0 : Int) = q0) := by show _ = _; rw [hq0]
  have HD1 : Hid ((dgt Q 1 : Int) = q1) := by show _ = _; rw [hq1]
  have HH : Hid ((dgt (N / 2 ^ (d - 1)) 0 : Int) = g0) := by show _ = _; rw [hg0]
  clear hq0 hq1 hg0
  have hQq : (q0 : Int) + (q1 : Int) * 4294967296 = (Q : Int) := by omega
  clear hQ h2
  have H := hide h
  clear h
  have HLen := hide (fun w (h : DN w v N) => len_any v N w h (by omega))
  have HE := hide (show L - e = (d : Int) from hd.out)
  have HE1 : Hid (L - e - 1 = ((d - 1 : Nat) : Int)) := by show _ = _; have := hd.out; omega
  generalize hB : (bl N : Int) = B at hmax HLen
  have hB0 : 0 ≤ B := by omega
  have hB1 : B ≤ 32000000 := by omega
  clear hB hbl
  have hq2 : ((Q : Int) % 2 == 1) = qo := by have := hqo.out; cases qo <;> simp at this ⊢ <;> omega
  cases hf <;> cases lo <;> cases more <;> cases qo
  all_goals
    simp only [Bool.false_and, Bool.true_and, Bool.or_true, Bool.or_false, Bool.false_eq_true, if_true, if_false, Int.add_zero]
    go_enter Tryz.func92, Tryz.ntmps92
    go_wp2_with fail
    refine (unhide HLen _ H.out).mono ?_
    rintro x w' ⟨rfl, rfl⟩
    go_wp2_with fail
    refine (shiftDown_at v N d _ _ H.out (by omega) HE).mono ?_
    rintro x w1 ⟨v1, rfl, hd1, hb1⟩
    have HN1 := hide hd1
    have HB := hide hb1
    clear hd1 hb1
    go_wp2_with fail
    refine (shiftDown_at v N (d - 1) _ _ (H.out.below HB.out) (by omega) HE1).mono ?_
    rw [hlo.out]
    rintro x w2 ⟨v2, rfl, hd2, hb2⟩
    have HN2 := hide hd2
    have HN1 := hide (HN1.out.below hb2)
    have HB := hide (HB.out.trans (hb2.mono HB.out.size))
    clear hd2 hb2
    rw [HQe.out] at HN1
    go_wp2_with fail
    refine (digit_at v1 Q 0 0 q0 _ HN1.out rfl HD0).mono ?_
    rintro x w' ⟨rfl, rfl⟩
    go_wp2_with fail
    refine (digit_at v1 Q 1 1 q1 _ HN1.out rfl HD1).mono ?_
    rintro x w' ⟨rfl, rfl⟩
    go_wp2_with fail
    refine (digit_at v2 _ 0 0 g0 _ HN2.out rfl HH).mono ?_
    rintro x w' ⟨rfl, rfl⟩
    go_wp2_with fail
    go_ret
    exact ⟨ret_int (by omega), HB.out⟩

theorem half_odd (N k : Nat) : ((dgt (N / 2 ^ k) 0 : Int) % 2 == 1) = decide (N / 2 ^ k % 2 = 1) := by
  unfold dgt
  rw [Nat.mul_zero, Nat.pow_zero, Nat.div_one]
  generalize N / 2 ^ k = z
  by_cases h : z % 2 = 1
  · rw [decide_eq_true h]; simp; omega
  · rw [decide_eq_false h]; simp; omega

theorem rounded_any (v : Value) (N : Nat) (e : Int) (more : Bool) (w : World) (h : DN w v N) (hb : nd N ≤ 1000000) (he : -10000000 ≤ e) (he' : e ≤ 10000000) (hLm : lsb53 N e + 1074 ≤ 3000) :
    Calls Tryz.prog 92 #[v, .int .i64 e, .bool more, .int .i64 53, .int .i64 (-1074)] w fun x w' => x = .returned (.int .u64 (rnd53 N e more : Int)) ∧ Below w.heap.size w w' := by
  by_cases hc : lsb53 N e ≤ e
  · exact rounded_up v N e (lsb53 N e) more w h hb he he' rfl hc hLm
  · have hl := lsb_ge N e
    have key := rounded_down v N (lsb53 N e - e).toNat e (lsb53 N e) more (decide (N / 2 ^ ((lsb53 N e - e).toNat - 1) % 2 = 1)) (lostB N ((lsb53 N e - e).toNat - 1)) (decide (N / 2 ^ (lsb53 N e - e).toNat % 2 = 1)) w h hb he he' rfl (by omega) hLm (by show _ = _; omega) (half_odd N _) rfl
      (by show _ = _; generalize N / 2 ^ (lsb53 N e - e).toNat = z; by_cases h : z % 2 = 1 <;> simp [h] <;> omega)
    have ev : (rnd53 N e more : Int) = (lsb53 N e + 1074) * 4503599627370496 + (((N / 2 ^ (lsb53 N e - e).toNat : Nat) : Int) + if decide (N / 2 ^ ((lsb53 N e - e).toNat - 1) % 2 = 1) && (lostB N ((lsb53 N e - e).toNat - 1) || more || decide (N / 2 ^ (lsb53 N e - e).toNat % 2 = 1)) then 1 else 0) := by
      unfold rnd53 kept53 keptD lostB
      rw [if_neg hc]
      have e1 : (((decide (N / 2 ^ ((lsb53 N e - e).toNat - 1) % 2 = 1) && (decide (N % 2 ^ ((lsb53 N e - e).toNat - 1) ≠ 0) || more || decide (N / 2 ^ (lsb53 N e - e).toNat % 2 = 1))) = true) ↔ (N / 2 ^ ((lsb53 N e - e).toNat - 1) % 2 = 1 ∧ (N % 2 ^ ((lsb53 N e - e).toNat - 1) ≠ 0 ∨ more = true ∨ N / 2 ^ (lsb53 N e - e).toNat % 2 = 1))) := by
        simp only [Bool.and_eq_true, Bool.or_eq_true, decide_eq_true_eq, or_assoc]
      simp only [e1]
      split <;> omega
    rw [ev]; exact key

end Go.Proofs.YtbgmbodedjhfoaaGreatDoor
namespace Go.Proofs.YtbgmbodedjhfoaaGreatDoor
open Go.RowKit

def NumV (neg : Bool) (v : Value) (e : Int) : Value := .agg #[.bool neg, v, .int .i64 e]

def madeI (neg : Bool) (u : Int) : Int := if neg then min u 9218868437227405312 + 9223372036854775808 else min u 9218868437227405312

set_option maxHeartbeats 400000 in
theorem made_any (neg : Bool) (u : Int) (w : World) (h0 : 0 ≤ u) (h1 : u < 18446744073709551616) :
    Calls Tryz.prog 91 #[.bool neg, .int .u64 u] w fun e w' => e = .returned (.int .u64 (madeI neg u)) ∧ w' = w := by
  unfold madeI
  cases neg
  · simp only [Bool.false_eq_true, if_false]
    go_enter Tryz.func91, Tryz.ntmps91
    go_wp2
    go_ret
    exact ⟨rfl, rfl⟩
  · simp only [if_true]
    go_enter Tryz.func91, Tryz.ntmps91
    go_wp2
    go_ret
    exact ⟨ret_int (by omega), rfl⟩

set_option maxHeartbeats 400000 in
theorem zero_any (neg : Bool) (v : Value) (e : Int) (N : Nat) (w : World) (h : DN w v N) :
    Calls Tryz.prog 89 #[NumV neg v e] w fun x w' => x = .returned (.bool (decide (N = 0))) ∧ Below w.heap.size w w' := by
  unfold NumV
  rcases h with ⟨h0, p, c, rfl⟩ | ⟨h0, g, c, rfl, hc, hg, hr⟩
  · go_enter Tryz.func89, Tryz.ntmps89
    go_wp2
    go_ret
    exact ⟨ret_bool (by simp [h0]), (Below.refl _ _).alloc (Nat.le_refl _) _⟩
  · have h1 := nd_pos h0
    have h2 : ((nd N : Int) == 0) = false := by simp; omega
    clear hr
    go_enter Tryz.func89, Tryz.ntmps89
    go_wp2
    go_ret
    exact ⟨ret_bool (by simp [h0]), (Below.refl _ _).alloc (Nat.le_refl _) _⟩

def farB (N : Nat) (e : Int) : Bool := decide (1100 < (bl N : Int) + e) || decide ((bl N : Int) + e < -1200)

theorem len_at (v : Value) (N : Nat) (B : Int) (w : World) (h : DN w v N) (hb : nd N ≤ 100000000) (hB : Hid ((bl N : Int) = B)) :
    Calls Tryz.prog 82 #[v] w fun e w' => e = .returned (.int .i64 B) ∧ w' = w := by
  rw [← hB.out]; exact len_any v N w h hb

set_option maxHeartbeats 400000 in
theorem far_any (neg : Bool) (v : Value) (e : Int) (N : Nat) (w : World) (h : DN w v N) (hb : nd N ≤ 1000000) (he : -10000000 ≤ e) (he' : e ≤ 10000000) :
    Calls Tryz.prog 90 #[NumV neg v e] w fun x w' => x = .returned (.bool (farB N e)) ∧ Below w.heap.size w w' := by
  unfold NumV farB
  have hbl := bl_nd N
  have HA : Hid (∀ n, DN ((w.alloc (.cells #[.bool neg, v, .int .i64 e] 60)).drewN n) v N) := fun n => h.below (below_drewN ((Below.refl _ _).alloc (Nat.le_refl _) _) n)
  generalize hB : (bl N : Int) = B
  have HB := hide hB
  have hB0 : 0 ≤ B := by omega
  have hB1 : B ≤ 32000000 := by omega
  clear hB hbl h
  have w1 : IntKind.i64.wrap (B + e) = B + e := by rw [IntKind.wrap_i64]; omega
  by_cases h1 : 1100 < B + e
  · have d1 : decide (1100 < B + e) = true := by simpa using h1
    rw [d1, Bool.true_or]
    go_enter Tryz.func90, Tryz.ntmps90
    go_wp2_with fail
    go_quiet ((go_at_call 82; exact Calls.quiet_of_same (len_at v N B _ (HA.out _) (by omega) HB)))
    go_wp2_with fail
    go_ret
    exact ⟨rfl, below_drewN ((Below.refl _ _).alloc (Nat.le_refl _) _) _⟩
  · have d1 : decide (1100 < B + e) = false := by simpa using h1
    rw [d1, Bool.false_or]
    go_enter Tryz.func90, Tryz.ntmps90
    go_wp2_with fail
    go_quiet ((go_at_call 82; exact Calls.quiet_of_same (len_at v N B _ (HA.out _) (by omega) HB)))
    go_wp2_with fail
    go_ret
    exact ⟨rfl, below_drewN ((Below.refl _ _).alloc (Nat.le_refl _) _) _⟩

def nearM (neg : Bool) (N : Nat) (e : Int) (more : Bool) : Int :=
  if N = 0 then 0 else if farB N e then (if 0 < e ∨ 0 < (bl N : Int) + e then madeI neg 9218868437227405312 else madeI neg 0) else madeI neg (rnd53 N e more)

theorem bcell {W w1 : World} (hb : Below W.heap.size W w1) : (∀ b o, b < W.heap.size → w1.cell? ⟨b, o, none⟩ = W.cell? ⟨b, o, none⟩) ∧ (∀ b o, b < W.heap.size → w1.frozen? ⟨b, o, none⟩ = W.frozen? ⟨b, o, none⟩) :=
  ⟨fun b o h => hb.cell (p := ⟨b, o, none⟩) h, fun b o h => hb.frozen (p := ⟨b, o, none⟩) h⟩

theorem zero_at (neg : Bool) (v : Value) (e : Int) (N : Nat) (z : Bool) (w : World) (h : DN w v N) (hz : Hid (decide (N = 0) = z)) :
    Calls Tryz.prog 89 #[.agg #[.bool neg, v, .int .i64 e]] w fun x w' => x = .returned (.bool z) ∧ Below w.heap.size w w' := by
  rw [← hz.out]; exact zero_any neg v e N w h
theorem far_at (neg : Bool) (v : Value) (e : Int) (N : Nat) (z : Bool) (w : World) (h : DN w v N) (hb : nd N ≤ 1000000) (he : -10000000 ≤ e) (he' : e ≤ 10000000) (hz : Hid (farB N e = z)) :
    Calls Tryz.prog 90 #[.agg #[.bool neg, v, .int .i64 e]] w fun x w' => x = .returned (.bool z) ∧ Below w.heap.size w w' := by
  rw [← hz.out]; exact far_any neg v e N w h hb he he'

set_option maxHeartbeats 400000 in
theorem nearMore_zero (neg more : Bool) (v : Value) (e : Int) (w : World) (h : DN w v 0) :
    Calls Tryz.prog 67 #[NumV neg v e, .bool more] w fun x w' => x = .returned (.int .u64 0) ∧ Below w.heap.size w w' := by
  unfold NumV
  have H1 := hide (h.below ((Below.refl w.heap.size w).alloc (Nat.le_refl _) (.cells #[.bool neg, v, .int .i64 e] 60)))
  clear h
  go_enter Tryz.func67, Tryz.ntmps67
  go_wp2_with fail
  refine (zero_at _ _ _ 0 true _ H1.out rfl).mono ?_
  rintro x w1 ⟨rfl, hb1⟩
  have HB := hide hb1
  clear hb1
  go_wp2_with fail
  go_ret
  exact ⟨rfl, ((Below.refl _ _).alloc (Nat.le_refl _) _).trans (HB.out.mono (by simp))⟩

theorem box_cells {w w1 : World} {neg : Bool} {v : Value} {e : Int} (hb : Below (w.alloc (.cells #[.bool neg, v, .int .i64 e] 60)).heap.size (w.alloc (.cells #[.bool neg, v, .int .i64 e] 60)) w1) :
    w1.cell? ⟨w.heap.size, 0, none⟩ = some (.bool neg) ∧ w1.cell? ⟨w.heap.size, 1, none⟩ = some v ∧ w1.cell? ⟨w.heap.size, 2, none⟩ = some (.int .i64 e) := by
  refine ⟨?_, ?_, ?_⟩
  · rw [hb.cell (p := ⟨w.heap.size, 0, none⟩) (by simp)]; simp
  · rw [hb.cell (p := ⟨w.heap.size, 1, none⟩) (by simp)]; simp
  · rw [hb.cell (p := ⟨w.heap.size, 2, none⟩) (by simp)]; simp

set_option maxHeartbeats 800000 in
theorem nearMore_in (neg more : Bool) (v : Value) (e : Int) (N : Nat) (w : World) (h : DN w v N) (hN : N ≠ 0) (hb : nd N ≤ 1000000) (he : -10000000 ≤ e) (he' : e ≤ 10000000) (hf : Hid (farB N e = false)) (R : Int) (hR : Hid ((rnd53 N e more : Int) = R)) (hR0 : 0 ≤ R) (hR1 : R < 18446744073709551616) (hLm : lsb53 N e + 1074 ≤ 3000) :
    Calls Tryz.prog 67 #[NumV neg v e, .bool more] w fun x w' => x = .returned (.int .u64 (madeI neg R)) ∧ Below w.heap.size w w' := by
  unfold NumV
  have HBox : Hid (Below w.heap.size w (w.alloc (.cells #[.bool neg, v, .int .i64 e] 60))) := (Below.refl w.heap.size w).alloc (Nat.le_refl _) _
  have H1 := hide (h.below HBox.out)
  have HN := hide hN
  have HLm := hide hLm
  clear h hN hLm
  go_enter Tryz.func67, Tryz.ntmps67
  go_wp2_with fail
  refine (zero_at _ _ _ N false _ H1.out (decide_eq_false HN.out)).mono ?_
  rintro x w1 ⟨rfl, hb1⟩
  have HB1 := hide hb1
  have H2 := hide (H1.out.below hb1)
  obtain ⟨c0, c1, c2⟩ := box_cells hb1
  clear hb1
  go_wp2_with fail
  refine (far_at _ _ _ N false _ H2.out hb he he' hf).mono ?_
  rintro x w2 ⟨rfl, hb2⟩
  have hz : w.heap.size < w1.heap.size := by have := HB1.out.size; simp at this; omega
  have H3 := hide (H2.out.below hb2)
  have d0 : w2.cell? ⟨w.heap.size, 0, none⟩ = some (.bool neg) := (hb2.cell (p := ⟨w.heap.size, 0, none⟩) hz).trans c0
  have d1 : w2.cell? ⟨w.heap.size, 1, none⟩ = some v := (hb2.cell (p := ⟨w.heap.size, 1, none⟩) hz).trans c1
  have d2 : w2.cell? ⟨w.heap.size, 2, none⟩ = some (.int .i64 e) := (hb2.cell (p := ⟨w.heap.size, 2, none⟩) hz).trans c2
  have HB2 : Hid (Below w.heap.size w w2) := (HBox.out.trans (HB1.out.mono (by simp))).trans (hb2.mono (by omega))
  have hz2 : w.heap.size < w2.heap.size := by have := hb2.size; omega
  have HRd : Hid (∀ w', DN w' v N → Calls Tryz.prog 92 #[v, .int .i64 e, .bool more, .int .i64 53, .int .i64 (-1074)] w' fun x w'' => x = .returned (.int .u64 R) ∧ Below w'.heap.size w' w'') := fun w' h => by
    have := rounded_any v N e more w' h hb he he' HLm.out
    rw [hR.out] at this; exact this
  clear hb2 c0 c1 c2
  go_wp2_with fail
  go_region_held3 (fun w' => w'.cell? ⟨w.heap.size, 0, none⟩ = some (.bool neg) ∧ w'.cell? ⟨w.heap.size, 1, none⟩ = some v ∧ w'.cell? ⟨w.heap.size, 2, none⟩ = some (.int .i64 e)) (first | exact ⟨d0, d1, d2⟩ | exact ⟨(hb3.cell (p := ⟨w.heap.size, 0, none⟩) hz2).trans d0, (hb3.cell (p := ⟨w.heap.size, 1, none⟩) hz2).trans d1, (hb3.cell (p := ⟨w.heap.size, 2, none⟩) hz2).trans d2⟩ | go_keep) (first | ((go_at_call 92; refine (HRd.out _ (by exact H3.out)).mono ?_; rintro x w3 ⟨rfl, hb3⟩)) | ((go_at_call 91; refine (made_any _ _ _ hR0 hR1).mono ?_; rintro x w4 ⟨rfl, rfl⟩)))
  go_wp2_with fail
  go_ret
  exact ⟨rfl, (HB2.out.drew).trans (hb3.mono (by have h9 : w.heap.size < w2.drew.heap.size := hz2; omega))⟩

set_option maxHeartbeats 1600000 in
theorem nearMore_far (neg more : Bool) (v : Value) (e : Int) (N : Nat) (w : World) (h : DN w v N) (hN : N ≠ 0) (hb : nd N ≤ 1000000) (he : -10000000 ≤ e) (he' : e ≤ 10000000) (hf : Hid (farB N e = true)) :
    Calls Tryz.prog 67 #[NumV neg v e, .bool more] w fun x w' => x = .returned (.int .u64 (if 0 < e ∨ 0 < (bl N : Int) + e then madeI neg 9218868437227405312 else madeI neg 0)) ∧ Below w.heap.size w w' := by
  unfold NumV
  have HBox : Hid (Below w.heap.size w (w.alloc (.cells #[.bool neg, v, .int .i64 e] 60))) := (Below.refl w.heap.size w).alloc (Nat.le_refl _) _
  have H1 := hide (h.below HBox.out)
  have HN := hide hN
  have hbl := bl_nd N
  clear h hN
  generalize hB : (bl N : Int) = B
  have HB := hide hB
  have hB0 : 0 ≤ B := by omega
  have hB1 : B ≤ 32000000 := by omega
  clear hB hbl
  have w1 : IntKind.i64.wrap (B + e) = B + e := by rw [IntKind.wrap_i64]; omega
  have hcase : (0 < e ∧ decide (0 < e) = true) ∨ (decide (0 < e) = false ∧ 0 < B + e ∧ ¬ 0 < e) ∨ (decide (0 < e) = false ∧ ¬ 0 < B + e ∧ ¬ 0 < e) := by
    by_cases h1 : 0 < e
    · exact Or.inl ⟨h1, by simpa using h1⟩
    · by_cases h2 : 0 < B + e
      · exact Or.inr (Or.inl ⟨by simpa using h1, h2, h1⟩)
      · exact Or.inr (Or.inr ⟨by simpa using h1, h2, h1⟩)
  rcases hcase with ⟨g1, g2⟩ | ⟨g1, g2, g3⟩ | ⟨g1, g2, g3⟩
  all_goals first | rw [if_pos (Or.inl g1)] | rw [if_pos (Or.inr g2)] | rw [if_neg (fun h => h.elim g3 g2)]
  all_goals
    go_enter Tryz.func67, Tryz.ntmps67
    go_wp2_with fail
    refine (zero_at _ _ _ N false _ H1.out (decide_eq_false HN.out)).mono ?_
    rintro x w1 ⟨rfl, hb1⟩
    have HB1 := hide hb1
    have H2 := hide (H1.out.below hb1)
    obtain ⟨c0, c1, c2⟩ := box_cells hb1
    clear hb1
    go_wp2_with fail
    refine (far_at _ _ _ N true _ H2.out hb he he' hf).mono ?_
    rintro x w2 ⟨rfl, hb2⟩
    have hz : w.heap.size < w1.heap.size := by have := HB1.out.size; simp at this; omega
    have H3 := hide (H2.out.below hb2)
    have d0 : w2.cell? ⟨w.heap.size, 0, none⟩ = some (.bool neg) := (hb2.cell (p := ⟨w.heap.size, 0, none⟩) hz).trans c0
    have d1 : w2.cell? ⟨w.heap.size, 1, none⟩ = some v := (hb2.cell (p := ⟨w.heap.size, 1, none⟩) hz).trans c1
    have d2 : w2.cell? ⟨w.heap.size, 2, none⟩ = some (.int .i64 e) := (hb2.cell (p := ⟨w.heap.size, 2, none⟩) hz).trans c2
    have HB2 : Hid (Below w.heap.size w w2) := (HBox.out.trans (HB1.out.mono (by simp))).trans (hb2.mono (by omega))
    clear hb2 c0 c1 c2
    go_wp2_with fail
    go_quiet ((go_at_call 82; exact Calls.quiet_of_same (len_at v N B _ H3.out (by omega) HB)))
    go_wp2_with (go_at_call 91; refine (made_any _ _ _ (by omega) (by omega)).mono ?_; rintro x w4 ⟨rfl, rfl⟩)
    go_ret
    exact ⟨rfl, below_drewN HB2.out _⟩

theorem lsb_near {N : Nat} {e : Int} (h : farB N e = false) : lsb53 N e + 1074 ≤ 3000 := by
  unfold farB at h
  rw [Bool.or_eq_false_iff] at h
  have h1 := of_decide_eq_false h.1
  unfold lsb53; omega
theorem rnd_lt {N : Nat} {e : Int} {more : Bool} (h : farB N e = false) : rnd53 N e more < 18446744073709551616 := by
  have h1 := lsb_near h
  have h2 := kept_le N e more
  have h3 := lsb_ge N e
  unfold rnd53; omega

theorem nearMore_any (neg more : Bool) (v : Value) (e : Int) (N : Nat) (w : World) (h : DN w v N) (hb : nd N ≤ 1000000) (he : -10000000 ≤ e) (he' : e ≤ 10000000) :
    Calls Tryz.prog 67 #[NumV neg v e, .bool more] w fun x w' => x = .returned (.int .u64 (nearM neg N e more)) ∧ Below w.heap.size w w' := by
  unfold nearM
  by_cases h0 : N = 0
  · subst h0; rw [if_pos rfl]; exact nearMore_zero neg more v e w h
  · rw [if_neg h0]
    cases hf : farB N e
    · simp only [Bool.false_eq_true, if_false]
      have h1 := rnd_lt (more := more) hf
      exact nearMore_in neg more v e N w h h0 hb he he' hf _ rfl (Int.natCast_nonneg _) (by omega) (lsb_near hf)
    · simp only [if_true]; exact nearMore_far neg more v e N w h h0 hb he he' hf

set_option maxHeartbeats 400000 in
theorem near_num (neg : Bool) (v : Value) (e : Int) (N : Nat) (w : World) (h : DN w v N) (hb : nd N ≤ 1000000) (he : -10000000 ≤ e) (he' : e ≤ 10000000) :
    Calls Tryz.prog 47 #[NumV neg v e] w fun x w' => x = .returned (.int .u64 (nearM neg N e false)) ∧ Below w.heap.size w w' := by
  have HBox : Hid (Below w.heap.size w (w.alloc (.cells #[.bool neg, v, .int .i64 e] 60))) := (Below.refl w.heap.size w).alloc (Nat.le_refl _) _
  have HM := hide (nearMore_any neg false v e N _ (h.below HBox.out) hb he he')
  unfold NumV at HM ⊢
  clear h
  go_enter Tryz.func47, Tryz.ntmps47
  go_wp2_with fail
  refine HM.out.mono ?_
  rintro x w1 ⟨rfl, hb1⟩
  have HB1 := hide hb1
  clear hb1
  go_wp2_with fail
  go_ret
  exact ⟨rfl, HBox.out.trans (HB1.out.mono (by simp))⟩

end Go.Proofs.YtbgmbodedjhfoaaGreatDoor
