/- What the program's almanac marks: no word of the program. The contracts of the program's isBetween, isDay, isWeekend and moved. -/
import Derived.Test.YtelghkhcplmnmaaHae
import Derived.Test.YtelghkhcplmnmaaHaf
import Derived.Laws.BitsAllLaws
import Derived.Laws.Bits64b
namespace Go.Proofs.Ytelghkhcplmnmaa
open Go.RowKit

open Classical in
/-- A rule's day in a year ahead of the moving, HDay's among them. -/
noncomputable def givO (r : Rul) (y : Int) : Option Int := if r.kind = 4 then (if yrI r.day = y then some r.day else none) else baseO r y
/-- Does the rule's day of the year y fall on n? -/
noncomputable def mkB (W : Int) (r : Rul) (y n : Int) : Bool := (givO r y).map (fun g => mvI W g r.mv) == some n
/-- Of the first t years from Y - 1 on. -/
noncomputable def mkT (W : Int) (r : Rul) (Y n : Int) : Nat → Bool
  | 0 => false
  | t + 1 => mkT W r Y n t || mkB W r (Y - 1 + t) n
/-- Of the first k rules. -/
noncomputable def mkK (W : Int) (rs : List Rul) (Y n : Int) : Nat → Bool
  | 0 => false
  | k + 1 => mkK W rs Y n k || mkT W (rs.getD k rul0) Y n 3

theorem mv_zero {W n : Int} (h0 : 0 ≤ W) (h1 : W ≤ 126) : mvI W n 0 = n := by
  obtain ⟨u, d, hu⟩ := ups_ex h0 h1 n
  rw [mv_eq hu]; unfold movI; rw [if_pos (Or.inl rfl)]
theorem mkT_hit {W : Int} {r : Rul} {Y n : Int} (h0 : 0 ≤ W) (h1 : W ≤ 126) (hf : fitB r = true) (hy : yrI n = Y) : mkT W r Y n 3 = hitB W r n Y := by
  show (((false || mkB W r (Y - 1 + ((0 : Nat) : Int)) n) || mkB W r (Y - 1 + ((1 : Nat) : Int)) n) || mkB W r (Y - 1 + ((2 : Nat) : Int)) n) = _
  rw [show Y - 1 + ((0 : Nat) : Int) = Y - 1 by omega, show Y - 1 + ((1 : Nat) : Int) = Y by omega, show Y - 1 + ((2 : Nat) : Int) = Y + 1 by omega, Bool.false_or]
  unfold hitB
  by_cases k4 : r.kind = 4
  · rw [if_pos k4]
    have hmv : r.mv = 0 := by
      rcases fit_cases hf with ⟨_, _, _, a⟩ | ⟨_, ⟨a, _⟩ | ⟨a, _⟩ | ⟨a, _⟩⟩
      · exact a
      · omega
      · omega
      · omega
    have key : ∀ y, mkB W r y n = (decide (yrI r.day = y) && (r.day == n)) := fun y => by
      unfold mkB givO
      rw [if_pos k4]
      by_cases e : yrI r.day = y
      · rw [if_pos e, Option.map_some, hmv, mv_zero h0 h1, decide_eq_true e, Bool.true_and]; rfl
      · rw [if_neg e, decide_eq_false e, Bool.false_and]; rfl
    rw [key, key, key]
    by_cases e : r.day = n
    · rw [e, hy, decide_eq_true (rfl : Y = Y)]
      simp
    · rw [beq_eq_false_iff_ne.2 e]
      simp
  · rw [if_neg k4]
    have key : ∀ y, mkB W r y n = (dayO W r y == some n) := fun y => by
      unfold mkB givO dayO
      rw [if_neg k4]
    rw [key, key, key]
theorem mkK_hol {W : Int} {rs : List Rul} {Y n : Int} (h0 : 0 ≤ W) (h1 : W ≤ 126) (hf : ∀ r ∈ rs, fitB r = true) (hy : yrI n = Y) : mkK W rs Y n rs.length = holB W rs n Y := by
  have key : ∀ k, k ≤ rs.length → mkK W rs Y n k = (rs.take k).any fun r => hitB W r n Y := fun k => by
    induction k with
    | zero => intro _; rfl
    | succ k ih =>
      intro hk
      have e : rs[k]? = some (rs.getD k rul0) := by simp [List.getD, List.getElem?_eq_getElem (show k < rs.length by omega)]
      show (mkK W rs Y n k || mkT W (rs.getD k rul0) Y n 3) = _
      rw [ih (by omega), mkT_hit h0 h1 (hf _ (getD_mem (by omega))) hy, List.take_add_one, e, List.any_append]
      simp
  rw [key _ (Nat.le_refl _), List.take_length]
  rfl
/-- A year's days. -/
theorem yr_of {n Y : Int} (y0 : 1900 ≤ Y) (y1 : Y ≤ 2199) (h : nyI Y ≤ n) (h' : n < nyI (Y + 1)) : yrI n = Y := by
  have a := ny_mono (y := 1900) (z := Y) (by omega) y0
  have b := ny_mono (y := Y + 1) (z := 2200) (by omega) (by omega)
  rw [ny_first] at a
  rw [ny_last] at b
  obtain ⟨y, m, d, hd⟩ := isD_ex (n := n) (by omega) (by omega)
  rw [yr_eq hd]
  have hy := hd.year
  have h0 := hd.1.1
  rcases Int.lt_trichotomy y Y with e | e | e
  · have := ny_mono (y := y + 1) (z := Y) (by omega) (by omega); omega
  · exact e
  · have := ny_mono (y := Y + 1) (z := y) (by omega) (by omega); omega
theorem yr_in {n : Int} (hn : isDayP n) : 1900 ≤ yrI n ∧ yrI n ≤ 2199 ∧ nyI (yrI n) ≤ n ∧ n < nyI (yrI n + 1) := by
  obtain ⟨y, m, d, hd⟩ := isD_ex hn.1 hn.2
  rw [yr_eq hd]
  exact ⟨hd.1.1, hd.1.2.1, hd.year⟩
theorem first_day (Y : Int) : dayI Y 1 1 = nyI Y := by unfold dayI; rw [cum_first]; omega
theorem last_day {Y : Int} (h : 1900 ≤ Y) : dayI Y 12 31 = nyI (Y + 1) - 1 := by
  have e := cum_succ (y := Y) (m := 12) (by omega) (by omega)
  rw [show (12 + 1 : Int) = 13 by decide, cum_last] at e
  have e2 : lenI Y 12 = 31 := by unfold lenI; rw [if_neg (by decide), if_neg (by decide)]
  rw [ny_succ h]
  unfold dayI
  omega
theorem okD_first1 {Y : Int} (y0 : 1900 ≤ Y) (y1 : Y ≤ 2199) : okD Y 1 1 := ⟨y0, y1, by decide, by decide, by decide, by have := len_lo Y 1; omega⟩
theorem okD_last {Y : Int} (y0 : 1900 ≤ Y) (y1 : Y ≤ 2199) : okD Y 12 31 := ⟨y0, y1, by decide, by decide, by decide, by unfold lenI; rw [if_neg (by decide), if_neg (by decide)]; decide⟩
/-- One mark more. -/
theorem mkB_none {W : Int} {r : Rul} {y n : Int} (h : givO r y = none) : mkB W r y n = false := by unfold mkB; rw [h]; rfl
theorem mkB_some {W : Int} {r : Rul} {y n g : Int} (h : givO r y = some g) : mkB W r y n = decide (mvI W g r.mv = n) := by
  unfold mkB; rw [h, Option.map_some]
  by_cases e : mvI W g r.mv = n
  · rw [e, decide_eq_true rfl]; simp
  · rw [decide_eq_false e]; simpa using e
end Go.Proofs.Ytelghkhcplmnmaa
namespace Go.Proofs.Ytelghkhcplmnmaa
open Go.RowKit

theorem between_any (n lo hi : Int) (w : World) :
    Calls Try.prog 53 #[.int .i64 n, .int .i64 lo, .int .i64 hi] w fun e w' => e = .returned (.bool (decide (lo ≤ n ∧ n ≤ hi))) ∧ w' = w := by
  by_cases h1 : lo ≤ n <;> by_cases h2 : n ≤ hi
  all_goals
    first | rw [decide_eq_true (⟨h1, h2⟩ : lo ≤ n ∧ n ≤ hi)] | rw [decide_eq_false (fun h : lo ≤ n ∧ n ≤ hi => by omega)]
    go_enter Try.func53, Try.ntmps53
    go_wp2
    go_ret
    exact ⟨rfl, rfl⟩

theorem isDay6_any (n : Int) (w : World) :
    Calls Try.prog 33 #[.int .i64 n] w fun e w' => e = .returned (.bool (decide (isDayP n))) ∧ w' = w := by
  have HI := hideS (fun wx => between_any n 0 109572 wx)
  rw [show decide (isDayP n) = decide (0 ≤ n ∧ n ≤ 109572) from decide_eq_decide.2 Iff.rfl]
  generalize decide (0 ≤ n ∧ n ≤ 109572) = R at *
  go_enter Try.func33, Try.ntmps33
  go_wp2_with (go_at_call 53; refine (HI.out _).mono ?_; rintro e w1 ⟨rfl, rfl⟩)
  go_ret
  exact ⟨rfl, rfl⟩

theorem and_oneP (n : Int) : bits .and .i64 n 1 = n % 2 := by
  have h1 : (BitVec.ofInt 64 1).toNat = 2 ^ 1 - 1 := by decide
  have key : (BitVec.ofInt 64 n &&& BitVec.ofInt 64 1).toNat = (n % ((2 ^ 64 : Nat) : Int)).toNat % 2 ^ 1 := by
    rw [BitVec.toNat_and, BitVec.toNat_ofInt, h1, Nat.and_two_pow_sub_one_eq_mod]
  show IntKind.i64.wrap ((BitVec.ofInt 64 n &&& BitVec.ofInt 64 1).toNat : Nat) = n % 2
  rw [key, IntKind.wrap_i64]
  omega

set_option maxHeartbeats 400000 in
theorem isWeekend_any (W n : Int) (w : World) (n0 : -7 ≤ n) (n1 : n ≤ 1000000) :
    Calls Try.prog 65 #[.int .i64 W, .int .i64 n] w fun e w' => e = .returned (.bool (offB W n)) ∧ w' = w := by
  obtain ⟨k, hk⟩ : ∃ k : Nat, n % 7 = k := ⟨(n % 7).toNat, by omega⟩
  have hak : (n + 7) % 7 = (k : Int) := by omega
  have hk6 : k ≤ 6 := by omega
  have hand := and_oneP (W / 2 ^ k)
  unfold offB
  rw [hk]
  have HE : Hid ((W / ((2 ^ (((k : Nat) : Int)).toNat : Nat) : Int) % 2 == 1) = (W / 2 ^ k % 2 == 1)) := by
    show _ = _
    rw [Int.toNat_natCast, Int.natCast_pow]; rfl
  clear hk
  rw [HE.out]
  clear HE
  go_enter Try.func65, Try.ntmps65
  go_wp2_with fail
  go_ret
  exact ⟨rfl, rfl⟩

/-- What moved tells, by the steps that it goes. -/
theorem mov_free {W n mv : Int} {u d : Nat} (hu : Ups W n u d) (h0 : u = 0) : movI W n mv u d = n := by
  unfold movI
  rw [if_pos (Or.inr (by have := hu.uf; rw [h0] at this; simpa using this))]
theorem mov_up {W n mv : Int} {u d : Nat} (hu : Ups W n u d) (hm : mv ≠ 0) (hd : mv = 2 → u ≤ d) : movI W n mv u d = n + u := by
  by_cases h0 : u = 0
  · rw [mov_free hu h0, h0]; omega
  · unfold movI
    have ho : offB W n = true := by have := hu.uo 0 (by omega); simpa using this
    rw [if_neg (fun a => by
      rcases a with a | a
      · exact hm a
      · rw [ho] at a; exact Bool.noConfusion a), if_neg (fun a => by have := hd a.1; omega)]
theorem mov_down {W n mv : Int} {u d : Nat} (hu : Ups W n u d) (hm : mv = 2) (hd : d < u) : movI W n mv u d = n - d := by
  unfold movI
  have ho : offB W n = true := by have := hu.uo 0 (by omega); simpa using this
  rw [if_neg (fun a => by
      rcases a with a | a
      · omega
      · rw [ho] at a; exact Bool.noConfusion a), if_pos ⟨hm, by omega⟩]

set_option maxHeartbeats 1600000 in
theorem moved_any (W n mv : Int) (u d : Nat) (w : World) (n0 : -1 ≤ n) (n1 : n ≤ 500000) (hu : Ups W n u d) :
    Calls Try.prog 80 #[.int .i64 n, .int .i64 mv, .int .i64 W] w fun e w' => e = .returned (.int .i64 (movI W n mv u d)) ∧ w' = w := by
  have HO : Hid (∀ x wx, -7 ≤ x → x ≤ 1000000 → Calls Try.prog 65 #[.int .i64 W, .int .i64 x] wx fun e w' => e = .returned (.bool (offB W x)) ∧ w' = wx) := fun x wx a b => isWeekend_any W x wx a b
  have HU := hideS hu
  have u6 := hu.ub
  have d6 := hu.db
  obtain ⟨R, hR⟩ : ∃ R, movI W n mv u d = R := ⟨_, rfl⟩
  rw [hR]
  have HR := hideS hR
  clear hR hu
  by_cases hz : mv = 0
  · have HE : Hid (n = R) := by
      show _ = _
      rw [← HR.out]; unfold movI; rw [if_pos (Or.inl hz)]
    subst hz
    go_enter Try.func80, Try.ntmps80
    go_wp2_with fail
    go_ret
    obtain rfl := HE.out
    exact ⟨rfl, rfl⟩
  · have hz' : (mv == 0) = false := beq_eq_false_iff_ne.2 hz
    have HZ := hideS hz
    clear hz
    go_enter Try.func80, Try.ntmps80
    go_wp2_with fail
    go_loop [11] (fun i => ∃ (k : Nat), k ≤ u ∧ i = .int .i64 k ∧ Hid (mv = 2 → k ≤ d)) (fun i => u + 1 - (intOf i).toNat)
    case atStart => exact ⟨0, by omega, rfl, fun _ => by omega⟩
    case round =>
      obtain ⟨k, hk, rfl, HK⟩ := hrel
      have hk7 : (k : Int) < 7 := by omega
      have H1 := hideS (fun wx => HO.out (n + k) wx (by omega) (by omega))
      by_cases hlt : k < u
      · have e1 : offB W (n + k) = true := HU.out.uo k hlt
        rw [e1] at H1
        clear e1
        by_cases h2 : mv = 2
        · have H2 := hideS (fun wx => HO.out (n - k) wx (by omega) (by omega))
          have hkd := HK.out h2
          by_cases hld : k < d
          · have e2 : offB W (n - k) = true := HU.out.dn k hld
            rw [e2] at H2
            clear e2
            subst h2
            go_wp2_with (first | (go_at_call_of 65 (Value.int IntKind.i64 (n + k)); refine (H1.out _).mono ?_; rintro e w' ⟨rfl, rfl⟩) | (go_at_call_of 65 (Value.int IntKind.i64 (n - k)); refine (H2.out _).mono ?_; rintro e w' ⟨rfl, rfl⟩))
            go_round
            case rel => exact ⟨k + 1, by omega, by go_num, fun _ => by omega⟩
            case measure => simp [intOf]; omega
          · obtain rfl : k = d := by omega
            have e2 : offB W (n - k) = false := HU.out.df
            rw [e2] at H2
            clear e2
            have HE : Hid (n - k = R) := by
              show _ = _
              rw [← HR.out, mov_down HU.out h2 hlt]
            subst h2
            go_wp2_with (first | (go_at_call_of 65 (Value.int IntKind.i64 (n + k)); refine (H1.out _).mono ?_; rintro e w' ⟨rfl, rfl⟩) | (go_at_call_of 65 (Value.int IntKind.i64 (n - k)); refine (H2.out _).mono ?_; rintro e w' ⟨rfl, rfl⟩))
            go_ret
            obtain rfl := HE.out
            exact ⟨rfl, rfl⟩
        · have h2' : (mv == 2) = false := beq_eq_false_iff_ne.2 h2
          have HK' : Hid (mv = 2 → k + 1 ≤ d) := fun a => absurd a h2
          clear h2
          go_wp2_with (go_at_call 65; refine (H1.out _).mono ?_; rintro e w' ⟨rfl, rfl⟩)
          go_round
          case rel => exact ⟨k + 1, by omega, by go_num, HK'⟩
          case measure => simp [intOf]; omega
      · obtain rfl : k = u := by omega
        have e1 : offB W (n + k) = false := HU.out.uf
        rw [e1] at H1
        clear e1
        have HE : Hid (n + k = R) := by
          show _ = _
          rw [← HR.out, mov_up HU.out HZ.out HK.out]
        go_wp2_with (go_at_call 65; refine (H1.out _).mono ?_; rintro e w' ⟨rfl, rfl⟩)
        go_ret
        obtain rfl := HE.out
        exact ⟨rfl, rfl⟩
end Go.Proofs.Ytelghkhcplmnmaa
