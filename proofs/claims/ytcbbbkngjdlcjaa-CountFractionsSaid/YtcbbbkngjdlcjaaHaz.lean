/- What the program's almanac marks: no word of the program. The contracts of Civil and Weekday. -/
import Derived.Test.YtcbbbkngjdlcjaaHay
import Derived.Test.YtcbbbkngjdlcjaaHaw
namespace Go.Proofs.Ytcbbbkngjdlcjaa
open Go.RowKit

open Classical in
/-- A rule's day in a year ahead of the moving, HDay's among them. -/
noncomputable def givO (r : Rul) (y : Int) : Option Int := if r.kind = 4 then (if yrI r.day = y then some r.day else none) else baseO r y
/-- Does the rule's day of the year y fall on n? -/
noncomputable def mkB (W : Int) (r : Rul) (y n : Int) : Bool := (givO r y).map (fun g => mvI W g r.mv) == some n
/-- Of the first t years from Y - 1 on. -/
noncomputable def mkT (W : Int) (r : Rul) (Y n : Int) : Nat → Bool
  | 0 => false
  | t + 1 => mkT W r Y n t || mkB W r (Y - 1 + t) n
/-- Of the first k rules. -/
noncomputable def mkK (W : Int) (rs : List Rul) (Y n : Int) : Nat → Bool
  | 0 => false
  | k + 1 => mkK W rs Y n k || mkT W (rs.getD k rul0) Y n 3

theorem mv_zero {W n : Int} (h0 : 0 ≤ W) (h1 : W ≤ 126) : mvI W n 0 = n := by
  obtain ⟨u, d, hu⟩ := ups_ex h0 h1 n
  rw [mv_eq hu]; unfold movI; rw [if_pos (Or.inl rfl)]
theorem mkT_hit {W : Int} {r : Rul} {Y n : Int} (h0 : 0 ≤ W) (h1 : W ≤ 126) (hf : fitB r = true) (hy : yrI n = Y) : mkT W r Y n 3 = hitB W r n Y := by
  show (((false || mkB W r (Y - 1 + ((0 : Nat) : Int)) n) || mkB W r (Y - 1 + ((1 : Nat) : Int)) n) || mkB W r (Y - 1 + ((2 : Nat) : Int)) n) = _
  rw [show Y - 1 + ((0 : Nat) : Int) = Y - 1 by omega, show Y - 1 + ((1 : Nat) : Int) = Y by omega, show Y - 1 + ((2 : Nat) : Int) = Y + 1 by omega, Bool.false_or]
  unfold hitB
  by_cases k4 : r.kind = 4
  · rw [if_pos k4]
    have hmv : r.mv = 0 := by
      rcases fit_cases hf with ⟨_, _, _, a⟩ | ⟨_, ⟨a, _⟩ | ⟨a, _⟩ | ⟨a, _⟩⟩
      · exact a
      · omega
      · omega
      · omega
    have key : ∀ y, mkB W r y n = (decide (yrI r.day = y) && (r.day == n)) := fun y => by
      unfold mkB givO
      rw [if_pos k4]
      by_cases e : yrI r.day = y
      · rw [if_pos e, Option.map_some, hmv, mv_zero h0 h1, decide_eq_true e, Bool.true_and]; rfl
      · rw [if_neg e, decide_eq_false e, Bool.false_and]; rfl
    rw [key, key, key]
    by_cases e : r.day = n
    · rw [e, hy, decide_eq_true (rfl : Y = Y)]
      simp
    · rw [beq_eq_false_iff_ne.2 e]
      simp
  · rw [if_neg k4]
    have key : ∀ y, mkB W r y n = (dayO W r y == some n) := fun y => by
      unfold mkB givO dayO
      rw [if_neg k4]
    rw [key, key, key]
theorem mkK_hol {W : Int} {rs : List Rul} {Y n : Int} (h0 : 0 ≤ W) (h1 : W ≤ 126) (hf : ∀ r ∈ rs, fitB r = true) (hy : yrI n = Y) : mkK W rs Y n rs.length = holB W rs n Y := by
  have key : ∀ k, k ≤ rs.length → mkK W rs Y n k = (rs.take k).any fun r => hitB W r n Y := fun k => by
    induction k with
    | zero => intro _; rfl
    | succ k ih =>
      intro hk
      have e : rs[k]? = some (rs.getD k rul0) := by simp [List.getD, List.getElem?_eq_getElem (show k < rs.length by omega)]
      show (mkK W rs Y n k || mkT W (rs.getD k rul0) Y n 3) = _
      rw [ih (by omega), mkT_hit h0 h1 (hf _ (getD_mem (by omega))) hy, List.take_add_one, e, List.any_append]
      simp
  rw [key _ (Nat.le_refl _), List.take_length]
  rfl
/-- A year's days. -/
theorem yr_of {n Y : Int} (y0 : 1900 ≤ Y) (y1 : Y ≤ 2199) (h : nyI Y ≤ n) (h' : n < nyI (Y + 1)) : yrI n = Y := by
  have a := ny_mono (y := 1900) (z := Y) (by omega) y0
  have b := ny_mono (y := Y + 1) (z := 2200) (by omega) (by omega)
  rw [ny_first] at a
  rw [ny_last] at b
  obtain ⟨y, m, d, hd⟩ := isD_ex (n := n) (by omega) (by omega)
  rw [yr_eq hd]
  have hy := hd.year
  have h0 := hd.1.1
  rcases Int.lt_trichotomy y Y with e | e | e
  · have := ny_mono (y := y + 1) (z := Y) (by omega) (by omega); omega
  · exact e
  · have := ny_mono (y := Y + 1) (z := y) (by omega) (by omega); omega
theorem yr_in {n : Int} (hn : isDayP n) : 1900 ≤ yrI n ∧ yrI n ≤ 2199 ∧ nyI (yrI n) ≤ n ∧ n < nyI (yrI n + 1) := by
  obtain ⟨y, m, d, hd⟩ := isD_ex hn.1 hn.2
  rw [yr_eq hd]
  exact ⟨hd.1.1, hd.1.2.1, hd.year⟩
theorem first_day (Y : Int) : dayI Y 1 1 = nyI Y := by unfold dayI; rw [cum_first]; omega
theorem last_day {Y : Int} (h : 1900 ≤ Y) : dayI Y 12 31 = nyI (Y + 1) - 1 := by
  have e := cum_succ (y := Y) (m := 12) (by omega) (by omega)
  rw [show (12 + 1 : Int) = 13 by decide, cum_last] at e
  have e2 : lenI Y 12 = 31 := by unfold lenI; rw [if_neg (by decide), if_neg (by decide)]
  rw [ny_succ h]
  unfold dayI
  omega
theorem okD_first1 {Y : Int} (y0 : 1900 ≤ Y) (y1 : Y ≤ 2199) : okD Y 1 1 := ⟨y0, y1, by decide, by decide, by decide, by have := len_lo Y 1; omega⟩
theorem okD_last {Y : Int} (y0 : 1900 ≤ Y) (y1 : Y ≤ 2199) : okD Y 12 31 := ⟨y0, y1, by decide, by decide, by decide, by unfold lenI; rw [if_neg (by decide), if_neg (by decide)]; decide⟩
/-- One mark more. -/
theorem mkB_none {W : Int} {r : Rul} {y n : Int} (h : givO r y = none) : mkB W r y n = false := by unfold mkB; rw [h]; rfl
theorem mkB_some {W : Int} {r : Rul} {y n g : Int} (h : givO r y = some g) : mkB W r y n = decide (mvI W g r.mv = n) := by
  unfold mkB; rw [h, Option.map_some]
  by_cases e : mvI W g r.mv = n
  · rw [e, decide_eq_true rfl]; simp
  · rw [decide_eq_false e]; simpa using e
end Go.Proofs.Ytcbbbkngjdlcjaa
namespace Go.Proofs.Ytcbbbkngjdlcjaa
open Go.RowKit

theorem isDay_any (n : Int) (w : World) :
    Calls Try.prog 60 #[.int .i64 n] w fun e w' => e = .returned (.bool (decide (0 ≤ n ∧ n ≤ 109572))) ∧ w' = w := by
  by_cases h1 : 0 ≤ n <;> by_cases h2 : n ≤ 109572
  all_goals
    first | rw [decide_eq_true (⟨h1, h2⟩ : 0 ≤ n ∧ n ≤ 109572)] | rw [decide_eq_false (fun h : 0 ≤ n ∧ n ≤ 109572 => by omega)]
    go_enter Try.func60, Try.ntmps60
    go_wp2
    go_ret
    exact ⟨rfl, rfl⟩
theorem isDay_yes (n : Int) (h : 0 ≤ n ∧ n ≤ 109572) (w : World) :
    Calls Try.prog 60 #[.int .i64 n] w fun e w' => e = .returned (.bool true) ∧ w' = w := by
  have e := isDay_any n w
  rw [decide_eq_true h] at e; exact e
theorem isDay_no (n : Int) (h : ¬ (0 ≤ n ∧ n ≤ 109572)) (w : World) :
    Calls Try.prog 60 #[.int .i64 n] w fun e w' => e = .returned (.bool false) ∧ w' = w := by
  have e := isDay_any n w
  rw [decide_eq_false h] at e; exact e

set_option maxHeartbeats 400000 in
theorem yearOf_any (n y : Int) (w : World) (h1 : 1900 ≤ y) (h2 : y ≤ 2199) (hy : nyI y ≤ n) (hy' : n < nyI (y + 1)) :
    Calls Try.prog 61 #[.int .i64 n] w fun e w' => e = .returned (.int .i64 y) ∧ w' = w := by
  have n0 : 0 ≤ n := by have := ny_lo h1; omega
  have n1 : n ≤ 120000 := by have := ny_hi (y := y + 1) (by omega); omega
  have hs : 1900 + n / 366 ≤ y := by have := ny_hi (y := y + 1) (by omega); omega
  have HN := hideS (fun (z : Int) (wx : World) (a : 1900 ≤ z) (b : z ≤ 2200) => newYear_any z wx a b)
  have HY := hideS hy
  have HY' := hideS hy'
  clear hy hy'
  go_enter Try.func61, Try.ntmps61
  go_wp2_with fail
  go_loop [3] (fun i => ∃ (j : Int), 1900 ≤ j ∧ j ≤ y ∧ i = .int .i64 j) (fun i => (y - intOf i).toNat)
  case atStart => exact ⟨1900 + n / 366, by omega, hs, rfl⟩
  case round =>
    obtain ⟨j, hj1, hj2, rfl⟩ := hrel
    have H := hideS (fun wx => HN.out (j + 1) wx (by omega) (by omega))
    by_cases hlt : j < y
    · have hle : nyI (j + 1) ≤ n := by
        have := ny_mono (y := j + 1) (z := y) (by omega) (by omega)
        have := HY.out
        omega
      generalize nyI (j + 1) = N at *
      go_wp2_with (go_at_call 63; refine (H.out _).mono ?_; rintro e w' ⟨rfl, rfl⟩)
      go_round
      case rel => exact ⟨j + 1, by omega, by omega, rfl⟩
      case measure => simp [intOf]; omega
    · obtain rfl : j = y := by omega
      have hle : ¬ nyI (j + 1) ≤ n := by have := HY'.out; omega
      clear HY'
      generalize nyI (j + 1) = N at *
      go_wp2_with (go_at_call 63; refine (H.out _).mono ?_; rintro e w' ⟨rfl, rfl⟩)
      go_ret
      exact ⟨rfl, rfl⟩

set_option maxHeartbeats 800000 in
theorem monthAndDay_any (y m r : Int) (w : World) (h1 : 1 ≤ m) (h2 : m ≤ 12) (hm : cumI y m ≤ r) (hm' : r < cumI y (m + 1)) :
    Calls Try.prog 62 #[.int .i64 y, .int .i64 r] w fun e w' => e = .returned (.tuple #[.int .i64 m, .int .i64 (r - cumI y m + 1)]) ∧ w' = w := by
  have r0 : 0 ≤ r := by have := cum_lo (y := y) h1 (by omega); omega
  have r1 : r ≤ 366 := by have := cum_hi (y := y) (m := m + 1) (by omega) (by omega); omega
  have HLen := hideS (fun (k : Int) (wx : World) (a : 1 ≤ k) (b : k ≤ 12) => length_any y k wx a b)
  have HM := hideS hm
  have HM' := hideS hm'
  clear hm hm'
  obtain ⟨D, hD⟩ : ∃ D, r - cumI y m + 1 = D := ⟨_, rfl⟩
  rw [hD]
  have HD := hideS hD
  clear hD
  go_enter Try.func62, Try.ntmps62
  go_wp2_with fail
  go_loop [7, 1, 4] (fun i b _ => ∃ (k : Int) (C : Int), 0 ≤ k ∧ k + 1 ≤ m ∧ 0 ≤ C ∧ C ≤ 366 ∧ i = .int .i64 k ∧ b = .int .i64 C ∧ Hid (C = r - cumI y (k + 1))) (fun i _ _ => (m - intOf i).toNat)
  case atStart => exact ⟨0, r, by omega, by omega, by omega, by omega, rfl, rfl, by show _ = _; rw [show ((0 : Int) + 1) = 1 by rfl, cum_first]; omega⟩
  case round =>
    obtain ⟨k, C, hk0, hk, hC0, hC1, rfl, rfl, HC⟩ := hrel
    have H := hideS (fun wx => HLen.out (k + 1) wx (by omega) (by omega))
    have l1 := len_lo y (k + 1)
    have HS : Hid (cumI y (k + 1 + 1) = cumI y (k + 1) + lenI y (k + 1)) := cum_succ (m := k + 1) (by omega) (by omega)
    by_cases hlt : k + 1 < m
    · have hle : ¬ C < lenI y (k + 1) := by
        have := cum_mono (y := y) (m := k + 1 + 1) (k := m) (by omega) (by omega) (by omega)
        have := HM.out
        have := HS.out
        have := HC.out
        omega
      have HC' : Hid (C - lenI y (k + 1) = r - cumI y (k + 1 + 1)) := by
        show _ = _
        rw [HS.out, HC.out]; omega
      generalize lenI y (k + 1) = l at *
      go_wp2_with (go_at_call 71; refine (H.out _).mono ?_; rintro e w' ⟨rfl, rfl⟩)
      go_round
      case rel => exact ⟨k + 1, C - l, by omega, by omega, by omega, by omega, rfl, rfl, HC'⟩
      case measure => simp [intOf]; omega
    · have hle : C < lenI y (k + 1) := by
        have := HM'.out
        rw [show m + 1 = k + 1 + 1 by omega, HS.out] at this
        have := HC.out
        omega
      have hm : m = k + 1 := by omega
      have HE : Hid (C + 1 = D) := by
        show _ = _
        rw [← HD.out, HC.out, hm]
      have HMk := hideS hm
      clear hm HD HC HM HM'
      generalize lenI y (k + 1) = l at *
      go_wp2_with (go_at_call 71; refine (H.out _).mono ?_; rintro e w' ⟨rfl, rfl⟩)
      go_ret2
      obtain rfl := HE.out
      obtain rfl := HMk.out
      exact ⟨rfl, rfl⟩

theorem results_tmp4 {fn : Func} {t u v x : Tmp} (h : fn.results = #[.tmp t, .tmp u, .tmp v, .tmp x]) (tmps : Array Value) (P : Program) (w : World) :
    (results fn tmps).run P w = .ok (.tuple #[tmps.getD t undef, tmps.getD u undef, tmps.getD v undef, tmps.getD x undef]) w := by
  simp [results, h]

set_option maxHeartbeats 400000 in
theorem civil_ok (n y m d : Int) (w : World) (h : IsD n y m d) :
    Calls Try.prog 44 #[.int .i64 n] w fun e w' => e = .returned (.tuple #[.int .i64 y, .int .i64 m, .int .i64 d, .int .i64 0]) ∧ w' = w := by
  obtain ⟨n0, n1⟩ := h.range
  obtain ⟨a, b⟩ := h.year
  obtain ⟨a', b'⟩ := h.month
  have HY := hideS (isDay_yes n ⟨n0, n1⟩)
  have hd : n - nyI y - cumI y m + 1 = d := by have := h.2; unfold dayI at this; omega
  obtain ⟨h1, h2, h3, h4, _, _⟩ := h.1
  clear h
  have H1 := hideS (fun wx => yearOf_any n y wx h1 h2 a b)
  have H2 := hideS (fun wx => newYear_any y wx h1 (by omega))
  have h5 := fun wx => monthAndDay_any y m (n - nyI y) wx h3 h4 a' b'
  rw [hd] at h5
  have H3 := hideS h5
  have c1 := cum_lo (y := y) h3 (by omega)
  have n2 := ny_lo h1
  clear h5 hd b b' a'
  generalize nyI y = N at *
  go_enter Try.func44, Try.ntmps44
  go_wp2_with (first | (go_at_call 60; refine (HY.out _).mono ?_; rintro e w' ⟨rfl, rfl⟩) | (go_at_call 61; refine (H1.out _).mono ?_; rintro e w' ⟨rfl, rfl⟩) | (go_at_call 63; refine (H2.out _).mono ?_; rintro e w' ⟨rfl, rfl⟩) | (go_at_call 62; refine (H3.out _).mono ?_; rintro e w' ⟨rfl, rfl⟩))
  (try simp only [Exit.inBlock, Exit.then])
  refine bodyPost_ret (results_tmp4 rfl _ _ _) rfl ?_
  exact ⟨rfl, rfl⟩
theorem civil_bad (n : Int) (w : World) (h : ¬ (0 ≤ n ∧ n ≤ 109572)) :
    Calls Try.prog 44 #[.int .i64 n] w fun e w' => e = .returned (.tuple #[.int .i64 0, .int .i64 0, .int .i64 0, .int .i64 51]) ∧ w' = w := by
  have HY := hideS (isDay_no n h)
  clear h
  go_enter Try.func44, Try.ntmps44
  go_wp2_with (go_at_call 60; refine (HY.out _).mono ?_; rintro e w' ⟨rfl, rfl⟩)
  (try simp only [Exit.inBlock, Exit.then])
  refine bodyPost_ret (results_tmp4 rfl _ _ _) rfl ?_
  exact ⟨rfl, rfl⟩
end Go.Proofs.Ytcbbbkngjdlcjaa
