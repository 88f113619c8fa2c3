/- The contracts of the program's rules: may they be? The contracts of the program's rules: their days in a year, ahead of the moving. -/
import Derived.Test.YtelghkhcplmnmaaHat
import Derived.Test.YtelghkhcplmnmaaHaj
import Derived.Test.YtelghkhcplmnmaaHad
import Derived.BigQuiet
namespace Go.Proofs.Ytelghkhcplmnmaa
open Go.RowKit

theorem fit1' (mon day nth wd off fr to mv : Int) : fitB ⟨1, mon, day, nth, wd, off, fr, to, mv⟩ = decide ((1900 ≤ fr ∧ fr ≤ 2199 ∧ fr ≤ to ∧ to ≤ 2199 ∧ 0 ≤ mv ∧ mv ≤ 2) ∧ nth = 0 ∧ wd = 0 ∧ off = 0 ∧ 1 ≤ mon ∧ mon ≤ 12 ∧ 1 ≤ day ∧ day ≤ mostI mon) := by
  by_cases h : RngR fr to mv
  · rw [fit1 h]; exact decide_eq_decide.2 ⟨fun a => ⟨h, a⟩, fun a => a.2⟩
  · rw [fit_rng (by decide) h, decide_eq_false (fun a => h a.1)]
theorem fit2' (mon day nth wd off fr to mv : Int) : fitB ⟨2, mon, day, nth, wd, off, fr, to, mv⟩ = decide ((1900 ≤ fr ∧ fr ≤ 2199 ∧ fr ≤ to ∧ to ≤ 2199 ∧ 0 ≤ mv ∧ mv ≤ 2) ∧ day = 0 ∧ off = 0 ∧ 1 ≤ mon ∧ mon ≤ 12 ∧ 0 ≤ wd ∧ wd ≤ 6 ∧ 1 ≤ nth ∧ nth ≤ 5) := by
  by_cases h : RngR fr to mv
  · rw [fit2 h]; exact decide_eq_decide.2 ⟨fun a => ⟨h, a⟩, fun a => a.2⟩
  · rw [fit_rng (by decide) h, decide_eq_false (fun a => h a.1)]
theorem fit3' (mon day nth wd off fr to mv : Int) : fitB ⟨3, mon, day, nth, wd, off, fr, to, mv⟩ = decide ((1900 ≤ fr ∧ fr ≤ 2199 ∧ fr ≤ to ∧ to ≤ 2199 ∧ 0 ≤ mv ∧ mv ≤ 2) ∧ mon = 0 ∧ day = 0 ∧ nth = 0 ∧ wd = 0 ∧ -100 ≤ off ∧ off ≤ 100) := by
  by_cases h : RngR fr to mv
  · rw [fit3 h]; exact decide_eq_decide.2 ⟨fun a => ⟨h, a⟩, fun a => a.2⟩
  · rw [fit_rng (by decide) h, decide_eq_false (fun a => h a.1)]
theorem below2 (w : World) (o1 o2 : Obj) : Below w.heap.size w ((w.alloc o1).alloc o2) := ((Below.refl w.heap.size w).alloc (Nat.le_refl _) _).alloc (by simp) _

theorem isDay6_lit (n : Int) (w : World) :
    Calls Try.prog 33 #[.int .i64 n] w fun e w' => e = .returned (.bool (decide (0 ≤ n ∧ n ≤ 109572))) ∧ w' = w := by
  have := isDay6_any n w
  rw [show decide (isDayP n) = decide (0 ≤ n ∧ n ≤ 109572) from decide_eq_decide.2 Iff.rfl] at this
  exact this

set_option maxHeartbeats 1600000 in
theorem again_any (kind mon day nth wd off fr to mv : Int) (w : World) :
    Calls Try.prog 102 #[.agg #[.int .i64 kind, .int .i64 mon, .int .i64 day, .int .i64 nth, .int .i64 wd, .int .i64 off, .int .i64 fr, .int .i64 to, .int .i64 mv]] w fun e w' => e = .returned (.bool (decide (1900 ≤ fr ∧ fr ≤ 2199 ∧ fr ≤ to ∧ to ≤ 2199 ∧ 0 ≤ mv ∧ mv ≤ 2))) ∧ Below w.heap.size w w' := by
  obtain ⟨R, hR⟩ : ∃ R, decide (1900 ≤ fr ∧ fr ≤ 2199 ∧ fr ≤ to ∧ to ≤ 2199 ∧ 0 ≤ mv ∧ mv ≤ 2) = R := ⟨_, rfl⟩
  rw [hR]
  have HR := hideS hR
  clear hR
  go_enter Try.func102, Try.ntmps102
  go_wp2_with (go_at_call 53; refine (between_any _ _ _ _).mono ?_; rintro e w1 ⟨rfl, rfl⟩)
  all_goals
    go_ret
    refine ⟨retB (Eq.trans ?_ HR.out), (Below.refl w.heap.size w).alloc (Nat.le_refl _) _⟩
    first | exact (decide_eq_false (by omega)).symm | exact decide_eq_decide.2 (by omega) | (rw [Bool.eq_iff_iff]; simp only [Bool.and_eq_true, decide_eq_true_eq]; omega)

theorem most_len {m : Int} (h1 : 1 ≤ m) (h2 : m ≤ 12) : lenI 2000 m = mostI m := by
  rcases month_cases h1 h2 with rfl | rfl | rfl | rfl | rfl | rfl | rfl | rfl | rfl | rfl | rfl | rfl <;> decide

set_option maxHeartbeats 3200000 in
theorem may4_any (mon day nth wd off fr to mv : Int) (w : World) :
    Calls Try.prog 110 #[.agg #[.int .i64 4, .int .i64 mon, .int .i64 day, .int .i64 nth, .int .i64 wd, .int .i64 off, .int .i64 fr, .int .i64 to, .int .i64 mv]] w fun e w' => e = .returned (.bool (fitB ⟨4, mon, day, nth, wd, off, fr, to, mv⟩)) ∧ Below w.heap.size w w' := by
  rw [fit4]
  obtain ⟨R, hR⟩ : ∃ R, decide (mon = 0 ∧ nth = 0 ∧ wd = 0 ∧ off = 0 ∧ fr = 0 ∧ to = 0 ∧ mv = 0 ∧ 0 ≤ day ∧ day ≤ 109572) = R := ⟨_, rfl⟩
  rw [hR]
  have HR := hideS hR
  clear hR
  go_enter Try.func110, Try.ntmps110
  go_wp2_with (go_at_call 33; refine (isDay6_lit _ _).mono ?_; rintro e w1 ⟨rfl, rfl⟩)
  all_goals
    go_ret
    refine ⟨retB (Eq.trans ?_ HR.out), (Below.refl w.heap.size w).alloc (Nat.le_refl _) _⟩
    first | exact (decide_eq_false (by omega)).symm | exact decide_eq_decide.2 (by omega) | (rw [Bool.eq_iff_iff]; simp only [Bool.and_eq_true, decide_eq_true_eq]; omega)

set_option maxHeartbeats 3200000 in
theorem may3_any (mon day nth wd off fr to mv : Int) (w : World) :
    Calls Try.prog 106 #[.agg #[.int .i64 3, .int .i64 mon, .int .i64 day, .int .i64 nth, .int .i64 wd, .int .i64 off, .int .i64 fr, .int .i64 to, .int .i64 mv]] w fun e w' => e = .returned (.bool (fitB ⟨3, mon, day, nth, wd, off, fr, to, mv⟩)) ∧ Below w.heap.size w w' := by
  rw [fit3']
  obtain ⟨R, hR⟩ : ∃ R, decide ((1900 ≤ fr ∧ fr ≤ 2199 ∧ fr ≤ to ∧ to ≤ 2199 ∧ 0 ≤ mv ∧ mv ≤ 2) ∧ mon = 0 ∧ day = 0 ∧ nth = 0 ∧ wd = 0 ∧ -100 ≤ off ∧ off ≤ 100) = R := ⟨_, rfl⟩
  rw [hR]
  have HR := hideS hR
  clear hR
  have HB2 := hideS (below2 w)
  have HA := hideS (fun kind mon day nth wd off fr to mv wx => again_any kind mon day nth wd off fr to mv wx)
  go_enter Try.func106, Try.ntmps106
  go_wp2_with (first | (go_at_call 53; refine (between_any _ _ _ _).mono ?_; rintro e w1 ⟨rfl, rfl⟩) | (go_at_call 102; refine (HA.out _ _ _ _ _ _ _ _ _ _).mono ?_; rintro e w1 ⟨rfl, hb1⟩))
  all_goals
    go_ret
    first
    | refine ⟨retB (Eq.trans ?_ HR.out), HB2.out _ _⟩
    | refine ⟨retB (Eq.trans ?_ HR.out), (HB2.out _ _).trans (hb1.mono (by simp <;> omega))⟩
    first | exact (decide_eq_false (by omega)).symm | exact decide_eq_decide.2 (by omega) | (rw [Bool.eq_iff_iff]; simp only [Bool.and_eq_true, decide_eq_true_eq]; omega)

set_option maxHeartbeats 3200000 in
theorem may2_any (mon day nth wd off fr to mv : Int) (w : World) :
    Calls Try.prog 104 #[.agg #[.int .i64 2, .int .i64 mon, .int .i64 day, .int .i64 nth, .int .i64 wd, .int .i64 off, .int .i64 fr, .int .i64 to, .int .i64 mv]] w fun e w' => e = .returned (.bool (fitB ⟨2, mon, day, nth, wd, off, fr, to, mv⟩)) ∧ Below w.heap.size w w' := by
  rw [fit2']
  obtain ⟨R, hR⟩ : ∃ R, decide ((1900 ≤ fr ∧ fr ≤ 2199 ∧ fr ≤ to ∧ to ≤ 2199 ∧ 0 ≤ mv ∧ mv ≤ 2) ∧ day = 0 ∧ off = 0 ∧ 1 ≤ mon ∧ mon ≤ 12 ∧ 0 ≤ wd ∧ wd ≤ 6 ∧ 1 ≤ nth ∧ nth ≤ 5) = R := ⟨_, rfl⟩
  rw [hR]
  have HR := hideS hR
  clear hR
  have HB2 := hideS (below2 w)
  have HA := hideS (fun kind mon day nth wd off fr to mv wx => again_any kind mon day nth wd off fr to mv wx)
  go_enter Try.func104, Try.ntmps104
  go_wp2_with (first | (go_at_call 53; refine (between_any _ _ _ _).mono ?_; rintro e w1 ⟨rfl, rfl⟩) | (go_at_call 102; refine (HA.out _ _ _ _ _ _ _ _ _ _).mono ?_; rintro e w1 ⟨rfl, hb1⟩))
  all_goals
    go_ret
    first
    | refine ⟨retB (Eq.trans ?_ HR.out), HB2.out _ _⟩
    | refine ⟨retB (Eq.trans ?_ HR.out), (HB2.out _ _).trans (hb1.mono (by simp <;> omega))⟩
    first | exact (decide_eq_false (by omega)).symm | exact decide_eq_decide.2 (by omega) | (rw [Bool.eq_iff_iff]; simp only [Bool.and_eq_true, decide_eq_true_eq]; omega)

set_option maxHeartbeats 3200000 in
theorem may1_any (mon day nth wd off fr to mv : Int) (w : World) :
    Calls Try.prog 101 #[.agg #[.int .i64 1, .int .i64 mon, .int .i64 day, .int .i64 nth, .int .i64 wd, .int .i64 off, .int .i64 fr, .int .i64 to, .int .i64 mv]] w fun e w' => e = .returned (.bool (fitB ⟨1, mon, day, nth, wd, off, fr, to, mv⟩)) ∧ Below w.heap.size w w' := by
  rw [fit1']
  have HB2 := hideS (below2 w)
  have HA := hideS (fun kind mon day nth wd off fr to mv wx => again_any kind mon day nth wd off fr to mv wx)
  by_cases hm : 1 ≤ mon ∧ mon ≤ 12
  · have HL := hideS (fun wx => lengthP_ok 2000 mon wx ⟨by decide, by decide, hm.1, hm.2⟩)
    rw [most_len hm.1 hm.2] at HL
    generalize mostI mon = L at *
    obtain ⟨R, hR⟩ : ∃ R, decide ((1900 ≤ fr ∧ fr ≤ 2199 ∧ fr ≤ to ∧ to ≤ 2199 ∧ 0 ≤ mv ∧ mv ≤ 2) ∧ nth = 0 ∧ wd = 0 ∧ off = 0 ∧ 1 ≤ mon ∧ mon ≤ 12 ∧ 1 ≤ day ∧ day ≤ L) = R := ⟨_, rfl⟩
    rw [hR]
    have HR := hideS hR
    clear hR
    go_enter Try.func101, Try.ntmps101
    go_wp2_with (first | (go_at_call 59; refine (HL.out _).mono ?_; rintro e w1 ⟨rfl, rfl⟩) | (go_at_call 53; refine (between_any _ _ _ _).mono ?_; rintro e w1 ⟨rfl, rfl⟩) | (go_at_call 102; refine (HA.out _ _ _ _ _ _ _ _ _ _).mono ?_; rintro e w1 ⟨rfl, hb1⟩))
    all_goals
      go_ret
      first
      | refine ⟨retB (Eq.trans ?_ HR.out), HB2.out _ _⟩
      | refine ⟨retB (Eq.trans ?_ HR.out), (HB2.out _ _).trans (hb1.mono (by simp <;> omega))⟩
      first | exact (decide_eq_false (by omega)).symm | exact decide_eq_decide.2 (by omega) | (rw [Bool.eq_iff_iff]; simp only [Bool.and_eq_true, decide_eq_true_eq]; omega)
  · have HL := hideS (fun wx => lengthP_bad 2000 mon wx (fun a => hm ⟨a.2.2.1, a.2.2.2⟩))
    rw [decide_eq_false (fun a => hm ⟨a.2.2.2.2.1, a.2.2.2.2.2.1⟩)]
    clear hm
    go_enter Try.func101, Try.ntmps101
    go_wp2_with (go_at_call 59; refine (HL.out _).mono ?_; rintro e w1 ⟨rfl, rfl⟩)
    all_goals
      go_ret
      exact ⟨rfl, HB2.out _ _⟩

set_option maxHeartbeats 400000 in
theorem may0_any (w : World) :
    Calls Try.prog 112 #[.agg #[]] w fun e w' => e = .returned (.bool false) ∧ Below w.heap.size w w' := by
  go_enter Try.func112, Try.ntmps112
  go_wp2_with fail
  go_ret
  exact ⟨rfl, (Below.refl w.heap.size w).alloc (Nat.le_refl _) _⟩

/-- The dynamic type of a rule, by its kind. -/
def tyK (k : Int) : Nat := if k = 1 then 97 else if k = 2 then 98 else if k = 3 then 99 else 100
set_option maxHeartbeats 1600000 in
theorem holidayOf_any (kind mon day nth wd off fr to mv : Int) (w : World) (hk : kind = 1 ∨ kind = 2 ∨ kind = 3 ∨ kind = 4) :
    Calls Try.prog 52 #[.agg #[.int .i64 kind, .int .i64 mon, .int .i64 day, .int .i64 nth, .int .i64 wd, .int .i64 off, .int .i64 fr, .int .i64 to, .int .i64 mv]] w fun e w' => e = .returned (.iface (tyK kind) (.agg #[.int .i64 kind, .int .i64 mon, .int .i64 day, .int .i64 nth, .int .i64 wd, .int .i64 off, .int .i64 fr, .int .i64 to, .int .i64 mv])) ∧ Below w.heap.size w w' := by
  rcases hk with rfl | rfl | rfl | rfl
  all_goals
    go_enter Try.func52, Try.ntmps52
    go_wp2_with fail
    go_ret
    exact ⟨rfl, (Below.refl w.heap.size w).alloc (Nat.le_refl _) _⟩
set_option maxHeartbeats 1600000 in
theorem holidayOf_none (kind mon day nth wd off fr to mv : Int) (w : World) (hk : ¬ (kind = 1 ∨ kind = 2 ∨ kind = 3 ∨ kind = 4)) :
    Calls Try.prog 52 #[.agg #[.int .i64 kind, .int .i64 mon, .int .i64 day, .int .i64 nth, .int .i64 wd, .int .i64 off, .int .i64 fr, .int .i64 to, .int .i64 mv]] w fun e w' => e = .returned (.iface 102 (.agg #[])) ∧ Below w.heap.size w w' := by
  have k1 : (kind == 1) = false := beq_eq_false_iff_ne.2 (fun a => hk (by omega))
  have k2 : (kind == 2) = false := beq_eq_false_iff_ne.2 (fun a => hk (by omega))
  have k3 : (kind == 3) = false := beq_eq_false_iff_ne.2 (fun a => hk (by omega))
  have k4 : (kind == 4) = false := beq_eq_false_iff_ne.2 (fun a => hk (by omega))
  clear hk
  go_enter Try.func52, Try.ntmps52
  go_wp2_with fail
  go_ret
  exact ⟨rfl, (Below.refl w.heap.size w).alloc (Nat.le_refl _) _⟩
end Go.Proofs.Ytelghkhcplmnmaa
namespace Go.Proofs.Ytelghkhcplmnmaa
open Go.RowKit

theorem giv1_ok {mon day nth wd off fr to mv y : Int} (ho : okD y mon day) (hr : fr ≤ y ∧ y ≤ to) : givO ⟨1, mon, day, nth, wd, off, fr, to, mv⟩ y = some (dayI y mon day) := by
  unfold givO baseO
  dsimp only
  rw [if_neg (by decide), if_neg (by omega), if_pos rfl, if_pos ho]
theorem giv1_no {mon day nth wd off fr to mv y : Int} (ho : ¬ okD y mon day) : givO ⟨1, mon, day, nth, wd, off, fr, to, mv⟩ y = none := by
  unfold givO baseO
  dsimp only
  rw [if_neg (by decide), if_pos rfl, if_neg ho]
  split <;> rfl
theorem giv_no {kind mon day nth wd off fr to mv y : Int} (hk : kind ≠ 4) (hr : ¬ (fr ≤ y ∧ y ≤ to)) : givO ⟨kind, mon, day, nth, wd, off, fr, to, mv⟩ y = none := by
  unfold givO baseO
  dsimp only
  rw [if_neg hk, if_pos (by omega)]
theorem giv2_ok {mon day nth wd off fr to mv y : Int} (hr : fr ≤ y ∧ y ≤ to) : givO ⟨2, mon, day, nth, wd, off, fr, to, mv⟩ y = some (nthI y mon wd nth) := by
  unfold givO baseO
  dsimp only
  rw [if_neg (by decide), if_neg (by omega), if_neg (by decide), if_pos rfl]
theorem giv3_ok {mon day nth wd off fr to mv y : Int} (hr : fr ≤ y ∧ y ≤ to) : givO ⟨3, mon, day, nth, wd, off, fr, to, mv⟩ y = some (eaDay y + off) := by
  unfold givO baseO
  dsimp only
  rw [if_neg (by decide), if_neg (by omega), if_neg (by decide), if_neg (by decide), if_pos rfl]
theorem giv4_ok {mon day nth wd off fr to mv y m d : Int} (h : IsD day y m d) : givO ⟨4, mon, day, nth, wd, off, fr, to, mv⟩ y = some day := by
  unfold givO
  dsimp only
  rw [if_pos rfl, if_pos (yr_eq h)]
theorem giv4_no {mon day nth wd off fr to mv y y0 m d : Int} (h : IsD day y0 m d) (hy : y0 ≠ y) : givO ⟨4, mon, day, nth, wd, off, fr, to, mv⟩ y = none := by
  unfold givO
  dsimp only
  rw [if_pos rfl, if_neg (by rw [yr_eq h]; exact hy)]

set_option maxHeartbeats 1600000 in
theorem in1_any (mon day nth wd off fr to mv y : Int) (w : World) :
    Calls Try.prog 100 #[.agg #[.int .i64 1, .int .i64 mon, .int .i64 day, .int .i64 nth, .int .i64 wd, .int .i64 off, .int .i64 fr, .int .i64 to, .int .i64 mv], .int .i64 y] w fun e w' => ∃ N, e = .returned (.tuple #[.int .i64 N, .bool (givO ⟨1, mon, day, nth, wd, off, fr, to, mv⟩ y).isSome]) ∧ (∀ g, givO ⟨1, mon, day, nth, wd, off, fr, to, mv⟩ y = some g → N = g) ∧ Below w.heap.size w w' := by
  have HB0 := hideS (fun o => (Below.refl w.heap.size w).alloc (Nat.le_refl _) o)
  by_cases ho : okD y mon day
  · have HO := hideS (fun wx => ofP_ok y mon day wx ho)
    have HI := hideS (fun wx => between_any y fr to wx)
    by_cases hr : fr ≤ y ∧ y ≤ to
    · rw [giv1_ok ho hr]
      rw [decide_eq_true hr] at HI
      generalize dayI y mon day = D at *
      clear ho hr
      go_enter Try.func100, Try.ntmps100
      go_wp2_with (first | (go_at_call 68; refine (HO.out _).mono ?_; rintro e w1 ⟨rfl, rfl⟩) | (go_at_call 53; refine (HI.out _).mono ?_; rintro e w1 ⟨rfl, rfl⟩))
      go_ret2
      exact ⟨_, rfl, fun g hg => Option.some.inj hg, HB0.out _⟩
    · rw [giv_no (by decide) hr]
      rw [decide_eq_false hr] at HI
      generalize dayI y mon day = D at *
      clear ho hr
      go_enter Try.func100, Try.ntmps100
      go_wp2_with (first | (go_at_call 68; refine (HO.out _).mono ?_; rintro e w1 ⟨rfl, rfl⟩) | (go_at_call 53; refine (HI.out _).mono ?_; rintro e w1 ⟨rfl, rfl⟩))
      go_ret2
      exact ⟨_, rfl, fun g hg => (by cases hg), HB0.out _⟩
  · have HO := hideS (fun wx => ofP_bad y mon day wx ho)
    rw [giv1_no ho]
    clear ho
    go_enter Try.func100, Try.ntmps100
    go_wp2_with (go_at_call 68; refine (HO.out _).mono ?_; rintro e w1 ⟨rfl, rfl⟩)
    go_ret2
    exact ⟨_, rfl, fun g hg => (by cases hg), HB0.out _⟩

/-- The program's reckoning of the N-th weekday. -/
theorem nth_prog {f L wd k : Int} (_d0 : 0 ≤ wd) (_d1 : wd ≤ 6) (k1 : 1 ≤ k) (k5 : k ≤ 5) (l0 : 28 ≤ L) (_f0 : 0 ≤ f) :
    (if k = 5 ∧ f + L ≤ f + (wd - f) % 7 + 7 * (k - 1) then f + (wd - f) % 7 + 7 * (k - 1) - 7 else f + (wd - f) % 7 + 7 * (k - 1)) = if f + L ≤ f + (wd + 7 - f % 7) % 7 + 7 * (k - 1) then f + (wd + 7 - f % 7) % 7 + 7 * (k - 1) - 7 else f + (wd + 7 - f % 7) % 7 + 7 * (k - 1) := by
  have e : (wd + 7 - f % 7) % 7 = (wd - f) % 7 := by omega
  rw [e]
  by_cases a : k = 5
  · by_cases b : f + L ≤ f + (wd - f) % 7 + 7 * (k - 1)
    · rw [if_pos ⟨a, b⟩, if_pos b]
    · rw [if_neg (fun c => b c.2), if_neg b]
  · rw [if_neg (fun c => a c.1), if_neg (by omega)]

set_option maxHeartbeats 1600000 in
theorem in2_any (mon day nth wd off fr to mv y : Int) (w : World) (m0 : 1 ≤ mon) (m1 : mon ≤ 12) (d0 : 0 ≤ wd) (d1 : wd ≤ 6) (k1 : 1 ≤ nth) (k5 : nth ≤ 5) (f0 : 1900 ≤ fr) (f1 : to ≤ 2199) :
    Calls Try.prog 103 #[.agg #[.int .i64 2, .int .i64 mon, .int .i64 day, .int .i64 nth, .int .i64 wd, .int .i64 off, .int .i64 fr, .int .i64 to, .int .i64 mv], .int .i64 y] w fun e w' => ∃ N, e = .returned (.tuple #[.int .i64 N, .bool (givO ⟨2, mon, day, nth, wd, off, fr, to, mv⟩ y).isSome]) ∧ (∀ g, givO ⟨2, mon, day, nth, wd, off, fr, to, mv⟩ y = some g → N = g) ∧ Below w.heap.size w w' := by
  have HB0 := hideS (fun o => (Below.refl w.heap.size w).alloc (Nat.le_refl _) o)
  have HI := hideS (fun wx => between_any y fr to wx)
  by_cases hr : fr ≤ y ∧ y ≤ to
  · rw [giv2_ok hr]
    rw [decide_eq_true hr] at HI
    have hym : ymB y mon := ⟨by omega, by omega, m0, m1⟩
    have HL := hideS (fun wx => lengthP_ok y mon wx hym)
    have HO := hideS (fun wx => ofP_ok y mon 1 wx (okD_first hym 1 (by omega) (by omega)))
    obtain ⟨g0, g1⟩ := (isD_of (okD_first hym 1 (by omega) (by omega))).range
    have l0 := len_lo y mon
    have l1 := len_hi y mon
    have hR : nthI y mon wd nth = if dayI y mon 1 + lenI y mon ≤ dayI y mon 1 + (wd + 7 - dayI y mon 1 % 7) % 7 + 7 * (nth - 1) then dayI y mon 1 + (wd + 7 - dayI y mon 1 % 7) % 7 + 7 * (nth - 1) - 7 else dayI y mon 1 + (wd + 7 - dayI y mon 1 % 7) % 7 + 7 * (nth - 1) := nth_prog d0 d1 k1 k5 l0 g0
    obtain ⟨R, hRR⟩ : ∃ R, nthI y mon wd nth = R := ⟨_, rfl⟩
    rw [hRR] at hR ⊢
    clear hRR hym hr
    generalize dayI y mon 1 = f at *
    generalize lenI y mon = L at *
    obtain ⟨a, ha⟩ : ∃ a, f % 7 = a := ⟨_, rfl⟩
    rw [ha] at hR
    obtain ⟨t, ht⟩ : ∃ t, (wd + 7 - a) % 7 = t := ⟨_, rfl⟩
    rw [ht] at hR
    have t0 : 0 ≤ t := by omega
    have t1 : t ≤ 6 := by omega
    by_cases hge : f + L ≤ f + t + 7 * (nth - 1)
    · rw [if_pos hge] at hR
      have HR := hideS hR
      clear hR
      go_enter Try.func103, Try.ntmps103
      go_wp2_with (first | (go_at_call 59; refine (HL.out _).mono ?_; rintro e w1 ⟨rfl, rfl⟩) | (go_at_call 68; refine (HO.out _).mono ?_; rintro e w1 ⟨rfl, rfl⟩) | (go_at_call 53; refine (HI.out _).mono ?_; rintro e w1 ⟨rfl, rfl⟩))
      go_ret2
      exact ⟨_, rfl, fun g hg => (by rw [← Option.some.inj hg, HR.out]), HB0.out _⟩
    · rw [if_neg hge] at hR
      have HR := hideS hR
      clear hR
      go_enter Try.func103, Try.ntmps103
      go_wp2_with (first | (go_at_call 59; refine (HL.out _).mono ?_; rintro e w1 ⟨rfl, rfl⟩) | (go_at_call 68; refine (HO.out _).mono ?_; rintro e w1 ⟨rfl, rfl⟩) | (go_at_call 53; refine (HI.out _).mono ?_; rintro e w1 ⟨rfl, rfl⟩))
      go_ret2
      exact ⟨_, rfl, fun g hg => (by rw [← Option.some.inj hg, HR.out]), HB0.out _⟩
  · rw [giv_no (by decide) hr]
    rw [decide_eq_false hr] at HI
    clear hr
    by_cases hym : ymB y mon
    · have HL := hideS (fun wx => lengthP_ok y mon wx hym)
      generalize lenI y mon = L at *
      clear hym
      go_enter Try.func103, Try.ntmps103
      go_wp2_with (first | (go_at_call 59; refine (HL.out _).mono ?_; rintro e w1 ⟨rfl, rfl⟩) | (go_at_call 53; refine (HI.out _).mono ?_; rintro e w1 ⟨rfl, rfl⟩))
      go_ret2
      exact ⟨_, rfl, fun g hg => (by cases hg), HB0.out _⟩
    · have HL := hideS (fun wx => lengthP_bad y mon wx hym)
      clear hym
      go_enter Try.func103, Try.ntmps103
      go_wp2_with (go_at_call 59; refine (HL.out _).mono ?_; rintro e w1 ⟨rfl, rfl⟩)
      go_ret2
      exact ⟨_, rfl, fun g hg => (by cases hg), HB0.out _⟩

set_option maxHeartbeats 1600000 in
theorem in4_any (mon day nth wd off fr to mv y : Int) (w : World) (d0 : 0 ≤ day) (d1 : day ≤ 109572) :
    Calls Try.prog 109 #[.agg #[.int .i64 4, .int .i64 mon, .int .i64 day, .int .i64 nth, .int .i64 wd, .int .i64 off, .int .i64 fr, .int .i64 to, .int .i64 mv], .int .i64 y] w fun e w' => ∃ N, e = .returned (.tuple #[.int .i64 N, .bool (givO ⟨4, mon, day, nth, wd, off, fr, to, mv⟩ y).isSome]) ∧ (∀ g, givO ⟨4, mon, day, nth, wd, off, fr, to, mv⟩ y = some g → N = g) ∧ Below w.heap.size w w' := by
  have HB0 := hideS (fun o => (Below.refl w.heap.size w).alloc (Nat.le_refl _) o)
  obtain ⟨y0, m0, e0, hd⟩ := isD_ex d0 d1
  have HC := hideS (fun wx => civil_ok day y0 m0 e0 wx hd)
  by_cases hy : y0 = y
  · subst hy
    rw [giv4_ok hd]
    clear hd
    go_enter Try.func109, Try.ntmps109
    go_wp2_with (go_at_call 58; refine (HC.out _).mono ?_; rintro e w1 ⟨rfl, rfl⟩)
    go_ret2
    exact ⟨_, rfl, fun g hg => Option.some.inj hg, HB0.out _⟩
  · rw [giv4_no hd hy]
    have hy' : (y0 == y) = false := beq_eq_false_iff_ne.2 hy
    clear hd hy
    go_enter Try.func109, Try.ntmps109
    go_wp2_with (go_at_call 58; refine (HC.out _).mono ?_; rintro e w1 ⟨rfl, rfl⟩)
    go_ret2
    exact ⟨_, rfl, fun g hg => (by cases hg), HB0.out _⟩

set_option maxHeartbeats 1600000 in
theorem in3_any (mon day nth wd off fr to mv y : Int) (w : World) (o0 : -100 ≤ off) (o1 : off ≤ 100) (f0 : 1900 ≤ fr) (f1 : to ≤ 2199) :
    Calls Try.prog 105 #[.agg #[.int .i64 3, .int .i64 mon, .int .i64 day, .int .i64 nth, .int .i64 wd, .int .i64 off, .int .i64 fr, .int .i64 to, .int .i64 mv], .int .i64 y] w fun e w' => ∃ N, e = .returned (.tuple #[.int .i64 N, .bool (givO ⟨3, mon, day, nth, wd, off, fr, to, mv⟩ y).isSome]) ∧ (∀ g, givO ⟨3, mon, day, nth, wd, off, fr, to, mv⟩ y = some g → N = g) ∧ Below w.heap.size w w' := by
  have HB0 := hideS (fun o => (Below.refl w.heap.size w).alloc (Nat.le_refl _) o)
  have HI := hideS (fun wx => between_any y fr to wx)
  obtain ⟨wq, hwq⟩ : ∃ wq, w.alloc (.cells #[.int .i64 3, .int .i64 mon, .int .i64 day, .int .i64 nth, .int .i64 wd, .int .i64 off, .int .i64 fr, .int .i64 to, .int .i64 mv] 99) = wq := ⟨_, rfl⟩
  have c5 : wq.cell? ⟨w.heap.size, 5, none⟩ = some (.int .i64 off) := by rw [← hwq]; simp
  have c6 : wq.cell? ⟨w.heap.size, 6, none⟩ = some (.int .i64 fr) := by rw [← hwq]; simp
  have c7 : wq.cell? ⟨w.heap.size, 7, none⟩ = some (.int .i64 to) := by rw [← hwq]; simp
  have HBq : Hid (Below w.heap.size w wq) := by rw [← hwq]; exact HB0.out _
  have HQ := hideS hwq
  clear hwq HB0
  by_cases hyy : 1900 ≤ y ∧ y ≤ 2199
  · have HE := hideS (fun wx => easter_ok y wx hyy.1 hyy.2)
    obtain ⟨n0, n1⟩ : 0 ≤ eaDay y ∧ eaDay y ≤ 109572 := (isD_of (ea_ok hyy.1 hyy.2).ok).range
    by_cases hr : fr ≤ y ∧ y ≤ to
    · rw [giv3_ok hr]
      rw [decide_eq_true hr] at HI
      generalize eaDay y = D at *
      have hw1 : IntKind.i64.wrap (D + off) = D + off := by rw [IntKind.wrap_i64]; omega
      clear hr hyy
      go_enter Try.func105, Try.ntmps105
      go_wp2_with (go_at_call 107; refine (HE.out _).mono ?_; rintro e w1 ⟨rfl, rfl⟩)
      rw [HQ.out]
      go_quiet ((go_at_call 53; exact Calls.quiet_of_same (HI.out _)))
      go_wp2_with fail
      go_ret2
      exact ⟨_, rfl, fun g hg => Option.some.inj hg, below_drewN' HBq.out⟩
    · rw [giv_no (by decide) hr]
      rw [decide_eq_false hr] at HI
      generalize eaDay y = D at *
      have hw1 : IntKind.i64.wrap (D + off) = D + off := by rw [IntKind.wrap_i64]; omega
      clear hr hyy
      go_enter Try.func105, Try.ntmps105
      go_wp2_with (go_at_call 107; refine (HE.out _).mono ?_; rintro e w1 ⟨rfl, rfl⟩)
      rw [HQ.out]
      go_quiet ((go_at_call 53; exact Calls.quiet_of_same (HI.out _)))
      go_wp2_with fail
      go_ret2
      exact ⟨_, rfl, fun g hg => (by cases hg), below_drewN' HBq.out⟩
  · have HE := hideS (fun wx => easter_bad y wx hyy)
    rw [giv_no (by decide) (fun a => hyy (by omega))]
    have hw1 : IntKind.i64.wrap (0 + off) = 0 + off := by rw [IntKind.wrap_i64]; omega
    clear hyy
    go_enter Try.func105, Try.ntmps105
    go_wp2_with (go_at_call 107; refine (HE.out _).mono ?_; rintro e w1 ⟨rfl, rfl⟩)
    rw [HQ.out]
    go_quiet (fail)
    go_wp2_with fail
    go_ret2
    exact ⟨_, rfl, fun g hg => (by cases hg), below_drewN' HBq.out⟩
end Go.Proofs.Ytelghkhcplmnmaa
