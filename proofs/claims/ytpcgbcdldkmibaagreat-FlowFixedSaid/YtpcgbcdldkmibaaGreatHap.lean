/- What the program's almanac marks: no word of the program. The contracts of the program's rules: their days in a year, ahead of the moving. Schedules that come out even; long stubs and short ones: no word of the program. Day counts as whole numbers: no word of the program. The contracts of the document's thirty and actual. The contracts of the document's Count turned round or refused, and of moves. The contract of the document's Fraction. The document's Fraction where it refuses, and turned round. The document's Fraction turned round. The document's Fraction at any days. The document's Year where it refuses. What day counts keep: they add up, turn round and rise. No word of the program. -/
import Derived.Test.YtpcgbcdldkmibaaGreatHal
import Derived.Test.YtpcgbcdldkmibaaGreatHam
import Derived.Test.YtpcgbcdldkmibaaGreatHak
import Derived.BigQuiet
import Derived.Test.YtpcgbcdldkmibaaGreatHao
namespace Go.Proofs.YtpcgbcdldkmibaaGreat
open Go.RowKit

open Classical in
noncomputable def givO (r : Rul) (y : Int) : Option Int := if r.kind = 4 then (if yrI r.day = y then some r.day else none) else baseO r y
noncomputable def mkB (W : Int) (r : Rul) (y n : Int) : Bool := (givO r y).map (fun g => mvI W g r.mv) == some n
noncomputable def mkT (W : Int) (r : Rul) (Y n : Int) : Nat → Bool
  | 0 => false
  | t + 1 => mkT W r Y n t || mkB W r (Y - 1 + t) n
noncomputable def mkK (W : Int) (rs : List Rul) (Y n : Int) : Nat → Bool
  | 0 => false
  | k + 1 => mkK W rs Y n k || mkT W (rs.getD k rul0) Y n 3

theorem mv_zero {W n : Int} (h0 : 0 ≤ W) (h1 : W ≤ 126) : mvI W n 0 = n := by
  obtain ⟨u, d, hu⟩ := ups_ex h0 h1 n
  rw [mv_eq hu]; unfold movI; rw [if_pos (Or.inl rfl)]
theorem mkT_hit {W : Int} {r : Rul} {Y n : Int} (h0 : 0 ≤ W) (h1 : W ≤ 126) (hf : fitB r = true) (hy : yrI n = Y) : mkT W r Y n 3 = hitB W r n Y := by
  show (((false || mkB W r (Y - 1 + ((0 : Nat) : Int)) n) || mkB W r (Y - 1 + ((1 : Nat) : Int)) n) || mkB W r (Y - 1 + ((2 : Nat) : Int)) n) = _
  rw [show Y - 1 + ((0 : Nat) : Int) = Y - 1 by omega, show Y - 1 + ((1 : Nat) : Int) = Y by omega, show Y - 1 + ((2 : Nat) : Int) = Y + 1 by omega, Bool.false_or]
  unfold hitB
  by_cases k4 : r.kind = 4
  · rw [if_pos k4]
    have hmv : r.mv = 0 := by
      rcases fit_cases hf with ⟨_, _, _, a⟩ | ⟨_, ⟨a, _⟩ | ⟨a, _⟩ | ⟨a, _⟩⟩
      · exact a
      · omega
      · omega
      · omega
    have key : ∀ y, mkB W r y n = (decide (yrI r.day = y) && (r.day == n)) := fun y => by
      unfold mkB givO
      rw [if_pos k4]
      by_cases e : yrI r.day = y
      · rw [if_pos e, Option.map_some, hmv, mv_zero h0 h1, decide_eq_true e, Bool.true_and]; rfl
      · rw [if_neg e, decide_eq_false e, Bool.false_and]; rfl
    rw [key, key, key]
    by_cases e : r.day = n
    · rw [e, hy, decide_eq_true (rfl : Y = Y)]
      simp
    · rw [beq_eq_false_iff_ne.2 e]
      simp
  · rw [if_neg k4]
    have key : ∀ y, mkB W r y n = (dayO W r y == some n) := fun y => by
      unfold mkB givO dayO
      rw [if_neg k4]
    rw [key, key, key]
theorem mkK_hol {W : Int} {rs : List Rul} {Y n : Int} (h0 : 0 ≤ W) (h1 : W ≤ 126) (hf : ∀ r ∈ rs, fitB r = true) (hy : yrI n = Y) : mkK W rs Y n rs.length = holB W rs n Y := by
  have key : ∀ k, k ≤ rs.length → mkK W rs Y n k = (rs.take k).any fun r => hitB W r n Y := fun k => by
    induction k with
    | zero => intro _; rfl
    | succ k ih =>
      intro hk
      have e : rs[k]? = some (rs.getD k rul0) := by simp [List.getD, List.getElem?_eq_getElem (show k < rs.length by omega)]
      show (mkK W rs Y n k || mkT W (rs.getD k rul0) Y n 3) = _
      rw [ih (by omega), mkT_hit h0 h1 (hf _ (getD_mem (by omega))) hy, List.take_add_one, e, List.any_append]
      simp
  rw [key _ (Nat.le_refl _), List.take_length]
  rfl
theorem yr_of {n Y : Int} (y0 : 1900 ≤ Y) (y1 : Y ≤ 2199) (h : nyI Y ≤ n) (h' : n < nyI (Y + 1)) : yrI n = Y := by
  have a := ny_mono (y := 1900) (z := Y) (by omega) y0
  have b := ny_mono (y := Y + 1) (z := 2200) (by omega) (by omega)
  rw [ny_first] at a
  rw [ny_last] at b
  obtain ⟨y, m, d, hd⟩ := isD_ex (n := n) (by omega) (by omega)
  rw [yr_eq hd]
  have hy := hd.year
  have h0 := hd.1.1
  rcases Int.lt_trichotomy y Y with e | e | e
  · have := ny_mono (y := y + 1) (z := Y) (by omega) (by omega); omega
  · exact e
  · have := ny_mono (y := Y + 1) (z := y) (by omega) (by omega); omega
theorem yr_in {n : Int} (hn : isDayP n) : 1900 ≤ yrI n ∧ yrI n ≤ 2199 ∧ nyI (yrI n) ≤ n ∧ n < nyI (yrI n + 1) := by
  obtain ⟨y, m, d, hd⟩ := isD_ex hn.1 hn.2
  rw [yr_eq hd]
  exact ⟨hd.1.1, hd.1.2.1, hd.year⟩
theorem first_day (Y : Int) : dayI Y 1 1 = nyI Y := by unfold dayI; rw [cum_first]; omega
theorem last_day {Y : Int} (h : 1900 ≤ Y) : dayI Y 12 31 = nyI (Y + 1) - 1 := by
  have e := cum_succ (y := Y) (m := 12) (by omega) (by omega)
  rw [show (12 + 1 : Int) = 13 by decide, cum_last] at e
  have e2 : lenI Y 12 = 31 := by unfold lenI; rw [if_neg (by decide), if_neg (by decide)]
  rw [ny_succ h]
  unfold dayI
  omega
theorem okD_first1 {Y : Int} (y0 : 1900 ≤ Y) (y1 : Y ≤ 2199) : okD Y 1 1 := ⟨y0, y1, by decide, by decide, by decide, by have := len_lo Y 1; omega⟩
theorem okD_last {Y : Int} (y0 : 1900 ≤ Y) (y1 : Y ≤ 2199) : okD Y 12 31 := ⟨y0, y1, by decide, by decide, by decide, by unfold lenI; rw [if_neg (by decide), if_neg (by decide)]; decide⟩
theorem mkB_none {W : Int} {r : Rul} {y n : Int} (h : givO r y = none) : mkB W r y n = false := by unfold mkB; rw [h]; rfl
theorem mkB_some {W : Int} {r : Rul} {y n g : Int} (h : givO r y = some g) : mkB W r y n = decide (mvI W g r.mv = n) := by
  unfold mkB; rw [h, Option.map_some]
  by_cases e : mvI W g r.mv = n
  · rw [e, decide_eq_true rfl]; simp
  · rw [decide_eq_false e]; simpa using e
end Go.Proofs.YtpcgbcdldkmibaaGreat
namespace Go.Proofs.YtpcgbcdldkmibaaGreat
open Go.RowKit

theorem giv1_ok {mon day nth wd off fr to mv y : Int} (ho : okD y mon day) (hr : fr ≤ y ∧ y ≤ to) : givO ⟨1, mon, day, nth, wd, off, fr, to, mv⟩ y = some (dayI y mon day) := by
  unfold givO baseO
  dsimp only
  rw [if_neg (by decide), if_neg (by omega), if_pos rfl, if_pos ho]
theorem giv1_no {mon day nth wd off fr to mv y : Int} (ho : ¬ okD y mon day) : givO ⟨1, mon, day, nth, wd, off, fr, to, mv⟩ y = none := by
  unfold givO baseO
  dsimp only
  rw [if_neg (by decide), if_pos rfl, if_neg ho]
  split <;> rfl
theorem giv_no {kind mon day nth wd off fr to mv y : Int} (hk : kind ≠ 4) (hr : ¬ (fr ≤ y ∧ y ≤ to)) : givO ⟨kind, mon, day, nth, wd, off, fr, to, mv⟩ y = none := by
  unfold givO baseO
  dsimp only
  rw [if_neg hk, if_pos (by omega)]
theorem giv2_ok {mon day nth wd off fr to mv y : Int} (hr : fr ≤ y ∧ y ≤ to) : givO ⟨2, mon, day, nth, wd, off, fr, to, mv⟩ y = some (nthI y mon wd nth) := by
  unfold givO baseO
  dsimp only
  rw [if_neg (by decide), if_neg (by omega), if_neg (by decide), if_pos rfl]
theorem giv3_ok {mon day nth wd off fr to mv y : Int} (hr : fr ≤ y ∧ y ≤ to) : givO ⟨3, mon, day, nth, wd, off, fr, to, mv⟩ y = some (eaDay y + off) := by
  unfold givO baseO
  dsimp only
  rw [if_neg (by decide), if_neg (by omega), if_neg (by decide), if_neg (by decide), if_pos rfl]
theorem giv4_ok {mon day nth wd off fr to mv y m d : Int} (h : IsD day y m d) : givO ⟨4, mon, day, nth, wd, off, fr, to, mv⟩ y = some day := by
  unfold givO
  dsimp only
  rw [if_pos rfl, if_pos (yr_eq h)]
theorem giv4_no {mon day nth wd off fr to mv y y0 m d : Int} (h : IsD day y0 m d) (hy : y0 ≠ y) : givO ⟨4, mon, day, nth, wd, off, fr, to, mv⟩ y = none := by
  unfold givO
  dsimp only
  rw [if_pos rfl, if_neg (by rw [yr_eq h]; exact hy)]

set_option maxHeartbeats 1600000 in
theorem in1_any (mon day nth wd off fr to mv y : Int) (w : World) :
    Calls Tryz.prog 222 #[.agg #[.int .i64 1, .int .i64 mon, .int .i64 day, .int .i64 nth, .int .i64 wd, .int .i64 off, .int .i64 fr, .int .i64 to, .int .i64 mv], .int .i64 y] w fun e w' => ∃ N, e = .returned (.tuple #[.int .i64 N, .bool (givO ⟨1, mon, day, nth, wd, off, fr, to, mv⟩ y).isSome]) ∧ (∀ g, givO ⟨1, mon, day, nth, wd, off, fr, to, mv⟩ y = some g → N = g) ∧ Below w.heap.size w w' := by
  have HB0 := hideS (fun o => (Below.refl w.heap.size w).alloc (Nat.le_refl _) o)
  by_cases ho : okD y mon day
  · have HO := hideS (fun wx => ofP_ok y mon day wx ho)
    have HI := hideS (fun wx => betweenQ_any y fr to wx)
    by_cases hr : fr ≤ y ∧ y ≤ to
    · rw [giv1_ok ho hr]
      rw [decide_eq_true hr] at HI
      generalize dayI y mon day = D at *
      clear ho hr
      go_enter Tryz.func222, Tryz.ntmps222
      go_wp2_with (first | (go_at_call 196; refine (HO.out _).mono ?_; rintro e w1 ⟨rfl, rfl⟩) | (go_at_call 151; refine (HI.out _).mono ?_; rintro e w1 ⟨rfl, rfl⟩))
      go_ret2
      exact ⟨_, rfl, fun g hg => Option.some.inj hg, HB0.out _⟩
    · rw [giv_no (by decide) hr]
      rw [decide_eq_false hr] at HI
      generalize dayI y mon day = D at *
      clear ho hr
      go_enter Tryz.func222, Tryz.ntmps222
      go_wp2_with (first | (go_at_call 196; refine (HO.out _).mono ?_; rintro e w1 ⟨rfl, rfl⟩) | (go_at_call 151; refine (HI.out _).mono ?_; rintro e w1 ⟨rfl, rfl⟩))
      go_ret2
      exact ⟨_, rfl, fun g hg => (by cases hg), HB0.out _⟩
  · have HO := hideS (fun wx => ofP_bad y mon day wx ho)
    rw [giv1_no ho]
    clear ho
    go_enter Tryz.func222, Tryz.ntmps222
    go_wp2_with (go_at_call 196; refine (HO.out _).mono ?_; rintro e w1 ⟨rfl, rfl⟩)
    go_ret2
    exact ⟨_, rfl, fun g hg => (by cases hg), HB0.out _⟩

theorem nth_prog {f L wd k : Int} (_d0 : 0 ≤ wd) (_d1 : wd ≤ 6) (k1 : 1 ≤ k) (k5 : k ≤ 5) (l0 : 28 ≤ L) (_f0 : 0 ≤ f) :
    (if k = 5 ∧ f + L ≤ f + (wd - f) % 7 + 7 * (k - 1) then f + (wd - f) % 7 + 7 * (k - 1) - 7 else f + (wd - f) % 7 + 7 * (k - 1)) = if f + L ≤ f + (wd + 7 - f % 7) % 7 + 7 * (k - 1) then f + (wd + 7 - f % 7) % 7 + 7 * (k - 1) - 7 else f + (wd + 7 - f % 7) % 7 + 7 * (k - 1) := by
  have e : (wd + 7 - f % 7) % 7 = (wd - f) % 7 := by omega
  rw [e]
  by_cases a : k = 5
  · by_cases b : f + L ≤ f + (wd - f) % 7 + 7 * (k - 1)
    · rw [if_pos ⟨a, b⟩, if_pos b]
    · rw [if_neg (fun c => b c.2), if_neg b]
  · rw [if_neg (fun c => a c.1), if_neg (by omega)]

set_option maxHeartbeats 1600000 in
theorem in2_any (mon day nth wd off fr to mv y : Int) (w : World) (m0 : 1 ≤ mon) (m1 : mon ≤ 12) (d0 : 0 ≤ wd) (d1 : wd ≤ 6) (k1 : 1 ≤ nth) (k5 : nth ≤ 5) (f0 : 1900 ≤ fr) (f1 : to ≤ 2199) :
    Calls Tryz.prog 225 #[.agg #[.int .i64 2, .int .i64 mon, .int .i64 day, .int .i64 nth, .int .i64 wd, .int .i64 off, .int .i64 fr, .int .i64 to, .int .i64 mv], .int .i64 y] w fun e w' => ∃ N, e = .returned (.tuple #[.int .i64 N, .bool (givO ⟨2, mon, day, nth, wd, off, fr, to, mv⟩ y).isSome]) ∧ (∀ g, givO ⟨2, mon, day, nth, wd, off, fr, to, mv⟩ y = some g → N = g) ∧ Below w.heap.size w w' := by
  have HB0 := hideS (fun o => (Below.refl w.heap.size w).alloc (Nat.le_refl _) o)
  have HI := hideS (fun wx => betweenQ_any y fr to wx)
  by_cases hr : fr ≤ y ∧ y ≤ to
  · rw [giv2_ok hr]
    rw [decide_eq_true hr] at HI
    have hym : ymB y mon := ⟨by omega, by omega, m0, m1⟩
    have HL := hideS (fun wx => lengthP_ok y mon wx hym)
    have HO := hideS (fun wx => ofP_ok y mon 1 wx (okD_first hym 1 (by omega) (by omega)))
    obtain ⟨g0, g1⟩ := (isD_of (okD_first hym 1 (by omega) (by omega))).range
    have l0 := len_lo y mon
    have l1 := len_hi y mon
    have hR : nthI y mon wd nth = if dayI y mon 1 + lenI y mon ≤ dayI y mon 1 + (wd + 7 - dayI y mon 1 % 7) % 7 + 7 * (nth - 1) then dayI y mon 1 + (wd + 7 - dayI y mon 1 % 7) % 7 + 7 * (nth - 1) - 7 else dayI y mon 1 + (wd + 7 - dayI y mon 1 % 7) % 7 + 7 * (nth - 1) := nth_prog d0 d1 k1 k5 l0 g0
    obtain ⟨R, hRR⟩ : ∃ R, nthI y mon wd nth = R := ⟨_, rfl⟩
    rw [hRR] at hR ⊢
    clear hRR hym hr
    generalize dayI y mon 1 = f at *
    generalize lenI y mon = L at *
    obtain ⟨a, ha⟩ : ∃ a, f % 7 = a := ⟨_, rfl⟩
    rw [ha] at hR
    obtain ⟨t, ht⟩ : ∃ t, (wd + 7 - a) % 7 = t := ⟨_, rfl⟩
    rw [ht] at hR
    have t0 : 0 ≤ t := by omega
    have t1 : t ≤ 6 := by omega
    by_cases hge : f + L ≤ f + t + 7 * (nth - 1)
    · rw [if_pos hge] at hR
      have HR := hideS hR
      clear hR
      go_enter Tryz.func225, Tryz.ntmps225
      go_wp2_with (first | (go_at_call 189; refine (HL.out _).mono ?_; rintro e w1 ⟨rfl, rfl⟩) | (go_at_call 196; refine (HO.out _).mono ?_; rintro e w1 ⟨rfl, rfl⟩) | (go_at_call 151; refine (HI.out _).mono ?_; rintro e w1 ⟨rfl, rfl⟩))
      go_ret2
      exact ⟨_, rfl, fun g hg => (by rw [← Option.some.inj hg, HR.out]), HB0.out _⟩
    · rw [if_neg hge] at hR
      have HR := hideS hR
      clear hR
      go_enter Tryz.func225, Tryz.ntmps225
      go_wp2_with (first | (go_at_call 189; refine (HL.out _).mono ?_; rintro e w1 ⟨rfl, rfl⟩) | (go_at_call 196; refine (HO.out _).mono ?_; rintro e w1 ⟨rfl, rfl⟩) | (go_at_call 151; refine (HI.out _).mono ?_; rintro e w1 ⟨rfl, rfl⟩))
      go_ret2
      exact ⟨_, rfl, fun g hg => (by rw [← Option.some.inj hg, HR.out]), HB0.out _⟩
  · rw [giv_no (by decide) hr]
    rw [decide_eq_false hr] at HI
    clear hr
    by_cases hym : ymB y mon
    · have HL := hideS (fun wx => lengthP_ok y mon wx hym)
      generalize lenI y mon = L at *
      clear hym
      go_enter Tryz.func225, Tryz.ntmps225
      go_wp2_with (first | (go_at_call 189; refine (HL.out _).mono ?_; rintro e w1 ⟨rfl, rfl⟩) | (go_at_call 151; refine (HI.out _).mono ?_; rintro e w1 ⟨rfl, rfl⟩))
      go_ret2
      exact ⟨_, rfl, fun g hg => (by cases hg), HB0.out _⟩
    · have HL := hideS (fun wx => lengthP_bad y mon wx hym)
      clear hym
      go_enter Tryz.func225, Tryz.ntmps225
      go_wp2_with (go_at_call 189; refine (HL.out _).mono ?_; rintro e w1 ⟨rfl, rfl⟩)
      go_ret2
      exact ⟨_, rfl, fun g hg => (by cases hg), HB0.out _⟩

set_option maxHeartbeats 1600000 in
theorem in4_any (mon day nth wd off fr to mv y : Int) (w : World) (d0 : 0 ≤ day) (d1 : day ≤ 109572) :
    Calls Tryz.prog 231 #[.agg #[.int .i64 4, .int .i64 mon, .int .i64 day, .int .i64 nth, .int .i64 wd, .int .i64 off, .int .i64 fr, .int .i64 to, .int .i64 mv], .int .i64 y] w fun e w' => ∃ N, e = .returned (.tuple #[.int .i64 N, .bool (givO ⟨4, mon, day, nth, wd, off, fr, to, mv⟩ y).isSome]) ∧ (∀ g, givO ⟨4, mon, day, nth, wd, off, fr, to, mv⟩ y = some g → N = g) ∧ Below w.heap.size w w' := by
  have HB0 := hideS (fun o => (Below.refl w.heap.size w).alloc (Nat.le_refl _) o)
  obtain ⟨y0, m0, e0, hd⟩ := isD_ex d0 d1
  have HC := hideS (fun wx => civil_ok day y0 m0 e0 wx hd)
  by_cases hy : y0 = y
  · subst hy
    rw [giv4_ok hd]
    clear hd
    go_enter Tryz.func231, Tryz.ntmps231
    go_wp2_with (go_at_call 182; refine (HC.out _).mono ?_; rintro e w1 ⟨rfl, rfl⟩)
    go_ret2
    exact ⟨_, rfl, fun g hg => Option.some.inj hg, HB0.out _⟩
  · rw [giv4_no hd hy]
    have hy' : (y0 == y) = false := beq_eq_false_iff_ne.2 hy
    clear hd hy
    go_enter Tryz.func231, Tryz.ntmps231
    go_wp2_with (go_at_call 182; refine (HC.out _).mono ?_; rintro e w1 ⟨rfl, rfl⟩)
    go_ret2
    exact ⟨_, rfl, fun g hg => (by cases hg), HB0.out _⟩

set_option maxHeartbeats 1600000 in
theorem in3_any (mon day nth wd off fr to mv y : Int) (w : World) (o0 : -100 ≤ off) (o1 : off ≤ 100) (f0 : 1900 ≤ fr) (f1 : to ≤ 2199) :
    Calls Tryz.prog 227 #[.agg #[.int .i64 3, .int .i64 mon, .int .i64 day, .int .i64 nth, .int .i64 wd, .int .i64 off, .int .i64 fr, .int .i64 to, .int .i64 mv], .int .i64 y] w fun e w' => ∃ N, e = .returned (.tuple #[.int .i64 N, .bool (givO ⟨3, mon, day, nth, wd, off, fr, to, mv⟩ y).isSome]) ∧ (∀ g, givO ⟨3, mon, day, nth, wd, off, fr, to, mv⟩ y = some g → N = g) ∧ Below w.heap.size w w' := by
  have HB0 := hideS (fun o => (Below.refl w.heap.size w).alloc (Nat.le_refl _) o)
  have HI := hideS (fun wx => betweenQ_any y fr to wx)
  obtain ⟨wq, hwq⟩ : ∃ wq, w.alloc (.cells #[.int .i64 3, .int .i64 mon, .int .i64 day, .int .i64 nth, .int .i64 wd, .int .i64 off, .int .i64 fr, .int .i64 to, .int .i64 mv] 232) = wq := ⟨_, rfl⟩
  have c5 : wq.cell? ⟨w.heap.size, 5, none⟩ = some (.int .i64 off) := by rw [← hwq]; simp
  have c6 : wq.cell? ⟨w.heap.size, 6, none⟩ = some (.int .i64 fr) := by rw [← hwq]; simp
  have c7 : wq.cell? ⟨w.heap.size, 7, none⟩ = some (.int .i64 to) := by rw [← hwq]; simp
  have HBq : Hid (Below w.heap.size w wq) := by rw [← hwq]; exact HB0.out _
  have HQ := hideS hwq
  clear hwq HB0
  by_cases hyy : 1900 ≤ y ∧ y ≤ 2199
  · have HE := hideS (fun wx => easter_ok y wx hyy.1 hyy.2)
    obtain ⟨n0, n1⟩ : 0 ≤ eaDay y ∧ eaDay y ≤ 109572 := (isD_of (ea_ok hyy.1 hyy.2).ok).range
    by_cases hr : fr ≤ y ∧ y ≤ to
    · rw [giv3_ok hr]
      rw [decide_eq_true hr] at HI
      generalize eaDay y = D at *
      have hw1 : IntKind.i64.wrap (D + off) = D + off := by rw [IntKind.wrap_i64]; omega
      clear hr hyy
      go_enter Tryz.func227, Tryz.ntmps227
      go_wp2_with (go_at_call 229; refine (HE.out _).mono ?_; rintro e w1 ⟨rfl, rfl⟩)
      rw [HQ.out]
      go_quiet ((go_at_call 151; exact Calls.quiet_of_same (HI.out _)))
      go_wp2_with fail
      go_ret2
      exact ⟨_, rfl, fun g hg => Option.some.inj hg, below_drewN' HBq.out⟩
    · rw [giv_no (by decide) hr]
      rw [decide_eq_false hr] at HI
      generalize eaDay y = D at *
      have hw1 : IntKind.i64.wrap (D + off) = D + off := by rw [IntKind.wrap_i64]; omega
      clear hr hyy
      go_enter Tryz.func227, Tryz.ntmps227
      go_wp2_with (go_at_call 229; refine (HE.out _).mono ?_; rintro e w1 ⟨rfl, rfl⟩)
      rw [HQ.out]
      go_quiet ((go_at_call 151; exact Calls.quiet_of_same (HI.out _)))
      go_wp2_with fail
      go_ret2
      exact ⟨_, rfl, fun g hg => (by cases hg), below_drewN' HBq.out⟩
  · have HE := hideS (fun wx => easter_bad y wx hyy)
    rw [giv_no (by decide) (fun a => hyy (by omega))]
    have hw1 : IntKind.i64.wrap (0 + off) = 0 + off := by rw [IntKind.wrap_i64]; omega
    clear hyy
    go_enter Tryz.func227, Tryz.ntmps227
    go_wp2_with (go_at_call 229; refine (HE.out _).mono ?_; rintro e w1 ⟨rfl, rfl⟩)
    rw [HQ.out]
    go_quiet (fail)
    go_wp2_with fail
    go_ret2
    exact ⟨_, rfl, fun g hg => (by cases hg), below_drewN' HBq.out⟩
end Go.Proofs.YtpcgbcdldkmibaaGreat
namespace Go.Proofs.YtpcgbcdldkmibaaGreat
open Go.RowKit

end Go.Proofs.YtpcgbcdldkmibaaGreat
namespace Go.Proofs.YtpcgbcdldkmibaaGreat
open Go.RowKit

def thirI (kind ya ma da yb mb db : Int) : Int := 360 * (yb - ya) + 30 * (mb - ma) + (if kind = 5 ∨ min da 30 = 30 then min db 30 else db) - min da 30
def accI (y n : Int) : Int := 133590 * (y - 1900) + (n - nyI y) * (366 - lpI y)
theorem acc_turn {y : Int} (h : 1900 ≤ y) : accI y (nyI (y + 1)) = accI (y + 1) (nyI (y + 1)) := by
  unfold accI
  rw [ny_succ h]
  rcases lp_cases y with e | e <;> rw [e] <;> simp <;> omega
theorem acc_add (y a n : Int) : accI y (a + n) = accI y a + (366 - lpI y) * n := by
  unfold accI
  rw [show a + n - nyI y = (a - nyI y) + n by omega, Int.add_mul, Int.mul_comm n]
  omega
theorem acc_bd {y n : Int} (h : 1900 ≤ y) (h' : y ≤ 2200) (h0 : nyI y ≤ n) (h1 : n ≤ nyI (y + 1)) : 0 ≤ accI y n ∧ accI y n ≤ 50000000 := by
  unfold accI
  rw [ny_succ h] at h1
  rcases lp_cases y with e | e <;> rw [e] at h1 ⊢ <;> constructor <;> omega
end Go.Proofs.YtpcgbcdldkmibaaGreat
namespace Go.Proofs.YtpcgbcdldkmibaaGreat
open Go.RowKit

set_option maxHeartbeats 1600000 in
theorem refActual_any (a b ya ma da yb mb db : Int) (w : World) (hA : IsD a ya ma da) (hB : IsD b yb mb db) (hab : a ≤ b) :
    Calls Tryz.prog 67 #[.int .i64 a, .int .i64 b] w fun e w' => e = .returned (.int .i64 (accI yb b - accI ya a)) ∧ Below w.heap.size w w' := by
  have HC := hideS (fun wx => refCiv_ok a ya ma da wx hA)
  unfold dateV at HC
  have hya := hA.year
  have hyb := hB.year
  have hra := hA.range
  have hrb := hB.range
  obtain ⟨y0, y1, _, _, _, _⟩ := hA.1
  obtain ⟨z0, z1, _, _, _, _⟩ := hB.1
  obtain ⟨R, hR⟩ : ∃ R, accI yb b - accI ya a = R := ⟨_, rfl⟩
  rw [hR]
  have HR := hideS hR
  clear hR hA hB
  have HYA := hideS hya
  have HYB := hideS hyb
  obtain ⟨a0, a1⟩ := hra
  obtain ⟨b0, b1⟩ := hrb
  clear hya hyb
  go_enter Tryz.func67, Tryz.ntmps67
  go_wp2_with (go_at_call 120; refine (HC.out _).mono ?_; rintro e w1 ⟨rfl, hb1⟩; have HB1 := hideS (hb1.trans (((Below.refl _ w1).alloc (Nat.le_refl _) (.cells #[.int .i64 ya, .int .i64 ma, .int .i64 da] 180)).mono hb1.size)); clear hb1)
  go_loop [0, 7, 8, 9, 10, 11] (fun x o y _ _ _ => ∃ (X O Y : Int), ya ≤ Y ∧ Y ≤ yb + 1 ∧ a ≤ X ∧ X ≤ b ∧ 0 ≤ O ∧ O ≤ 50000000 ∧ x = .int .i64 X ∧ o = .int .i64 O ∧ y = .int .i64 Y ∧ Hid ((nyI Y ≤ X ∧ Y ≤ yb ∧ X < nyI (Y + 1) ∧ O = accI Y X - accI ya a) ∨ (X = b ∧ O = R))) (fun _ _ y _ _ _ => (yb + 1 - intOf y).toNat)
  case atStart =>
    have hy := HYA.out
    have hz := HYB.out
    have hle : ya ≤ yb := by
      by_cases e : ya ≤ yb
      · exact e
      · have := ny_mono (y := yb + 1) (z := ya) (by omega) (by omega)
        omega
    exact ⟨a, 0, ya, by omega, by omega, by omega, by omega, by omega, by omega, rfl, rfl, rfl, Or.inl ⟨hy.1, hle, hy.2, by omega⟩⟩
  case round =>
    obtain ⟨X, O, Y, hY0, hY1, hX0, hX1, hO0, hO1, rfl, rfl, rfl, HI⟩ := hrel
    by_cases hlt : X < b
    · obtain ⟨e1, e2, e3, e4⟩ := (show nyI Y ≤ X ∧ Y ≤ yb ∧ X < nyI (Y + 1) ∧ O = accI Y X - accI ya a by
        rcases HI.out with e | ⟨e, _⟩
        · exact e
        · omega)
      have hY9 : Y ≤ 2199 := by omega
      obtain ⟨E, hE⟩ : ∃ E, nyI (Y + 1) = E := ⟨_, rfl⟩
      have HOf : Hid (∃ P F, (∀ wx, Calls Tryz.prog 121 #[.int .i64 (Y + 1), .int .i64 1, .int .i64 1] wx fun e w' => e = .returned (.tuple #[.int .i64 P, .int .i64 F]) ∧ w' = wx) ∧ ((F = 0 ∧ P = E) ∨ (F = 50 ∧ E = 109573))) := by
        by_cases h9 : Y = 2199
        · refine ⟨0, 50, fun wx => refOf_bad _ _ _ wx (fun o => by have := o.2.1; omega), Or.inr ⟨rfl, ?_⟩⟩
          rw [← hE, h9]; exact ny_last
        · have ho : okD (Y + 1) 1 1 := ⟨by omega, by omega, by omega, by omega, by omega, by have := len_lo (Y + 1) 1; omega⟩
          refine ⟨_, _, fun wx => refOf_ok _ _ _ wx ho, Or.inl ⟨rfl, ?_⟩⟩
          unfold dayI
          rw [cum_first, ← hE]; omega
      obtain ⟨P, F, hof, hPF⟩ := HOf.out
      have HOf' := hideS hof
      clear hof HOf
      obtain ⟨n, hn, hnE⟩ : ∃ n, min E b - X = n ∧ ((E ≤ b ∧ n = E - X) ∨ (b < E ∧ n = b - X)) := ⟨_, rfl, by omega⟩
      have hn0 : 0 < n := by rw [hE] at e3; omega
      have HAc : Hid (O + (366 - lpI Y) * n = accI Y (X + n) - accI ya a) := by
        show _ = _
        rw [acc_add, e4]; omega
      have hle2 : X + n ≤ nyI (Y + 1) := by rw [hE]; omega
      have HBd : Hid (accI Y (X + n) ≤ 50000000 ∧ 0 ≤ accI ya a) := by
        have q1 := (acc_bd (y := Y) (n := X + n) (by omega) (by omega) (by omega) hle2).2
        have q2 := (acc_bd (y := ya) (n := a) (by omega) (by omega) HYA.out.1 (by have := HYA.out.2; omega)).1
        exact ⟨q1, q2⟩
      have HNx : Hid ((nyI (Y + 1) ≤ X + n ∧ Y + 1 ≤ yb ∧ X + n < nyI (Y + 1 + 1) ∧ O + (366 - lpI Y) * n = accI (Y + 1) (X + n) - accI ya a) ∨ (X + n = b ∧ O + (366 - lpI Y) * n = R)) := by
        rcases hnE with ⟨q1, q2⟩ | ⟨q1, q2⟩
        · have hXE : X + n = nyI (Y + 1) := by rw [hE]; omega
          have hYb : Y + 1 ≤ yb := by
            by_cases e : Y + 1 ≤ yb
            · exact e
            · have := HYB.out.2
              rw [show yb = Y by omega, hE] at this
              omega
          refine Or.inl ⟨by omega, hYb, ?_, ?_⟩
          · rw [hXE, ny_succ (y := Y + 1) (by omega)]
            have := lp_lo (Y + 1)
            omega
          · rw [HAc.out, hXE, acc_turn (by omega)]
        · have hYb : Y = yb := by
            by_cases e : Y = yb
            · exact e
            · have := ny_mono (y := Y + 1) (z := yb) (by omega) (by omega)
              have := HYB.out.1
              rw [hE] at *
              omega
          refine Or.inr ⟨by omega, ?_⟩
          rw [HAc.out, ← HR.out, show X + n = b by omega, hYb]
      rw [hE] at e3
      clear hE hle2 e4 HI e1
      rcases hPF with ⟨rfl, rfl⟩ | ⟨rfl, rfl⟩
      all_goals
        cases hl : leapB Y
        all_goals
          first | rw [lp_false hl, show (366 - 0 : Int) = 366 from rfl] at HAc HNx | rw [lp_true hl, show (366 - 1 : Int) = 365 from rfl] at HAc HNx
          rcases hnE with ⟨q1, q2⟩ | ⟨q1, q2⟩
          all_goals try (exfalso; omega)
          all_goals
            clear hn
            subst q2
            go_wp2_with (first | (go_at_call 121; refine (HOf'.out _).mono ?_; rintro e w2 ⟨rfl, rfl⟩) | (go_at_call 122; refine (refLeap_any _ _).mono ?_; rintro e w2 ⟨rfl, rfl⟩))
            go_round
            case rel => exact ⟨_, _, Y + 1, by omega, by omega, by omega, by omega, by omega, by have := HAc.out; have := HBd.out.1; have := HBd.out.2; omega, rfl, rfl, rfl, HNx⟩
            case measure => simp [intOf]; omega
    · have HE : Hid (O = R) := by
        rcases HI.out with ⟨e1, e2, e3, e4⟩ | ⟨_, e⟩
        · have hXb : X = b := by omega
          have hYb : Y = yb := by
            have h1 := HYB.out
            rcases Int.lt_trichotomy Y yb with q | q | q
            · have := ny_mono (y := Y + 1) (z := yb) (by omega) (by omega)
              omega
            · exact q
            · omega
          show _ = _
          rw [e4, ← HR.out, hXb, hYb]
        · exact e
      clear HI
      rcases (show Y ≤ 2199 ∨ ¬ Y ≤ 2199 by omega) with h9 | h9
      all_goals
        go_wp2_with fail
        go_ret
        obtain rfl := HE.out
        exact ⟨rfl, HB1.out⟩

theorem retI {k : IntKind} {a b : Int} (h : a = b) : Ending.returned (.int k a) = .returned (.int k b) := by rw [h]
theorem two_dates {w w1 w2 : World} {y m d : Int} {t : TypeId} (h1 : Below w.heap.size w w1) (h2 : Below (w1.alloc (.cells #[.int .i64 y, .int .i64 m, .int .i64 d] t)).heap.size (w1.alloc (.cells #[.int .i64 y, .int .i64 m, .int .i64 d] t)) w2) :
    (∀ o, (w2.alloc o).cell? ⟨w1.heap.size, 0, none⟩ = some (.int .i64 y)) ∧ (∀ o, (w2.alloc o).cell? ⟨w1.heap.size, 1, none⟩ = some (.int .i64 m)) ∧ (∀ o, (w2.alloc o).cell? ⟨w1.heap.size, 2, none⟩ = some (.int .i64 d)) ∧ Hid (∀ o, Below w.heap.size w (w2.alloc o)) := by
  have hz : w1.heap.size < w2.heap.size := by have := h2.size; simp at this; omega
  have hb : Below w.heap.size w w2 := h1.trans ((((Below.refl _ w1).alloc (Nat.le_refl _) _).trans (h2.mono (by simp))).mono h1.size)
  refine ⟨fun o => ?_, fun o => ?_, fun o => ?_, fun o => hb.alloc hb.size o⟩
  · rw [old_cell o ⟨w1.heap.size, 0, none⟩ hz, h2.cell (p := ⟨w1.heap.size, 0, none⟩) (by simp)]; simp
  · rw [old_cell o ⟨w1.heap.size, 1, none⟩ hz, h2.cell (p := ⟨w1.heap.size, 1, none⟩) (by simp)]; simp
  · rw [old_cell o ⟨w1.heap.size, 2, none⟩ hz, h2.cell (p := ⟨w1.heap.size, 2, none⟩) (by simp)]; simp

set_option maxHeartbeats 1600000 in
theorem refThirty_any (kind a b ya ma da yb mb db : Int) (w : World) (hA : IsD a ya ma da) (hB : IsD b yb mb db) :
    Calls Tryz.prog 69 #[.int .i64 kind, .int .i64 a, .int .i64 b] w fun e w' => e = .returned (.int .i64 (thirI kind ya ma da yb mb db)) ∧ Below w.heap.size w w' := by
  have HC := hideS (fun wx => refCiv_ok a ya ma da wx hA)
  have HC2 := hideS (fun wx => refCiv_ok b yb mb db wx hB)
  unfold dateV at HC HC2
  obtain ⟨y0, y1, m0, m1, d0, d1⟩ := hA.1
  obtain ⟨y2, y3, m2, m3, d2, d3⟩ := hB.1
  have d4 := len_hi ya ma
  have d5 := len_hi yb mb
  have d6 : da ≤ 31 := by omega
  have d7 : db ≤ 31 := by omega
  clear hA hB d1 d3 d4 d5
  obtain ⟨R, hR⟩ : ∃ R, thirI kind ya ma da yb mb db = R := ⟨_, rfl⟩
  rw [hR]
  have HR := hideS hR
  clear hR
  have hcase : ∃ d f, ((da ≤ 30 ∧ d = da) ∨ (30 < da ∧ d = 30)) ∧ (((kind = 5 ∨ (kind ≠ 5 ∧ d = 30)) ∧ ((db ≤ 30 ∧ f = db) ∨ (30 < db ∧ f = 30))) ∨ ((kind ≠ 5 ∧ d ≠ 30) ∧ f = db)) ∧ 360 * (yb - ya) + 30 * (mb - ma) + f - d = R := by
    have h1 := HR.out
    unfold thirI at h1
    refine ⟨min da 30, if kind = 5 ∨ min da 30 = 30 then min db 30 else db, by omega, ?_, h1⟩
    by_cases hk : kind = 5 ∨ min da 30 = 30
    · rw [if_pos hk]
      exact Or.inl ⟨by omega, by omega⟩
    · rw [if_neg hk]
      exact Or.inr ⟨by omega, rfl⟩
  obtain ⟨d, f, hd, hf, he⟩ := hcase
  have HE := hideS he
  clear he HR
  rcases hd with ⟨q1, rfl⟩ | ⟨q1, rfl⟩ <;> rcases hf with ⟨rfl | ⟨hk, hk2⟩, ⟨q2, rfl⟩ | ⟨q2, rfl⟩⟩ | ⟨⟨hk, hk2⟩, rfl⟩
  all_goals try (exfalso; omega)
  all_goals
    try (have hk5 : (kind == 5) = false := beq_eq_false_iff_ne.2 hk)
    try subst hk2
    go_enter Tryz.func69, Tryz.ntmps69
    go_wp2_with fail
    refine (HC.out _).mono ?_
    rintro e w1 ⟨rfl, hb1⟩
    have HB1 := hideS hb1
    clear hb1
    go_wp2_with fail
    refine (HC2.out _).mono ?_
    rintro e w2 ⟨rfl, hb2⟩
    obtain ⟨c0, c1, c2, HB2⟩ := two_dates (t := 180) HB1.out hb2
    clear hb2
    go_wp2_with fail
    go_ret
    refine ⟨retI (Eq.trans ?_ HE.out), HB2.out _⟩
    omega
end Go.Proofs.YtpcgbcdldkmibaaGreat
namespace Go.Proofs.YtpcgbcdldkmibaaGreat
open Go.RowKit

end Go.Proofs.YtpcgbcdldkmibaaGreat
namespace Go.Proofs.YtpcgbcdldkmibaaGreat
open Go.RowKit

noncomputable def moD (n : Int) : Int := moI n - 12 * yrI n
noncomputable def daD (n : Int) : Int := n - nyI (yrI n) - cumI (yrI n) (moD n) + 1
theorem date_of {n y m d : Int} (h : IsD n y m d) : yrI n = y ∧ moD n = m ∧ daD n = d := by
  have e1 := yr_eq h
  have e2 : moD n = m := by unfold moD; rw [mo_eq h, e1]; omega
  refine ⟨e1, e2, ?_⟩
  unfold daD
  rw [e1, e2]
  have := h.2
  unfold dayI at this
  omega
noncomputable def fracP (op : Int → Bool) (kind a b : Int) : Int :=
  if kind = 1 ∨ kind = 2 then b - a else if kind = 3 then accI (yrI b) b - accI (yrI a) a else if kind = 6 then (cntN op a (b - a).toNat : Nat) else thirI kind (yrI a) (moD a) (daD a) (yrI b) (moD b) (daD b)
def fracQ (kind : Int) : Int := if kind = 2 then 365 else if kind = 3 then 133590 else if kind = 6 then 252 else 360

structure PBoxN (w : World) (W : Int) (v : Value) (wr : World) : Prop where
  a0 : wr.cell? ⟨w.heap.size, 0, none⟩ = some (.int .i64 W)
  a1 : wr.cell? ⟨w.heap.size, 1, none⟩ = some v
  d0 : wr.cell? ⟨w.heap.size + 1, 0, none⟩ = some (.int .i64 0)
  d1 : wr.cell? ⟨w.heap.size + 1, 1, none⟩ = some (.int .i64 0)
  f0 : wr.frozen? ⟨w.heap.size + 1, 0, none⟩ = false
  f1 : wr.frozen? ⟨w.heap.size + 1, 1, none⟩ = false
  bl : Below w.heap.size w wr
  sz : w.heap.size + 2 ≤ wr.heap.size
theorem PBoxN.first (w : World) (W : Int) (v : Value) : PBoxN w W v ((w.alloc (.cells #[.int .i64 W, v] 25)).alloc (.cells #[.int .i64 0, .int .i64 0] 86)) := by
  have fr : ∀ k, ((w.alloc (.cells #[.int .i64 W, v] 25)).alloc (.cells #[.int .i64 0, .int .i64 0] 86)).frozen? ⟨w.heap.size + 1, k, none⟩ = false := fun k => by
    rw [show w.heap.size + 1 = (w.alloc (.cells #[.int .i64 W, v] 25)).heap.size by simp]
    exact World.frozen?_alloc_new _ _ _ _
  exact ⟨by rw [old_cell _ _ (by simp)]; simp, by rw [old_cell _ _ (by simp)]; simp, new_cell _ _ 0 (by simp), new_cell _ _ 1 (by simp), fr 0, fr 1, ((Below.refl w.heap.size w).alloc (Nat.le_refl _) _).alloc (by simp) _, by simp⟩
theorem PBoxN.step {w wr w' : World} {W : Int} {v : Value} (h : PBoxN w W v wr) (hb : Below wr.heap.size wr w') : PBoxN w W v w' := by
  have hz := h.sz
  have c : ∀ k < w.heap.size + 2, ∀ j, w'.cell? ⟨k, j, none⟩ = wr.cell? ⟨k, j, none⟩ := fun k hk j => hb.cell (p := ⟨k, j, none⟩) (by show k < _; omega)
  have f : ∀ k < w.heap.size + 2, ∀ j, w'.frozen? ⟨k, j, none⟩ = wr.frozen? ⟨k, j, none⟩ := fun k hk j => hb.frozen (p := ⟨k, j, none⟩) (by show k < _; omega)
  exact ⟨(c _ (by omega) _).trans h.a0, (c _ (by omega) _).trans h.a1, (c _ (by omega) _).trans h.d0, (c _ (by omega) _).trans h.d1, (f _ (by omega) _).trans h.f0, (f _ (by omega) _).trans h.f1, h.bl.trans (hb.mono h.bl.size), Nat.le_trans h.sz hb.size⟩
theorem put2P {w : World} {b : Nat} {x y u v : Value} (d0 : w.cell? ⟨b, 0, none⟩ = some u) (d1 : w.cell? ⟨b, 1, none⟩ = some v) :
    ((w.setCell ⟨b, 0, none⟩ x).setCell ⟨b, 1, none⟩ y).cell? ⟨b, 0, none⟩ = some x ∧ ((w.setCell ⟨b, 0, none⟩ x).setCell ⟨b, 1, none⟩ y).cell? ⟨b, 1, none⟩ = some y := by
  constructor
  · simp [d0, go_sem]
  · simp [d1, go_sem]
theorem put2P_below {w w1 : World} {x y : Value} (h : Below w.heap.size w w1) : Below w.heap.size w ((w1.setCell ⟨w.heap.size + 1, 0, none⟩ x).setCell ⟨w.heap.size + 1, 1, none⟩ y) :=
  (h.setCell (p := ⟨w.heap.size + 1, 0, none⟩) (by show w.heap.size ≤ w.heap.size + 1; omega) x).setCell (p := ⟨w.heap.size + 1, 1, none⟩) (by show w.heap.size ≤ w.heap.size + 1; omega) y

theorem frac_ret0 {w : World} {W x y : Int} {v : Value} : ((w.alloc (.cells #[.int .i64 W, v] 25)).alloc (.cells #[.int .i64 x, .int .i64 y] 86)).cell? ⟨w.heap.size + 1, 0, none⟩ = some (.int .i64 x) ∧ ((w.alloc (.cells #[.int .i64 W, v] 25)).alloc (.cells #[.int .i64 x, .int .i64 y] 86)).cell? ⟨w.heap.size + 1, 1, none⟩ = some (.int .i64 y) ∧ Below w.heap.size w ((w.alloc (.cells #[.int .i64 W, v] 25)).alloc (.cells #[.int .i64 x, .int .i64 y] 86)) :=
  ⟨new_cell _ _ 0 (by simp), new_cell _ _ 1 (by simp), ((Below.refl w.heap.size w).alloc (Nat.le_refl _) _).alloc (by simp) _⟩

set_option maxHeartbeats 1600000 in
theorem refFrac_plain (kind W a b : Int) (v : Value) (w : World) (hk : kind = 1 ∨ kind = 2) (ha : isDayP a) (hb : isDayP b) (hab : a ≤ b) :
    Calls Tryz.prog 37 #[.int .i64 kind, .agg #[.int .i64 W, v], .int .i64 a, .int .i64 b] w fun e w' => e = .returned (.tuple #[.agg #[.int .i64 (b - a), .int .i64 (fracQ kind)], .int .i64 0]) ∧ Below w.heap.size w w' := by
  obtain ⟨a0, a1⟩ := ha
  obtain ⟨b0, b1⟩ := hb
  rcases hk with rfl | rfl
  · obtain ⟨x0, x1, hB⟩ := frac_ret0 (w := w) (W := W) (x := b - a) (y := 360) (v := v)
    have HX := hideS (And.intro x0 x1)
    have HB := hideS hB
    clear x0 x1 hB
    go_enter Tryz.func37, Tryz.ntmps37
    go_wp2_with fail
    obtain ⟨x0, x1⟩ := HX.out
    exact bodyPost_ret (v := .tuple #[.agg #[.int .i64 (b - a), .int .i64 360], .int .i64 0]) (by simp [results, Tryz.results37, go_sem, x0, x1]) rfl ⟨rfl, HB.out⟩
  · obtain ⟨x0, x1, hB⟩ := frac_ret0 (w := w) (W := W) (x := b - a) (y := 365) (v := v)
    have HX := hideS (And.intro x0 x1)
    have HB := hideS hB
    clear x0 x1 hB
    go_enter Tryz.func37, Tryz.ntmps37
    go_wp2_with fail
    obtain ⟨x0, x1⟩ := HX.out
    exact bodyPost_ret (v := .tuple #[.agg #[.int .i64 (b - a), .int .i64 365], .int .i64 0]) (by simp [results, Tryz.results37, go_sem, x0, x1]) rfl ⟨rfl, HB.out⟩

set_option maxHeartbeats 1600000 in
theorem refFrac_call (kind W a b : Int) (v : Value) (w : World) (hk : kind = 3 ∨ kind = 4 ∨ kind = 5) (ha : isDayP a) (hb : isDayP b) (hab : a ≤ b) (op : Int → Bool) :
    Calls Tryz.prog 37 #[.int .i64 kind, .agg #[.int .i64 W, v], .int .i64 a, .int .i64 b] w fun e w' => e = .returned (.tuple #[.agg #[.int .i64 (fracP op kind a b), .int .i64 (fracQ kind)], .int .i64 0]) ∧ Below w.heap.size w w' := by
  obtain ⟨ya, ma, da, hA⟩ := isD_ex ha.1 ha.2
  obtain ⟨yb, mb, db, hB⟩ := isD_ex hb.1 hb.2
  obtain ⟨e1, e2, e3⟩ := date_of hA
  obtain ⟨f1, f2, f3⟩ := date_of hB
  have HAc := hideS (fun wx => refActual_any a b ya ma da yb mb db wx hA hB hab)
  have HTh := hideS (fun wx => refThirty_any kind a b ya ma da yb mb db wx hA hB)
  obtain ⟨a0, a1⟩ := ha
  obtain ⟨b0, b1⟩ := hb
  have HB0 := hideS (PBoxN.first w W v)
  unfold fracP fracQ
  rw [e1, e2, e3, f1, f2, f3]
  clear hA hB e1 e2 e3 f1 f2 f3
  rcases hk with rfl | rfl | rfl
  · rw [if_neg (by omega), if_pos rfl, if_neg (by omega), if_pos rfl]
    generalize accI yb b - accI ya a = P at *
    go_enter Tryz.func37, Tryz.ntmps37
    go_wp2_with fail
    refine (HAc.out _).mono ?_
    rintro e w1 ⟨rfl, hb1⟩
    have HB1 := hideS (HB0.out.step hb1)
    clear hb1
    obtain ⟨_, _, d0, d1, f0, f1, _, _⟩ := HB1.out
    go_wp2_with fail
    obtain ⟨x0, x1⟩ := put2P (x := .int .i64 P) (y := .int .i64 133590) d0 d1
    exact bodyPost_ret (v := .tuple #[.agg #[.int .i64 P, .int .i64 133590], .int .i64 0]) (by simp [results, Tryz.results37, go_sem, x0, x1]) rfl ⟨rfl, put2P_below HB1.out.bl⟩
  · rw [if_neg (by omega), if_neg (by omega), if_neg (by omega), if_neg (by omega), if_neg (by omega), if_neg (by omega)]
    generalize thirI 4 ya ma da yb mb db = P at *
    go_enter Tryz.func37, Tryz.ntmps37
    go_wp2_with fail
    refine (HTh.out _).mono ?_
    rintro e w1 ⟨rfl, hb1⟩
    have HB1 := hideS (HB0.out.step hb1)
    clear hb1
    obtain ⟨_, _, d0, d1, f0, f1, _, _⟩ := HB1.out
    go_wp2_with fail
    obtain ⟨x0, x1⟩ := put2P (x := .int .i64 P) (y := .int .i64 360) d0 d1
    exact bodyPost_ret (v := .tuple #[.agg #[.int .i64 P, .int .i64 360], .int .i64 0]) (by simp [results, Tryz.results37, go_sem, x0, x1]) rfl ⟨rfl, put2P_below HB1.out.bl⟩
  · rw [if_neg (by omega), if_neg (by omega), if_neg (by omega), if_neg (by omega), if_neg (by omega), if_neg (by omega)]
    generalize thirI 5 ya ma da yb mb db = P at *
    go_enter Tryz.func37, Tryz.ntmps37
    go_wp2_with fail
    refine (HTh.out _).mono ?_
    rintro e w1 ⟨rfl, hb1⟩
    have HB1 := hideS (HB0.out.step hb1)
    clear hb1
    obtain ⟨_, _, d0, d1, f0, f1, _, _⟩ := HB1.out
    go_wp2_with fail
    obtain ⟨x0, x1⟩ := put2P (x := .int .i64 P) (y := .int .i64 360) d0 d1
    exact bodyPost_ret (v := .tuple #[.agg #[.int .i64 P, .int .i64 360], .int .i64 0]) (by simp [results, Tryz.results37, go_sem, x0, x1]) rfl ⟨rfl, put2P_below HB1.out.bl⟩

set_option maxHeartbeats 1600000 in
theorem refFrac_open (W a b : Int) (p : Option Addr) (bb off c : Nat) (rs : List Rul) (w : World) (h : OkC W rs) (hs : RSrc w p bb off rs) (ha : isDayP a) (hb : isDayP b) (hab : a ≤ b) :
    Calls Tryz.prog 37 #[.int .i64 6, .agg #[.int .i64 W, .slice p rs.length c], .int .i64 a, .int .i64 b] w fun e w' => e = .returned (.tuple #[.agg #[.int .i64 (fracP (opB W rs) 6 a b), .int .i64 (fracQ 6)], .int .i64 0]) ∧ Below w.heap.size w w' := by
  have HC : Hid (∀ wx, Below w.heap.size w wx → Calls Tryz.prog 66 #[.agg #[.int .i64 W, .slice p rs.length c]] wx fun e w' => e = .returned (.tuple #[.int .i64 0, .int .i64 0]) ∧ Below wx.heap.size wx w') := fun wx hbx => refCheck_any W p bb off c rs 0 0 wx (.ok h) (hs.below hbx) (by have := h.len; omega)
  have HCt : Hid (∀ wx, Below w.heap.size w wx → Calls Tryz.prog 68 #[.agg #[.int .i64 W, .slice p rs.length c], .int .i64 a, .int .i64 b] wx fun e w' => e = .returned (.tuple #[.int .i64 (cntN (opB W rs) a (b - a).toNat : Nat), .int .i64 0]) ∧ Below wx.heap.size wx w') := fun wx hbx => refCount_up W a b p bb off c rs wx h (hs.below hbx) ha hb hab
  obtain ⟨a0, a1⟩ := ha
  obtain ⟨b0, b1⟩ := hb
  clear h hs
  unfold fracP fracQ
  rw [if_neg (by omega), if_neg (by omega), if_pos rfl, if_neg (by omega), if_neg (by omega), if_pos rfl]
  generalize ((cntN (opB W rs) a (b - a).toNat : Nat) : Int) = P at *
  generalize rs.length = N at *
  have HB0 := hideS (PBoxN.first w W (.slice p N c))
  go_enter Tryz.func37, Tryz.ntmps37
  go_wp2_with fail
  refine (HC.out _ HB0.out.bl).mono ?_
  rintro e w1 ⟨rfl, hb1⟩
  have HB1 := hideS (HB0.out.step hb1)
  clear hb1
  have g0 := HB1.out.a0
  have g1 := HB1.out.a1
  go_wp2_with fail
  refine (HCt.out _ HB1.out.bl).mono ?_
  rintro e w2 ⟨rfl, hb2⟩
  have HB2 := hideS (HB1.out.step hb2)
  clear hb2 g0 g1
  obtain ⟨_, _, d0, d1, f0, f1, _, _⟩ := HB2.out
  go_wp2_with fail
  obtain ⟨x0, x1⟩ := put2P (x := .int .i64 P) (y := .int .i64 252) d0 d1
  exact bodyPost_ret (v := .tuple #[.agg #[.int .i64 P, .int .i64 252], .int .i64 0]) (by simp [results, Tryz.results37, go_sem, x0, x1]) rfl ⟨rfl, put2P_below HB2.out.bl⟩
end Go.Proofs.YtpcgbcdldkmibaaGreat
namespace Go.Proofs.YtpcgbcdldkmibaaGreat
open Go.RowKit

set_option maxHeartbeats 1600000 in
theorem refFrac_kind (kind W a b : Int) (v : Value) (w : World) (hk : ¬ (1 ≤ kind ∧ kind ≤ 6)) :
    Calls Tryz.prog 37 #[.int .i64 kind, .agg #[.int .i64 W, v], .int .i64 a, .int .i64 b] w fun e w' => e = .returned (.tuple #[.agg #[.int .i64 0, .int .i64 0], .int .i64 70]) ∧ Below w.heap.size w w' := by
  obtain ⟨x0, x1, hB⟩ := frac_ret0 (w := w) (W := W) (x := 0) (y := 0) (v := v)
  have HX := hideS (And.intro x0 x1)
  have HB := hideS hB
  clear x0 x1 hB
  by_cases h1 : kind < 1
  · clear hk
    go_enter Tryz.func37, Tryz.ntmps37
    go_wp2_with fail
    obtain ⟨x0, x1⟩ := HX.out
    exact bodyPost_ret (v := .tuple #[.agg #[.int .i64 0, .int .i64 0], .int .i64 70]) (by simp [results, Tryz.results37, go_sem, x0, x1]) rfl ⟨rfl, HB.out⟩
  · have h2 : 6 < kind := by omega
    clear hk
    go_enter Tryz.func37, Tryz.ntmps37
    go_wp2_with fail
    obtain ⟨x0, x1⟩ := HX.out
    exact bodyPost_ret (v := .tuple #[.agg #[.int .i64 0, .int .i64 0], .int .i64 70]) (by simp [results, Tryz.results37, go_sem, x0, x1]) rfl ⟨rfl, HB.out⟩

set_option maxHeartbeats 1600000 in
theorem refFrac_chk (W a b A B : Int) (p : Option Addr) (bb off c : Nat) (rs : List Rul) (w : World) (h : ChkR W rs A B) (hA : A ≠ 0) (hs : RSrc w p bb off rs) (hl : rs.length ≤ 1000000) :
    Calls Tryz.prog 37 #[.int .i64 6, .agg #[.int .i64 W, .slice p rs.length c], .int .i64 a, .int .i64 b] w fun e w' => e = .returned (.tuple #[.agg #[.int .i64 0, .int .i64 0], .int .i64 A]) ∧ Below w.heap.size w w' := by
  have HC : Hid (∀ wx, Below w.heap.size w wx → Calls Tryz.prog 66 #[.agg #[.int .i64 W, .slice p rs.length c]] wx fun e w' => e = .returned (.tuple #[.int .i64 A, .int .i64 B]) ∧ Below wx.heap.size wx w') := fun wx hbx => refCheck_any W p bb off c rs A B wx h (hs.below hbx) hl
  have hA' : A = 2 ∨ A = 60 := by cases h <;> simp_all
  clear h hs hl
  generalize rs.length = N at *
  have HB0 := hideS (PBoxN.first w W (.slice p N c))
  have ha0 : 0 < A := by omega
  have ha1 : A ≤ 100 := by omega
  clear hA'
  go_enter Tryz.func37, Tryz.ntmps37
  go_wp2_with fail
  refine (HC.out _ HB0.out.bl).mono ?_
  rintro e w1 ⟨rfl, hb1⟩
  have HB1 := hideS (HB0.out.step hb1)
  clear hb1
  obtain ⟨_, _, d0, d1, f0, f1, _, _⟩ := HB1.out
  go_wp2_with fail
  obtain ⟨x0, x1⟩ := put2P (x := .int .i64 0) (y := .int .i64 0) d0 d1
  exact bodyPost_ret (v := .tuple #[.agg #[.int .i64 0, .int .i64 0], .int .i64 A]) (by simp [results, Tryz.results37, go_sem, x0, x1]) rfl ⟨rfl, put2P_below HB1.out.bl⟩

def badD (a b : Int) : Prop := ¬ (isDayP a ∧ isDayP b)
theorem badD_cases {a b : Int} (h : badD a b) : a < 0 ∨ (0 ≤ a ∧ 109572 < a) ∨ (0 ≤ a ∧ a ≤ 109572 ∧ b < 0) ∨ (0 ≤ a ∧ a ≤ 109572 ∧ 0 ≤ b ∧ 109572 < b) := by
  unfold badD isDayP at h
  omega
set_option maxHeartbeats 3200000 in
theorem refFrac_day (kind W a b : Int) (v : Value) (w : World) (hk : 1 ≤ kind) (hk' : kind ≤ 5) (h : badD a b) :
    Calls Tryz.prog 37 #[.int .i64 kind, .agg #[.int .i64 W, v], .int .i64 a, .int .i64 b] w fun e w' => e = .returned (.tuple #[.agg #[.int .i64 0, .int .i64 0], .int .i64 51]) ∧ Below w.heap.size w w' := by
  obtain ⟨x0, x1, hB⟩ := frac_ret0 (w := w) (W := W) (x := 0) (y := 0) (v := v)
  have HX := hideS (And.intro x0 x1)
  have HB := hideS hB
  clear x0 x1 hB
  rcases badD_cases h with h1 | ⟨h0, h1⟩ | ⟨h0, h1, h2⟩ | ⟨h0, h1, h2, h3⟩
  all_goals
    clear h
    go_enter Tryz.func37, Tryz.ntmps37
    go_wp2_with fail
    obtain ⟨x0, x1⟩ := HX.out
    exact bodyPost_ret (v := .tuple #[.agg #[.int .i64 0, .int .i64 0], .int .i64 51]) (by simp [results, Tryz.results37, go_sem, x0, x1]) rfl ⟨rfl, HB.out⟩
set_option maxHeartbeats 3200000 in
theorem refFrac_day6 (W a b : Int) (p : Option Addr) (bb off c : Nat) (rs : List Rul) (w : World) (h : OkC W rs) (hs : RSrc w p bb off rs) (hd : badD a b) :
    Calls Tryz.prog 37 #[.int .i64 6, .agg #[.int .i64 W, .slice p rs.length c], .int .i64 a, .int .i64 b] w fun e w' => e = .returned (.tuple #[.agg #[.int .i64 0, .int .i64 0], .int .i64 51]) ∧ Below w.heap.size w w' := by
  have HC : Hid (∀ wx, Below w.heap.size w wx → Calls Tryz.prog 66 #[.agg #[.int .i64 W, .slice p rs.length c]] wx fun e w' => e = .returned (.tuple #[.int .i64 0, .int .i64 0]) ∧ Below wx.heap.size wx w') := fun wx hbx => refCheck_any W p bb off c rs 0 0 wx (.ok h) (hs.below hbx) (by have := h.len; omega)
  clear h hs
  generalize rs.length = N at *
  have HB0 := hideS (PBoxN.first w W (.slice p N c))
  rcases badD_cases hd with h1 | ⟨h0, h1⟩ | ⟨h0, h1, h2⟩ | ⟨h0, h1, h2, h3⟩
  all_goals
    clear hd
    go_enter Tryz.func37, Tryz.ntmps37
    go_wp2_with fail
    refine (HC.out _ HB0.out.bl).mono ?_
    rintro e w1 ⟨rfl, hb1⟩
    have HB1 := hideS (HB0.out.step hb1)
    clear hb1
    obtain ⟨_, _, d0, d1, f0, f1, _, _⟩ := HB1.out
    go_wp2_with fail
    obtain ⟨x0, x1⟩ := put2P (x := .int .i64 0) (y := .int .i64 0) d0 d1
    exact bodyPost_ret (v := .tuple #[.agg #[.int .i64 0, .int .i64 0], .int .i64 51]) (by simp [results, Tryz.results37, go_sem, x0, x1]) rfl ⟨rfl, put2P_below HB1.out.bl⟩
end Go.Proofs.YtpcgbcdldkmibaaGreat
namespace Go.Proofs.YtpcgbcdldkmibaaGreat
open Go.RowKit

set_option maxHeartbeats 1600000 in
theorem refFrac_turn (kind W a b P Q : Int) (v : Value) (w : World) (hk : 1 ≤ kind) (hk' : kind ≤ 5) (ha : isDayP a) (hb : isDayP b) (hab : b < a) (hP : -1000000000 ≤ P) (hP' : P ≤ 1000000000)
    (HF : Hid (∀ wx, Below w.heap.size w wx → Calls Tryz.prog 37 #[.int .i64 kind, .agg #[.int .i64 W, v], .int .i64 b, .int .i64 a] wx fun e w' => e = .returned (.tuple #[.agg #[.int .i64 P, .int .i64 Q], .int .i64 0]) ∧ Below wx.heap.size wx w')) :
    Calls Tryz.prog 37 #[.int .i64 kind, .agg #[.int .i64 W, v], .int .i64 a, .int .i64 b] w fun e w' => e = .returned (.tuple #[.agg #[.int .i64 (-P), .int .i64 Q], .int .i64 0]) ∧ Below w.heap.size w w' := by
  obtain ⟨a0, a1⟩ := ha
  obtain ⟨b0, b1⟩ := hb
  have HB0 := hideS (PBoxN.first w W v)
  go_enter Tryz.func37, Tryz.ntmps37
  go_wp2_with fail
  refine (HF.out _ HB0.out.bl).mono ?_
  rintro e w1 ⟨rfl, hb1⟩
  have HB1 := hideS (HB0.out.step hb1)
  clear hb1
  have HB2 := hideS (HB1.out.step ((Below.refl w1.heap.size w1).alloc (Nat.le_refl _) (.cells #[.int .i64 P, .int .i64 Q] 86)))
  obtain ⟨_, _, d0, d1, f0, f1, _, _⟩ := HB2.out
  go_wp2_with fail
  obtain ⟨x0, x1⟩ := put2P (x := .int .i64 (-P)) (y := .int .i64 Q) d0 d1
  exact bodyPost_ret (v := .tuple #[.agg #[.int .i64 (-P), .int .i64 Q], .int .i64 0]) (by simp [results, Tryz.results37, go_sem, x0, x1]) rfl ⟨rfl, put2P_below HB2.out.bl⟩

set_option maxHeartbeats 1600000 in
theorem refFrac_turn6 (W a b P Q : Int) (p : Option Addr) (bb off c : Nat) (rs : List Rul) (w : World) (h : OkC W rs) (hs : RSrc w p bb off rs) (ha : isDayP a) (hb : isDayP b) (hab : b < a) (hP : -1000000000 ≤ P) (hP' : P ≤ 1000000000)
    (HF : Hid (∀ wx, Below w.heap.size w wx → Calls Tryz.prog 37 #[.int .i64 6, .agg #[.int .i64 W, .slice p rs.length c], .int .i64 b, .int .i64 a] wx fun e w' => e = .returned (.tuple #[.agg #[.int .i64 P, .int .i64 Q], .int .i64 0]) ∧ Below wx.heap.size wx w')) :
    Calls Tryz.prog 37 #[.int .i64 6, .agg #[.int .i64 W, .slice p rs.length c], .int .i64 a, .int .i64 b] w fun e w' => e = .returned (.tuple #[.agg #[.int .i64 (-P), .int .i64 Q], .int .i64 0]) ∧ Below w.heap.size w w' := by
  have HC : Hid (∀ wx, Below w.heap.size w wx → Calls Tryz.prog 66 #[.agg #[.int .i64 W, .slice p rs.length c]] wx fun e w' => e = .returned (.tuple #[.int .i64 0, .int .i64 0]) ∧ Below wx.heap.size wx w') := fun wx hbx => refCheck_any W p bb off c rs 0 0 wx (.ok h) (hs.below hbx) (by have := h.len; omega)
  obtain ⟨a0, a1⟩ := ha
  obtain ⟨b0, b1⟩ := hb
  clear h hs
  generalize rs.length = N at *
  have HB0 := hideS (PBoxN.first w W (.slice p N c))
  go_enter Tryz.func37, Tryz.ntmps37
  go_wp2_with fail
  refine (HC.out _ HB0.out.bl).mono ?_
  rintro e w0 ⟨rfl, hb0⟩
  have HB0' := hideS (HB0.out.step hb0)
  clear hb0
  have g0 := HB0'.out.a0
  have g1 := HB0'.out.a1
  go_wp2_with fail
  refine (HF.out _ HB0'.out.bl).mono ?_
  rintro e w1 ⟨rfl, hb1⟩
  have HB1 := hideS (HB0'.out.step hb1)
  clear hb1 g0 g1
  have HB2 := hideS (HB1.out.step ((Below.refl w1.heap.size w1).alloc (Nat.le_refl _) (.cells #[.int .i64 P, .int .i64 Q] 86)))
  obtain ⟨_, _, d0, d1, f0, f1, _, _⟩ := HB2.out
  go_wp2_with fail
  obtain ⟨x0, x1⟩ := put2P (x := .int .i64 (-P)) (y := .int .i64 Q) d0 d1
  exact bodyPost_ret (v := .tuple #[.agg #[.int .i64 (-P), .int .i64 Q], .int .i64 0]) (by simp [results, Tryz.results37, go_sem, x0, x1]) rfl ⟨rfl, put2P_below HB2.out.bl⟩
end Go.Proofs.YtpcgbcdldkmibaaGreat
namespace Go.Proofs.YtpcgbcdldkmibaaGreat
open Go.RowKit

theorem fracP_bd (op : Int → Bool) {kind a b : Int} (ha : isDayP a) (hb : isDayP b) (hab : a ≤ b) : -1000000000 ≤ fracP op kind a b ∧ fracP op kind a b ≤ 1000000000 := by
  obtain ⟨ya, ma, da, hA⟩ := isD_ex ha.1 ha.2
  obtain ⟨yb, mb, db, hB⟩ := isD_ex hb.1 hb.2
  obtain ⟨e1, e2, e3⟩ := date_of hA
  obtain ⟨f1, f2, f3⟩ := date_of hB
  unfold fracP
  rw [e1, e2, e3, f1, f2, f3]
  have ra := hA.year
  have rb := hB.year
  obtain ⟨⟨a1, a2, a3, a4, a5, a6⟩, _⟩ := hA
  obtain ⟨⟨b1, b2, b3, b4, b5, b6⟩, _⟩ := hB
  have la := len_hi ya ma
  have lb := len_hi yb mb
  have c := cnt_le op a (b - a).toNat
  have xa := acc_bd (y := ya) (n := a) a1 (by omega) ra.1 (by omega)
  have xb := acc_bd (y := yb) (n := b) b1 (by omega) rb.1 (by omega)
  obtain ⟨a7, a8⟩ := ha
  obtain ⟨b7, b8⟩ := hb
  split
  · omega
  · split
    · omega
    · split
      · omega
      · unfold thirI
        split <;> omega
noncomputable def fracS (op : Int → Bool) (kind a b : Int) : Int := if b < a then -fracP op kind b a else fracP op kind a b
theorem fracS_bd (op : Int → Bool) {kind a b : Int} (ha : isDayP a) (hb : isDayP b) : -1000000000 ≤ fracS op kind a b ∧ fracS op kind a b ≤ 1000000000 := by
  unfold fracS
  split
  · have := fracP_bd op (kind := kind) hb ha (by omega); omega
  · exact fracP_bd op ha hb (by omega)
theorem refFrac_le (op : Int → Bool) (kind W a b : Int) (v : Value) (w : World) (hk : 1 ≤ kind) (hk' : kind ≤ 5) (ha : isDayP a) (hb : isDayP b) (hab : a ≤ b) :
    Calls Tryz.prog 37 #[.int .i64 kind, .agg #[.int .i64 W, v], .int .i64 a, .int .i64 b] w fun e w' => e = .returned (.tuple #[.agg #[.int .i64 (fracP op kind a b), .int .i64 (fracQ kind)], .int .i64 0]) ∧ Below w.heap.size w w' := by
  by_cases h : kind = 1 ∨ kind = 2
  · have := refFrac_plain kind W a b v w h ha hb hab
    unfold fracP
    rw [if_pos h]
    exact this
  · exact refFrac_call kind W a b v w (by omega) ha hb hab op
theorem refFrac_ok (op : Int → Bool) (kind W a b : Int) (v : Value) (w : World) (hk : 1 ≤ kind) (hk' : kind ≤ 5) (ha : isDayP a) (hb : isDayP b) :
    Calls Tryz.prog 37 #[.int .i64 kind, .agg #[.int .i64 W, v], .int .i64 a, .int .i64 b] w fun e w' => e = .returned (.tuple #[.agg #[.int .i64 (fracS op kind a b), .int .i64 (fracQ kind)], .int .i64 0]) ∧ Below w.heap.size w w' := by
  unfold fracS
  by_cases h : b < a
  · rw [if_pos h]
    have hP := fracP_bd op (kind := kind) hb ha (by omega)
    exact refFrac_turn kind W a b _ _ v w hk hk' ha hb h hP.1 hP.2 (fun wx _ => refFrac_le op kind W b a v wx hk hk' hb ha (by omega))
  · rw [if_neg h]
    exact refFrac_le op kind W a b v w hk hk' ha hb (by omega)
theorem refFrac_six (W a b : Int) (p : Option Addr) (bb off c : Nat) (rs : List Rul) (w : World) (h : OkC W rs) (hs : RSrc w p bb off rs) (ha : isDayP a) (hb : isDayP b) :
    Calls Tryz.prog 37 #[.int .i64 6, .agg #[.int .i64 W, .slice p rs.length c], .int .i64 a, .int .i64 b] w fun e w' => e = .returned (.tuple #[.agg #[.int .i64 (fracS (opB W rs) 6 a b), .int .i64 (fracQ 6)], .int .i64 0]) ∧ Below w.heap.size w w' := by
  unfold fracS
  by_cases hl : b < a
  · rw [if_pos hl]
    have hP := fracP_bd (opB W rs) (kind := 6) hb ha (by omega)
    exact refFrac_turn6 W a b _ _ p bb off c rs w h hs ha hb hl hP.1 hP.2 (fun wx hbx => refFrac_open W b a p bb off c rs wx h (hs.below hbx) hb ha (by omega))
  · rw [if_neg hl]
    exact refFrac_open W a b p bb off c rs w h hs ha hb (by omega)
end Go.Proofs.YtpcgbcdldkmibaaGreat
namespace Go.Proofs.YtpcgbcdldkmibaaGreat
open Go.RowKit

theorem year_box {w w1 : World} {P Q : Int} {t : TypeId} (h : Below w.heap.size w w1) :
    (w1.alloc (.cells #[.int .i64 P, .int .i64 Q] t)).cell? ⟨w1.heap.size, 0, none⟩ = some (.int .i64 P) ∧ (w1.alloc (.cells #[.int .i64 P, .int .i64 Q] t)).cell? ⟨w1.heap.size, 1, none⟩ = some (.int .i64 Q) ∧ Below w.heap.size w (w1.alloc (.cells #[.int .i64 P, .int .i64 Q] t)) :=
  ⟨by simp, by simp, h.alloc h.size _⟩

set_option maxHeartbeats 1600000 in
theorem refYear_bad (kind W a b A : Int) (v : Value) (w : World) (hA : 0 < A) (hA' : A ≤ 100)
    (HF : Hid (∀ wx, Below w.heap.size w wx → Calls Tryz.prog 37 #[.int .i64 kind, .agg #[.int .i64 W, v], .int .i64 a, .int .i64 b] wx fun e w' => e = .returned (.tuple #[.agg #[.int .i64 0, .int .i64 0], .int .i64 A]) ∧ Below wx.heap.size wx w')) :
    Calls Tryz.prog 21 #[.int .i64 kind, .agg #[.int .i64 W, v], .int .i64 a, .int .i64 b] w fun e w' => e = .returned (.tuple #[.int .u64 0, .int .i64 A]) ∧ Below w.heap.size w w' := by
  have HB0 : Hid (Below w.heap.size w (w.alloc (.cells #[.int .i64 W, v] 25))) := (Below.refl w.heap.size w).alloc (Nat.le_refl _) _
  go_enter Tryz.func21, Tryz.ntmps21
  go_wp2_with fail
  refine (HF.out _ HB0.out).mono ?_
  rintro e w1 ⟨rfl, hb1⟩
  have HB1 := hideS (HB0.out.trans (hb1.mono (by simp)))
  clear hb1
  have HX := hideS (year_box (P := 0) (Q := 0) (t := 86) HB1.out)
  go_wp2_with fail
  exact bodyPost_ret (v := .tuple #[.int .u64 0, .int .i64 A]) (by simp [results, Tryz.results21, go_sem]) rfl ⟨rfl, HX.out.2.2⟩
end Go.Proofs.YtpcgbcdldkmibaaGreat
namespace Go.Proofs.YtpcgbcdldkmibaaGreat
open Go.RowKit

end Go.Proofs.YtpcgbcdldkmibaaGreat
