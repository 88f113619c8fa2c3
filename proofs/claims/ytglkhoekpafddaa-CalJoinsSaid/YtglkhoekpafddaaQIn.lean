/- The contracts of the program's rules: their days in a year, ahead of the moving. -/
import Derived.Test.YtglkhoekpafddaaQPlain
import Derived.Test.YtglkhoekpafddaaQMay
import Derived.Test.YtglkhoekpafddaaDNamed
import Derived.BigQuiet
namespace Go.Proofs.Ytglkhoekpafddaa
open Go.RowKit

theorem giv1_ok {mon day nth wd off fr to mv y : Int} (ho : okD y mon day) (hr : fr ≤ y ∧ y ≤ to) : givO ⟨1, mon, day, nth, wd, off, fr, to, mv⟩ y = some (dayI y mon day) := by
  unfold givO baseO
  dsimp only
  rw [if_neg (by decide), if_neg (by omega), if_pos rfl, if_pos ho]
theorem giv1_no {mon day nth wd off fr to mv y : Int} (ho : ¬ okD y mon day) : givO ⟨1, mon, day, nth, wd, off, fr, to, mv⟩ y = none := by
  unfold givO baseO
  dsimp only
  rw [if_neg (by decide), if_pos rfl, if_neg ho]
  split <;> rfl
theorem giv_no {kind mon day nth wd off fr to mv y : Int} (hk : kind ≠ 4) (hr : ¬ (fr ≤ y ∧ y ≤ to)) : givO ⟨kind, mon, day, nth, wd, off, fr, to, mv⟩ y = none := by
  unfold givO baseO
  dsimp only
  rw [if_neg hk, if_pos (by omega)]
theorem giv2_ok {mon day nth wd off fr to mv y : Int} (hr : fr ≤ y ∧ y ≤ to) : givO ⟨2, mon, day, nth, wd, off, fr, to, mv⟩ y = some (nthI y mon wd nth) := by
  unfold givO baseO
  dsimp only
  rw [if_neg (by decide), if_neg (by omega), if_neg (by decide), if_pos rfl]
theorem giv3_ok {mon day nth wd off fr to mv y : Int} (hr : fr ≤ y ∧ y ≤ to) : givO ⟨3, mon, day, nth, wd, off, fr, to, mv⟩ y = some (eaDay y + off) := by
  unfold givO baseO
  dsimp only
  rw [if_neg (by decide), if_neg (by omega), if_neg (by decide), if_neg (by decide), if_pos rfl]
theorem giv4_ok {mon day nth wd off fr to mv y m d : Int} (h : IsD day y m d) : givO ⟨4, mon, day, nth, wd, off, fr, to, mv⟩ y = some day := by
  unfold givO
  dsimp only
  rw [if_pos rfl, if_pos (yr_eq h)]
theorem giv4_no {mon day nth wd off fr to mv y y0 m d : Int} (h : IsD day y0 m d) (hy : y0 ≠ y) : givO ⟨4, mon, day, nth, wd, off, fr, to, mv⟩ y = none := by
  unfold givO
  dsimp only
  rw [if_pos rfl, if_neg (by rw [yr_eq h]; exact hy)]

set_option maxHeartbeats 1600000 in
theorem in1_any (mon day nth wd off fr to mv y : Int) (w : World) :
    Calls Try.prog 92 #[.agg #[.int .i64 1, .int .i64 mon, .int .i64 day, .int .i64 nth, .int .i64 wd, .int .i64 off, .int .i64 fr, .int .i64 to, .int .i64 mv], .int .i64 y] w fun e w' => ∃ N, e = .returned (.tuple #[.int .i64 N, .bool (givO ⟨1, mon, day, nth, wd, off, fr, to, mv⟩ y).isSome]) ∧ (∀ g, givO ⟨1, mon, day, nth, wd, off, fr, to, mv⟩ y = some g → N = g) ∧ Below w.heap.size w w' := by
  have HB0 := hideS (fun o => (Below.refl w.heap.size w).alloc (Nat.le_refl _) o)
  by_cases ho : okD y mon day
  · have HO := hideS (fun wx => ofP_ok y mon day wx ho)
    have HI := hideS (fun wx => between_any y fr to wx)
    by_cases hr : fr ≤ y ∧ y ≤ to
    · rw [giv1_ok ho hr]
      rw [decide_eq_true hr] at HI
      generalize dayI y mon day = D at *
      clear ho hr
      go_enter Try.func92, Try.ntmps92
      go_wp2_with (first | (go_at_call 57; refine (HO.out _).mono ?_; rintro e w1 ⟨rfl, rfl⟩) | (go_at_call 47; refine (HI.out _).mono ?_; rintro e w1 ⟨rfl, rfl⟩))
      go_ret2
      exact ⟨_, rfl, fun g hg => Option.some.inj hg, HB0.out _⟩
    · rw [giv_no (by decide) hr]
      rw [decide_eq_false hr] at HI
      generalize dayI y mon day = D at *
      clear ho hr
      go_enter Try.func92, Try.ntmps92
      go_wp2_with (first | (go_at_call 57; refine (HO.out _).mono ?_; rintro e w1 ⟨rfl, rfl⟩) | (go_at_call 47; refine (HI.out _).mono ?_; rintro e w1 ⟨rfl, rfl⟩))
      go_ret2
      exact ⟨_, rfl, fun g hg => (by cases hg), HB0.out _⟩
  · have HO := hideS (fun wx => ofP_bad y mon day wx ho)
    rw [giv1_no ho]
    clear ho
    go_enter Try.func92, Try.ntmps92
    go_wp2_with (go_at_call 57; refine (HO.out _).mono ?_; rintro e w1 ⟨rfl, rfl⟩)
    go_ret2
    exact ⟨_, rfl, fun g hg => (by cases hg), HB0.out _⟩

/-- The program's reckoning of the N-th weekday. -/
theorem nth_prog {f L wd k : Int} (_d0 : 0 ≤ wd) (_d1 : wd ≤ 6) (k1 : 1 ≤ k) (k5 : k ≤ 5) (l0 : 28 ≤ L) (_f0 : 0 ≤ f) :
    (if k = 5 ∧ f + L ≤ f + (wd - f) % 7 + 7 * (k - 1) then f + (wd - f) % 7 + 7 * (k - 1) - 7 else f + (wd - f) % 7 + 7 * (k - 1)) = if f + L ≤ f + (wd + 7 - f % 7) % 7 + 7 * (k - 1) then f + (wd + 7 - f % 7) % 7 + 7 * (k - 1) - 7 else f + (wd + 7 - f % 7) % 7 + 7 * (k - 1) := by
  have e : (wd + 7 - f % 7) % 7 = (wd - f) % 7 := by omega
  rw [e]
  by_cases a : k = 5
  · by_cases b : f + L ≤ f + (wd - f) % 7 + 7 * (k - 1)
    · rw [if_pos ⟨a, b⟩, if_pos b]
    · rw [if_neg (fun c => b c.2), if_neg b]
  · rw [if_neg (fun c => a c.1), if_neg (by omega)]

set_option maxHeartbeats 1600000 in
theorem in2_any (mon day nth wd off fr to mv y : Int) (w : World) (m0 : 1 ≤ mon) (m1 : mon ≤ 12) (d0 : 0 ≤ wd) (d1 : wd ≤ 6) (k1 : 1 ≤ nth) (k5 : nth ≤ 5) (f0 : 1900 ≤ fr) (f1 : to ≤ 2199) :
    Calls Try.prog 95 #[.agg #[.int .i64 2, .int .i64 mon, .int .i64 day, .int .i64 nth, .int .i64 wd, .int .i64 off, .int .i64 fr, .int .i64 to, .int .i64 mv], .int .i64 y] w fun e w' => ∃ N, e = .returned (.tuple #[.int .i64 N, .bool (givO ⟨2, mon, day, nth, wd, off, fr, to, mv⟩ y).isSome]) ∧ (∀ g, givO ⟨2, mon, day, nth, wd, off, fr, to, mv⟩ y = some g → N = g) ∧ Below w.heap.size w w' := by
  have HB0 := hideS (fun o => (Below.refl w.heap.size w).alloc (Nat.le_refl _) o)
  have HI := hideS (fun wx => between_any y fr to wx)
  by_cases hr : fr ≤ y ∧ y ≤ to
  · rw [giv2_ok hr]
    rw [decide_eq_true hr] at HI
    have hym : ymB y mon := ⟨by omega, by omega, m0, m1⟩
    have HL := hideS (fun wx => lengthP_ok y mon wx hym)
    have HO := hideS (fun wx => ofP_ok y mon 1 wx (okD_first hym 1 (by omega) (by omega)))
    obtain ⟨g0, g1⟩ := (isD_of (okD_first hym 1 (by omega) (by omega))).range
    have l0 := len_lo y mon
    have l1 := len_hi y mon
    have hR : nthI y mon wd nth = if dayI y mon 1 + lenI y mon ≤ dayI y mon 1 + (wd + 7 - dayI y mon 1 % 7) % 7 + 7 * (nth - 1) then dayI y mon 1 + (wd + 7 - dayI y mon 1 % 7) % 7 + 7 * (nth - 1) - 7 else dayI y mon 1 + (wd + 7 - dayI y mon 1 % 7) % 7 + 7 * (nth - 1) := nth_prog d0 d1 k1 k5 l0 g0
    obtain ⟨R, hRR⟩ : ∃ R, nthI y mon wd nth = R := ⟨_, rfl⟩
    rw [hRR] at hR ⊢
    clear hRR hym hr
    generalize dayI y mon 1 = f at *
    generalize lenI y mon = L at *
    obtain ⟨a, ha⟩ : ∃ a, f % 7 = a := ⟨_, rfl⟩
    rw [ha] at hR
    obtain ⟨t, ht⟩ : ∃ t, (wd + 7 - a) % 7 = t := ⟨_, rfl⟩
    rw [ht] at hR
    have t0 : 0 ≤ t := by omega
    have t1 : t ≤ 6 := by omega
    by_cases hge : f + L ≤ f + t + 7 * (nth - 1)
    · rw [if_pos hge] at hR
      have HR := hideS hR
      clear hR
      go_enter Try.func95, Try.ntmps95
      go_wp2_with (first | (go_at_call 70; refine (HL.out _).mono ?_; rintro e w1 ⟨rfl, rfl⟩) | (go_at_call 57; refine (HO.out _).mono ?_; rintro e w1 ⟨rfl, rfl⟩) | (go_at_call 47; refine (HI.out _).mono ?_; rintro e w1 ⟨rfl, rfl⟩))
      go_ret2
      exact ⟨_, rfl, fun g hg => (by rw [← Option.some.inj hg, HR.out]), HB0.out _⟩
    · rw [if_neg hge] at hR
      have HR := hideS hR
      clear hR
      go_enter Try.func95, Try.ntmps95
      go_wp2_with (first | (go_at_call 70; refine (HL.out _).mono ?_; rintro e w1 ⟨rfl, rfl⟩) | (go_at_call 57; refine (HO.out _).mono ?_; rintro e w1 ⟨rfl, rfl⟩) | (go_at_call 47; refine (HI.out _).mono ?_; rintro e w1 ⟨rfl, rfl⟩))
      go_ret2
      exact ⟨_, rfl, fun g hg => (by rw [← Option.some.inj hg, HR.out]), HB0.out _⟩
  · rw [giv_no (by decide) hr]
    rw [decide_eq_false hr] at HI
    clear hr
    by_cases hym : ymB y mon
    · have HL := hideS (fun wx => lengthP_ok y mon wx hym)
      generalize lenI y mon = L at *
      clear hym
      go_enter Try.func95, Try.ntmps95
      go_wp2_with (first | (go_at_call 70; refine (HL.out _).mono ?_; rintro e w1 ⟨rfl, rfl⟩) | (go_at_call 47; refine (HI.out _).mono ?_; rintro e w1 ⟨rfl, rfl⟩))
      go_ret2
      exact ⟨_, rfl, fun g hg => (by cases hg), HB0.out _⟩
    · have HL := hideS (fun wx => lengthP_bad y mon wx hym)
      clear hym
      go_enter Try.func95, Try.ntmps95
      go_wp2_with (go_at_call 70; refine (HL.out _).mono ?_; rintro e w1 ⟨rfl, rfl⟩)
      go_ret2
      exact ⟨_, rfl, fun g hg => (by cases hg), HB0.out _⟩

set_option maxHeartbeats 1600000 in
theorem in4_any (mon day nth wd off fr to mv y : Int) (w : World) (d0 : 0 ≤ day) (d1 : day ≤ 109572) :
    Calls Try.prog 101 #[.agg #[.int .i64 4, .int .i64 mon, .int .i64 day, .int .i64 nth, .int .i64 wd, .int .i64 off, .int .i64 fr, .int .i64 to, .int .i64 mv], .int .i64 y] w fun e w' => ∃ N, e = .returned (.tuple #[.int .i64 N, .bool (givO ⟨4, mon, day, nth, wd, off, fr, to, mv⟩ y).isSome]) ∧ (∀ g, givO ⟨4, mon, day, nth, wd, off, fr, to, mv⟩ y = some g → N = g) ∧ Below w.heap.size w w' := by
  have HB0 := hideS (fun o => (Below.refl w.heap.size w).alloc (Nat.le_refl _) o)
  obtain ⟨y0, m0, e0, hd⟩ := isD_ex d0 d1
  have HC := hideS (fun wx => civil_ok day y0 m0 e0 wx hd)
  by_cases hy : y0 = y
  · subst hy
    rw [giv4_ok hd]
    clear hd
    go_enter Try.func101, Try.ntmps101
    go_wp2_with (go_at_call 56; refine (HC.out _).mono ?_; rintro e w1 ⟨rfl, rfl⟩)
    go_ret2
    exact ⟨_, rfl, fun g hg => Option.some.inj hg, HB0.out _⟩
  · rw [giv4_no hd hy]
    have hy' : (y0 == y) = false := beq_eq_false_iff_ne.2 hy
    clear hd hy
    go_enter Try.func101, Try.ntmps101
    go_wp2_with (go_at_call 56; refine (HC.out _).mono ?_; rintro e w1 ⟨rfl, rfl⟩)
    go_ret2
    exact ⟨_, rfl, fun g hg => (by cases hg), HB0.out _⟩

set_option maxHeartbeats 1600000 in
theorem in3_any (mon day nth wd off fr to mv y : Int) (w : World) (o0 : -100 ≤ off) (o1 : off ≤ 100) (f0 : 1900 ≤ fr) (f1 : to ≤ 2199) :
    Calls Try.prog 97 #[.agg #[.int .i64 3, .int .i64 mon, .int .i64 day, .int .i64 nth, .int .i64 wd, .int .i64 off, .int .i64 fr, .int .i64 to, .int .i64 mv], .int .i64 y] w fun e w' => ∃ N, e = .returned (.tuple #[.int .i64 N, .bool (givO ⟨3, mon, day, nth, wd, off, fr, to, mv⟩ y).isSome]) ∧ (∀ g, givO ⟨3, mon, day, nth, wd, off, fr, to, mv⟩ y = some g → N = g) ∧ Below w.heap.size w w' := by
  have HB0 := hideS (fun o => (Below.refl w.heap.size w).alloc (Nat.le_refl _) o)
  have HI := hideS (fun wx => between_any y fr to wx)
  obtain ⟨wq, hwq⟩ : ∃ wq, w.alloc (.cells #[.int .i64 3, .int .i64 mon, .int .i64 day, .int .i64 nth, .int .i64 wd, .int .i64 off, .int .i64 fr, .int .i64 to, .int .i64 mv] 67) = wq := ⟨_, rfl⟩
  have c5 : wq.cell? ⟨w.heap.size, 5, none⟩ = some (.int .i64 off) := by rw [← hwq]; simp
  have c6 : wq.cell? ⟨w.heap.size, 6, none⟩ = some (.int .i64 fr) := by rw [← hwq]; simp
  have c7 : wq.cell? ⟨w.heap.size, 7, none⟩ = some (.int .i64 to) := by rw [← hwq]; simp
  have HBq : Hid (Below w.heap.size w wq) := by rw [← hwq]; exact HB0.out _
  have HQ := hideS hwq
  clear hwq HB0
  by_cases hyy : 1900 ≤ y ∧ y ≤ 2199
  · have HE := hideS (fun wx => easter_ok y wx hyy.1 hyy.2)
    obtain ⟨n0, n1⟩ : 0 ≤ eaDay y ∧ eaDay y ≤ 109572 := (isD_of (ea_ok hyy.1 hyy.2).ok).range
    by_cases hr : fr ≤ y ∧ y ≤ to
    · rw [giv3_ok hr]
      rw [decide_eq_true hr] at HI
      generalize eaDay y = D at *
      have hw1 : IntKind.i64.wrap (D + off) = D + off := by rw [IntKind.wrap_i64]; omega
      clear hr hyy
      go_enter Try.func97, Try.ntmps97
      go_wp2_with (go_at_call 99; refine (HE.out _).mono ?_; rintro e w1 ⟨rfl, rfl⟩)
      rw [HQ.out]
      go_quiet ((go_at_call 47; exact Calls.quiet_of_same (HI.out _)))
      go_wp2_with fail
      go_ret2
      exact ⟨_, rfl, fun g hg => Option.some.inj hg, below_drewN' HBq.out⟩
    · rw [giv_no (by decide) hr]
      rw [decide_eq_false hr] at HI
      generalize eaDay y = D at *
      have hw1 : IntKind.i64.wrap (D + off) = D + off := by rw [IntKind.wrap_i64]; omega
      clear hr hyy
      go_enter Try.func97, Try.ntmps97
      go_wp2_with (go_at_call 99; refine (HE.out _).mono ?_; rintro e w1 ⟨rfl, rfl⟩)
      rw [HQ.out]
      go_quiet ((go_at_call 47; exact Calls.quiet_of_same (HI.out _)))
      go_wp2_with fail
      go_ret2
      exact ⟨_, rfl, fun g hg => (by cases hg), below_drewN' HBq.out⟩
  · have HE := hideS (fun wx => easter_bad y wx hyy)
    rw [giv_no (by decide) (fun a => hyy (by omega))]
    have hw1 : IntKind.i64.wrap (0 + off) = 0 + off := by rw [IntKind.wrap_i64]; omega
    clear hyy
    go_enter Try.func97, Try.ntmps97
    go_wp2_with (go_at_call 99; refine (HE.out _).mono ?_; rintro e w1 ⟨rfl, rfl⟩)
    rw [HQ.out]
    go_quiet (fail)
    go_wp2_with fail
    go_ret2
    exact ⟨_, rfl, fun g hg => (by cases hg), below_drewN' HBq.out⟩
end Go.Proofs.Ytglkhoekpafddaa
