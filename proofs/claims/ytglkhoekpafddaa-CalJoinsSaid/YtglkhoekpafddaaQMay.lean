/- The contracts of the program's rules: may they be? -/
import Derived.Test.YtglkhoekpafddaaQBet
import Derived.Test.YtglkhoekpafddaaCRefE
namespace Go.Proofs.Ytglkhoekpafddaa
open Go.RowKit

theorem fit1' (mon day nth wd off fr to mv : Int) : fitB ⟨1, mon, day, nth, wd, off, fr, to, mv⟩ = decide ((1900 ≤ fr ∧ fr ≤ 2199 ∧ fr ≤ to ∧ to ≤ 2199 ∧ 0 ≤ mv ∧ mv ≤ 2) ∧ nth = 0 ∧ wd = 0 ∧ off = 0 ∧ 1 ≤ mon ∧ mon ≤ 12 ∧ 1 ≤ day ∧ day ≤ mostI mon) := by
  by_cases h : RngR fr to mv
  · rw [fit1 h]; exact decide_eq_decide.2 ⟨fun a => ⟨h, a⟩, fun a => a.2⟩
  · rw [fit_rng (by decide) h, decide_eq_false (fun a => h a.1)]
theorem fit2' (mon day nth wd off fr to mv : Int) : fitB ⟨2, mon, day, nth, wd, off, fr, to, mv⟩ = decide ((1900 ≤ fr ∧ fr ≤ 2199 ∧ fr ≤ to ∧ to ≤ 2199 ∧ 0 ≤ mv ∧ mv ≤ 2) ∧ day = 0 ∧ off = 0 ∧ 1 ≤ mon ∧ mon ≤ 12 ∧ 0 ≤ wd ∧ wd ≤ 6 ∧ 1 ≤ nth ∧ nth ≤ 5) := by
  by_cases h : RngR fr to mv
  · rw [fit2 h]; exact decide_eq_decide.2 ⟨fun a => ⟨h, a⟩, fun a => a.2⟩
  · rw [fit_rng (by decide) h, decide_eq_false (fun a => h a.1)]
theorem fit3' (mon day nth wd off fr to mv : Int) : fitB ⟨3, mon, day, nth, wd, off, fr, to, mv⟩ = decide ((1900 ≤ fr ∧ fr ≤ 2199 ∧ fr ≤ to ∧ to ≤ 2199 ∧ 0 ≤ mv ∧ mv ≤ 2) ∧ mon = 0 ∧ day = 0 ∧ nth = 0 ∧ wd = 0 ∧ -100 ≤ off ∧ off ≤ 100) := by
  by_cases h : RngR fr to mv
  · rw [fit3 h]; exact decide_eq_decide.2 ⟨fun a => ⟨h, a⟩, fun a => a.2⟩
  · rw [fit_rng (by decide) h, decide_eq_false (fun a => h a.1)]
theorem below2 (w : World) (o1 o2 : Obj) : Below w.heap.size w ((w.alloc o1).alloc o2) := ((Below.refl w.heap.size w).alloc (Nat.le_refl _) _).alloc (by simp) _

theorem isDay6_lit (n : Int) (w : World) :
    Calls Try.prog 32 #[.int .i64 n] w fun e w' => e = .returned (.bool (decide (0 ≤ n ∧ n ≤ 109572))) ∧ w' = w := by
  have := isDay6_any n w
  rw [show decide (isDayP n) = decide (0 ≤ n ∧ n ≤ 109572) from decide_eq_decide.2 Iff.rfl] at this
  exact this

set_option maxHeartbeats 1600000 in
theorem again_any (kind mon day nth wd off fr to mv : Int) (w : World) :
    Calls Try.prog 94 #[.agg #[.int .i64 kind, .int .i64 mon, .int .i64 day, .int .i64 nth, .int .i64 wd, .int .i64 off, .int .i64 fr, .int .i64 to, .int .i64 mv]] w fun e w' => e = .returned (.bool (decide (1900 ≤ fr ∧ fr ≤ 2199 ∧ fr ≤ to ∧ to ≤ 2199 ∧ 0 ≤ mv ∧ mv ≤ 2))) ∧ Below w.heap.size w w' := by
  obtain ⟨R, hR⟩ : ∃ R, decide (1900 ≤ fr ∧ fr ≤ 2199 ∧ fr ≤ to ∧ to ≤ 2199 ∧ 0 ≤ mv ∧ mv ≤ 2) = R := ⟨_, rfl⟩
  rw [hR]
  have HR := hideS hR
  clear hR
  go_enter Try.func94, Try.ntmps94
  go_wp2_with (go_at_call 47; refine (between_any _ _ _ _).mono ?_; rintro e w1 ⟨rfl, rfl⟩)
  all_goals
    go_ret
    refine ⟨retB (Eq.trans ?_ HR.out), (Below.refl w.heap.size w).alloc (Nat.le_refl _) _⟩
    first | exact (decide_eq_false (by omega)).symm | exact decide_eq_decide.2 (by omega) | (rw [Bool.eq_iff_iff]; simp only [Bool.and_eq_true, decide_eq_true_eq]; omega)

theorem most_len {m : Int} (h1 : 1 ≤ m) (h2 : m ≤ 12) : lenI 2000 m = mostI m := by
  rcases month_cases h1 h2 with rfl | rfl | rfl | rfl | rfl | rfl | rfl | rfl | rfl | rfl | rfl | rfl <;> decide

set_option maxHeartbeats 3200000 in
theorem may4_any (mon day nth wd off fr to mv : Int) (w : World) :
    Calls Try.prog 102 #[.agg #[.int .i64 4, .int .i64 mon, .int .i64 day, .int .i64 nth, .int .i64 wd, .int .i64 off, .int .i64 fr, .int .i64 to, .int .i64 mv]] w fun e w' => e = .returned (.bool (fitB ⟨4, mon, day, nth, wd, off, fr, to, mv⟩)) ∧ Below w.heap.size w w' := by
  rw [fit4]
  obtain ⟨R, hR⟩ : ∃ R, decide (mon = 0 ∧ nth = 0 ∧ wd = 0 ∧ off = 0 ∧ fr = 0 ∧ to = 0 ∧ mv = 0 ∧ 0 ≤ day ∧ day ≤ 109572) = R := ⟨_, rfl⟩
  rw [hR]
  have HR := hideS hR
  clear hR
  go_enter Try.func102, Try.ntmps102
  go_wp2_with (go_at_call 32; refine (isDay6_lit _ _).mono ?_; rintro e w1 ⟨rfl, rfl⟩)
  all_goals
    go_ret
    refine ⟨retB (Eq.trans ?_ HR.out), (Below.refl w.heap.size w).alloc (Nat.le_refl _) _⟩
    first | exact (decide_eq_false (by omega)).symm | exact decide_eq_decide.2 (by omega) | (rw [Bool.eq_iff_iff]; simp only [Bool.and_eq_true, decide_eq_true_eq]; omega)

set_option maxHeartbeats 3200000 in
theorem may3_any (mon day nth wd off fr to mv : Int) (w : World) :
    Calls Try.prog 98 #[.agg #[.int .i64 3, .int .i64 mon, .int .i64 day, .int .i64 nth, .int .i64 wd, .int .i64 off, .int .i64 fr, .int .i64 to, .int .i64 mv]] w fun e w' => e = .returned (.bool (fitB ⟨3, mon, day, nth, wd, off, fr, to, mv⟩)) ∧ Below w.heap.size w w' := by
  rw [fit3']
  obtain ⟨R, hR⟩ : ∃ R, decide ((1900 ≤ fr ∧ fr ≤ 2199 ∧ fr ≤ to ∧ to ≤ 2199 ∧ 0 ≤ mv ∧ mv ≤ 2) ∧ mon = 0 ∧ day = 0 ∧ nth = 0 ∧ wd = 0 ∧ -100 ≤ off ∧ off ≤ 100) = R := ⟨_, rfl⟩
  rw [hR]
  have HR := hideS hR
  clear hR
  have HB2 := hideS (below2 w)
  have HA := hideS (fun kind mon day nth wd off fr to mv wx => again_any kind mon day nth wd off fr to mv wx)
  go_enter Try.func98, Try.ntmps98
  go_wp2_with (first | (go_at_call 47; refine (between_any _ _ _ _).mono ?_; rintro e w1 ⟨rfl, rfl⟩) | (go_at_call 94; refine (HA.out _ _ _ _ _ _ _ _ _ _).mono ?_; rintro e w1 ⟨rfl, hb1⟩))
  all_goals
    go_ret
    first
    | refine ⟨retB (Eq.trans ?_ HR.out), HB2.out _ _⟩
    | refine ⟨retB (Eq.trans ?_ HR.out), (HB2.out _ _).trans (hb1.mono (by simp <;> omega))⟩
    first | exact (decide_eq_false (by omega)).symm | exact decide_eq_decide.2 (by omega) | (rw [Bool.eq_iff_iff]; simp only [Bool.and_eq_true, decide_eq_true_eq]; omega)

set_option maxHeartbeats 3200000 in
theorem may2_any (mon day nth wd off fr to mv : Int) (w : World) :
    Calls Try.prog 96 #[.agg #[.int .i64 2, .int .i64 mon, .int .i64 day, .int .i64 nth, .int .i64 wd, .int .i64 off, .int .i64 fr, .int .i64 to, .int .i64 mv]] w fun e w' => e = .returned (.bool (fitB ⟨2, mon, day, nth, wd, off, fr, to, mv⟩)) ∧ Below w.heap.size w w' := by
  rw [fit2']
  obtain ⟨R, hR⟩ : ∃ R, decide ((1900 ≤ fr ∧ fr ≤ 2199 ∧ fr ≤ to ∧ to ≤ 2199 ∧ 0 ≤ mv ∧ mv ≤ 2) ∧ day = 0 ∧ off = 0 ∧ 1 ≤ mon ∧ mon ≤ 12 ∧ 0 ≤ wd ∧ wd ≤ 6 ∧ 1 ≤ nth ∧ nth ≤ 5) = R := ⟨_, rfl⟩
  rw [hR]
  have HR := hideS hR
  clear hR
  have HB2 := hideS (below2 w)
  have HA := hideS (fun kind mon day nth wd off fr to mv wx => again_any kind mon day nth wd off fr to mv wx)
  go_enter Try.func96, Try.ntmps96
  go_wp2_with (first | (go_at_call 47; refine (between_any _ _ _ _).mono ?_; rintro e w1 ⟨rfl, rfl⟩) | (go_at_call 94; refine (HA.out _ _ _ _ _ _ _ _ _ _).mono ?_; rintro e w1 ⟨rfl, hb1⟩))
  all_goals
    go_ret
    first
    | refine ⟨retB (Eq.trans ?_ HR.out), HB2.out _ _⟩
    | refine ⟨retB (Eq.trans ?_ HR.out), (HB2.out _ _).trans (hb1.mono (by simp <;> omega))⟩
    first | exact (decide_eq_false (by omega)).symm | exact decide_eq_decide.2 (by omega) | (rw [Bool.eq_iff_iff]; simp only [Bool.and_eq_true, decide_eq_true_eq]; omega)

set_option maxHeartbeats 3200000 in
theorem may1_any (mon day nth wd off fr to mv : Int) (w : World) :
    Calls Try.prog 93 #[.agg #[.int .i64 1, .int .i64 mon, .int .i64 day, .int .i64 nth, .int .i64 wd, .int .i64 off, .int .i64 fr, .int .i64 to, .int .i64 mv]] w fun e w' => e = .returned (.bool (fitB ⟨1, mon, day, nth, wd, off, fr, to, mv⟩)) ∧ Below w.heap.size w w' := by
  rw [fit1']
  have HB2 := hideS (below2 w)
  have HA := hideS (fun kind mon day nth wd off fr to mv wx => again_any kind mon day nth wd off fr to mv wx)
  by_cases hm : 1 ≤ mon ∧ mon ≤ 12
  · have HL := hideS (fun wx => lengthP_ok 2000 mon wx ⟨by decide, by decide, hm.1, hm.2⟩)
    rw [most_len hm.1 hm.2] at HL
    generalize mostI mon = L at *
    obtain ⟨R, hR⟩ : ∃ R, decide ((1900 ≤ fr ∧ fr ≤ 2199 ∧ fr ≤ to ∧ to ≤ 2199 ∧ 0 ≤ mv ∧ mv ≤ 2) ∧ nth = 0 ∧ wd = 0 ∧ off = 0 ∧ 1 ≤ mon ∧ mon ≤ 12 ∧ 1 ≤ day ∧ day ≤ L) = R := ⟨_, rfl⟩
    rw [hR]
    have HR := hideS hR
    clear hR
    go_enter Try.func93, Try.ntmps93
    go_wp2_with (first | (go_at_call 70; refine (HL.out _).mono ?_; rintro e w1 ⟨rfl, rfl⟩) | (go_at_call 47; refine (between_any _ _ _ _).mono ?_; rintro e w1 ⟨rfl, rfl⟩) | (go_at_call 94; refine (HA.out _ _ _ _ _ _ _ _ _ _).mono ?_; rintro e w1 ⟨rfl, hb1⟩))
    all_goals
      go_ret
      first
      | refine ⟨retB (Eq.trans ?_ HR.out), HB2.out _ _⟩
      | refine ⟨retB (Eq.trans ?_ HR.out), (HB2.out _ _).trans (hb1.mono (by simp <;> omega))⟩
      first | exact (decide_eq_false (by omega)).symm | exact decide_eq_decide.2 (by omega) | (rw [Bool.eq_iff_iff]; simp only [Bool.and_eq_true, decide_eq_true_eq]; omega)
  · have HL := hideS (fun wx => lengthP_bad 2000 mon wx (fun a => hm ⟨a.2.2.1, a.2.2.2⟩))
    rw [decide_eq_false (fun a => hm ⟨a.2.2.2.2.1, a.2.2.2.2.2.1⟩)]
    clear hm
    go_enter Try.func93, Try.ntmps93
    go_wp2_with (go_at_call 70; refine (HL.out _).mono ?_; rintro e w1 ⟨rfl, rfl⟩)
    all_goals
      go_ret
      exact ⟨rfl, HB2.out _ _⟩

set_option maxHeartbeats 400000 in
theorem may0_any (w : World) :
    Calls Try.prog 104 #[.agg #[]] w fun e w' => e = .returned (.bool false) ∧ Below w.heap.size w w' := by
  go_enter Try.func104, Try.ntmps104
  go_wp2_with fail
  go_ret
  exact ⟨rfl, (Below.refl w.heap.size w).alloc (Nat.le_refl _) _⟩

/-- The dynamic type of a rule, by its kind. -/
def tyK (k : Int) : Nat := if k = 1 then 65 else if k = 2 then 66 else if k = 3 then 67 else 68
set_option maxHeartbeats 1600000 in
theorem holidayOf_any (kind mon day nth wd off fr to mv : Int) (w : World) (hk : kind = 1 ∨ kind = 2 ∨ kind = 3 ∨ kind = 4) :
    Calls Try.prog 26 #[.agg #[.int .i64 kind, .int .i64 mon, .int .i64 day, .int .i64 nth, .int .i64 wd, .int .i64 off, .int .i64 fr, .int .i64 to, .int .i64 mv]] w fun e w' => e = .returned (.iface (tyK kind) (.agg #[.int .i64 kind, .int .i64 mon, .int .i64 day, .int .i64 nth, .int .i64 wd, .int .i64 off, .int .i64 fr, .int .i64 to, .int .i64 mv])) ∧ Below w.heap.size w w' := by
  rcases hk with rfl | rfl | rfl | rfl
  all_goals
    go_enter Try.func26, Try.ntmps26
    go_wp2_with fail
    go_ret
    exact ⟨rfl, (Below.refl w.heap.size w).alloc (Nat.le_refl _) _⟩
set_option maxHeartbeats 1600000 in
theorem holidayOf_none (kind mon day nth wd off fr to mv : Int) (w : World) (hk : ¬ (kind = 1 ∨ kind = 2 ∨ kind = 3 ∨ kind = 4)) :
    Calls Try.prog 26 #[.agg #[.int .i64 kind, .int .i64 mon, .int .i64 day, .int .i64 nth, .int .i64 wd, .int .i64 off, .int .i64 fr, .int .i64 to, .int .i64 mv]] w fun e w' => e = .returned (.iface 70 (.agg #[])) ∧ Below w.heap.size w w' := by
  have k1 : (kind == 1) = false := beq_eq_false_iff_ne.2 (fun a => hk (by omega))
  have k2 : (kind == 2) = false := beq_eq_false_iff_ne.2 (fun a => hk (by omega))
  have k3 : (kind == 3) = false := beq_eq_false_iff_ne.2 (fun a => hk (by omega))
  have k4 : (kind == 4) = false := beq_eq_false_iff_ne.2 (fun a => hk (by omega))
  clear hk
  go_enter Try.func26, Try.ntmps26
  go_wp2_with fail
  go_ret
  exact ⟨rfl, (Below.refl w.heap.size w).alloc (Nat.le_refl _) _⟩
end Go.Proofs.Ytglkhoekpafddaa
