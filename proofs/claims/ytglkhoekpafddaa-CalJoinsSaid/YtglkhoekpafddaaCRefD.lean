/- The contracts of the document's in, fit and Check. -/
import Derived.Test.YtglkhoekpafddaaCRefC
namespace Go.Proofs.Ytglkhoekpafddaa
open Go.RowKit

theorem refIn_any (n lo hi : Int) (w : World) :
    Calls Try.prog 27 #[.int .i64 n, .int .i64 lo, .int .i64 hi] w fun e w' => e = .returned (.bool (decide (lo ≤ n ∧ n ≤ hi))) ∧ w' = w := by
  by_cases h1 : lo ≤ n <;> by_cases h2 : n ≤ hi
  all_goals
    first | rw [decide_eq_true (⟨h1, h2⟩ : lo ≤ n ∧ n ≤ hi)] | rw [decide_eq_false (fun h : lo ≤ n ∧ n ≤ hi => by omega)]
    go_enter Try.func27, Try.ntmps27
    go_wp2
    go_ret
    exact ⟨rfl, rfl⟩

theorem retB {a b : Bool} (h : a = b) : Ending.returned (.bool a) = .returned (.bool b) := by rw [h]
theorem fit4 (mon day nth wd off fr to mv : Int) : fitB ⟨4, mon, day, nth, wd, off, fr, to, mv⟩ = decide (mon = 0 ∧ nth = 0 ∧ wd = 0 ∧ off = 0 ∧ fr = 0 ∧ to = 0 ∧ mv = 0 ∧ 0 ≤ day ∧ day ≤ 109572) := by
  unfold fitB; dsimp only; rw [if_pos rfl]
def RngR (fr to mv : Int) : Prop := 1900 ≤ fr ∧ fr ≤ 2199 ∧ fr ≤ to ∧ to ≤ 2199 ∧ 0 ≤ mv ∧ mv ≤ 2
theorem fit_rng {kind mon day nth wd off fr to mv : Int} (h4 : kind ≠ 4) (h : ¬ RngR fr to mv) : fitB ⟨kind, mon, day, nth, wd, off, fr, to, mv⟩ = false := by
  unfold fitB; dsimp only; rw [if_neg h4, show decide (1900 ≤ fr ∧ fr ≤ 2199 ∧ fr ≤ to ∧ to ≤ 2199 ∧ 0 ≤ mv ∧ mv ≤ 2) = false from decide_eq_false h, Bool.false_and]
theorem fit1 {mon day nth wd off fr to mv : Int} (h : RngR fr to mv) : fitB ⟨1, mon, day, nth, wd, off, fr, to, mv⟩ = decide (nth = 0 ∧ wd = 0 ∧ off = 0 ∧ 1 ≤ mon ∧ mon ≤ 12 ∧ 1 ≤ day ∧ day ≤ mostI mon) := by
  unfold fitB; dsimp only
  rw [if_neg (by decide), show decide (1900 ≤ fr ∧ fr ≤ 2199 ∧ fr ≤ to ∧ to ≤ 2199 ∧ 0 ≤ mv ∧ mv ≤ 2) = true from decide_eq_true h, Bool.true_and, if_pos rfl]
theorem fit2 {mon day nth wd off fr to mv : Int} (h : RngR fr to mv) : fitB ⟨2, mon, day, nth, wd, off, fr, to, mv⟩ = decide (day = 0 ∧ off = 0 ∧ 1 ≤ mon ∧ mon ≤ 12 ∧ 0 ≤ wd ∧ wd ≤ 6 ∧ 1 ≤ nth ∧ nth ≤ 5) := by
  unfold fitB; dsimp only
  rw [if_neg (by decide), show decide (1900 ≤ fr ∧ fr ≤ 2199 ∧ fr ≤ to ∧ to ≤ 2199 ∧ 0 ≤ mv ∧ mv ≤ 2) = true from decide_eq_true h, Bool.true_and, if_neg (by decide), if_pos rfl]
theorem fit3 {mon day nth wd off fr to mv : Int} (h : RngR fr to mv) : fitB ⟨3, mon, day, nth, wd, off, fr, to, mv⟩ = decide (mon = 0 ∧ day = 0 ∧ nth = 0 ∧ wd = 0 ∧ -100 ≤ off ∧ off ≤ 100) := by
  unfold fitB; dsimp only
  rw [if_neg (by decide), show decide (1900 ≤ fr ∧ fr ≤ 2199 ∧ fr ≤ to ∧ to ≤ 2199 ∧ 0 ≤ mv ∧ mv ≤ 2) = true from decide_eq_true h, Bool.true_and, if_neg (by decide), if_neg (by decide), if_pos rfl]
theorem fit_no {kind mon day nth wd off fr to mv : Int} (h1 : kind ≠ 1) (h2 : kind ≠ 2) (h3 : kind ≠ 3) (h4 : kind ≠ 4) : fitB ⟨kind, mon, day, nth, wd, off, fr, to, mv⟩ = false := by
  unfold fitB; dsimp only
  rw [if_neg h4, if_neg h1, if_neg h2, if_neg h3, Bool.and_false]

set_option maxHeartbeats 1600000 in
theorem refFit_four (mon day nth wd off fr to mv : Int) (w : World) :
    Calls Try.prog 28 #[.agg #[.int .i64 4, .int .i64 mon, .int .i64 day, .int .i64 nth, .int .i64 wd, .int .i64 off, .int .i64 fr, .int .i64 to, .int .i64 mv]] w fun e w' => e = .returned (.bool (fitB ⟨4, mon, day, nth, wd, off, fr, to, mv⟩)) ∧ Below w.heap.size w w' := by
  rw [fit4]
  obtain ⟨R, hR⟩ : ∃ R, decide (mon = 0 ∧ nth = 0 ∧ wd = 0 ∧ off = 0 ∧ fr = 0 ∧ to = 0 ∧ mv = 0 ∧ 0 ≤ day ∧ day ≤ 109572) = R := ⟨_, rfl⟩
  rw [hR]
  have HR := hideS hR
  clear hR
  go_enter Try.func28, Try.ntmps28
  go_wp2_with (go_at_call 27; refine (refIn_any _ _ _ _).mono ?_; rintro e w1 ⟨rfl, rfl⟩)
  all_goals
    go_ret
    refine ⟨retB (Eq.trans ?_ HR.out), (Below.refl w.heap.size w).alloc (Nat.le_refl _) _⟩
    first | exact (decide_eq_false (by omega)).symm | (rw [Bool.eq_iff_iff]; simp only [Bool.and_eq_true, decide_eq_true_eq]; omega)

set_option maxHeartbeats 1600000 in
theorem refFit_rng (kind mon day nth wd off fr to mv : Int) (w : World) (h4 : kind ≠ 4) (h : ¬ RngR fr to mv) :
    Calls Try.prog 28 #[.agg #[.int .i64 kind, .int .i64 mon, .int .i64 day, .int .i64 nth, .int .i64 wd, .int .i64 off, .int .i64 fr, .int .i64 to, .int .i64 mv]] w fun e w' => e = .returned (.bool (fitB ⟨kind, mon, day, nth, wd, off, fr, to, mv⟩)) ∧ Below w.heap.size w w' := by
  rw [fit_rng h4 h]
  have h4' : (kind == 4) = false := beq_eq_false_iff_ne.2 h4
  have HI := hideS (fun (n lo hi : Int) (wx : World) => refIn_any n lo hi wx)
  unfold RngR at h
  by_cases a : 1900 ≤ fr ∧ fr ≤ 2199
  · by_cases b : fr ≤ to ∧ to ≤ 2199
    · have c : ¬ (0 ≤ mv ∧ mv ≤ 2) := by omega
      have ia := hideS (fun wx => HI.out fr 1900 2199 wx)
      have ib := hideS (fun wx => HI.out to fr 2199 wx)
      have ic := hideS (fun wx => HI.out mv 0 2 wx)
      rw [decide_eq_true a] at ia
      rw [decide_eq_true b] at ib
      rw [decide_eq_false c] at ic
      clear h h4 a b c HI
      go_enter Try.func28, Try.ntmps28
      go_wp2_with (first | (go_at_call_of 27 (Value.int IntKind.i64 1900); refine (ia.out _).mono ?_; rintro e w1 ⟨rfl, rfl⟩) | (go_at_call_of 27 (Value.int IntKind.i64 to); refine (ib.out _).mono ?_; rintro e w1 ⟨rfl, rfl⟩) | (go_at_call_of 27 (Value.int IntKind.i64 mv); refine (ic.out _).mono ?_; rintro e w1 ⟨rfl, rfl⟩))
      go_ret
      exact ⟨rfl, (Below.refl w.heap.size w).alloc (Nat.le_refl _) _⟩
    · have ia := hideS (fun wx => HI.out fr 1900 2199 wx)
      have ib := hideS (fun wx => HI.out to fr 2199 wx)
      rw [decide_eq_true a] at ia
      rw [decide_eq_false b] at ib
      clear h h4 a b HI
      go_enter Try.func28, Try.ntmps28
      go_wp2_with (first | (go_at_call_of 27 (Value.int IntKind.i64 1900); refine (ia.out _).mono ?_; rintro e w1 ⟨rfl, rfl⟩) | (go_at_call_of 27 (Value.int IntKind.i64 to); refine (ib.out _).mono ?_; rintro e w1 ⟨rfl, rfl⟩))
      go_ret
      exact ⟨rfl, (Below.refl w.heap.size w).alloc (Nat.le_refl _) _⟩
  · have ia := hideS (fun wx => HI.out fr 1900 2199 wx)
    rw [decide_eq_false a] at ia
    clear h h4 a HI
    go_enter Try.func28, Try.ntmps28
    go_wp2_with (go_at_call 27; refine (ia.out _).mono ?_; rintro e w1 ⟨rfl, rfl⟩)
    go_ret
    exact ⟨rfl, (Below.refl w.heap.size w).alloc (Nat.le_refl _) _⟩

set_option maxHeartbeats 3200000 in
theorem refFit_rest (kind mon day nth wd off fr to mv : Int) (w : World) (h1 : kind ≠ 1) (h4 : kind ≠ 4) (h : RngR fr to mv) :
    Calls Try.prog 28 #[.agg #[.int .i64 kind, .int .i64 mon, .int .i64 day, .int .i64 nth, .int .i64 wd, .int .i64 off, .int .i64 fr, .int .i64 to, .int .i64 mv]] w fun e w' => e = .returned (.bool (fitB ⟨kind, mon, day, nth, wd, off, fr, to, mv⟩)) ∧ Below w.heap.size w w' := by
  have HI := hideS (fun (n lo hi : Int) (wx : World) => refIn_any n lo hi wx)
  have ia := hideS (fun wx => HI.out fr 1900 2199 wx)
  have ib := hideS (fun wx => HI.out to fr 2199 wx)
  have ic := hideS (fun wx => HI.out mv 0 2 wx)
  rw [decide_eq_true ⟨h.1, h.2.1⟩] at ia
  rw [decide_eq_true ⟨h.2.2.1, h.2.2.2.1⟩] at ib
  rw [decide_eq_true ⟨h.2.2.2.2.1, h.2.2.2.2.2⟩] at ic
  have HB2 : Hid (∀ (o1 o2 : Obj), Below w.heap.size w ((w.alloc o1).alloc o2)) := fun o1 o2 => ((Below.refl w.heap.size w).alloc (Nat.le_refl _) _).alloc (by simp) _
  have h4' : (kind == 4) = false := beq_eq_false_iff_ne.2 h4
  have h1' : (kind == 1) = false := beq_eq_false_iff_ne.2 h1
  by_cases k2 : kind = 2
  · subst k2
    rw [fit2 h]
    obtain ⟨R, hR⟩ : ∃ R, decide (day = 0 ∧ off = 0 ∧ 1 ≤ mon ∧ mon ≤ 12 ∧ 0 ≤ wd ∧ wd ≤ 6 ∧ 1 ≤ nth ∧ nth ≤ 5) = R := ⟨_, rfl⟩
    rw [hR]
    have HR := hideS hR
    clear hR h h1 h4 h1' h4'
    go_enter Try.func28, Try.ntmps28
    go_wp2_with (first | (go_at_call_of 27 (Value.int IntKind.i64 1900); refine (ia.out _).mono ?_; rintro e w1 ⟨rfl, rfl⟩) | (go_at_call_of 27 (Value.int IntKind.i64 2199); refine (ib.out _).mono ?_; rintro e w1 ⟨rfl, rfl⟩) | (go_at_call_of 27 (Value.int IntKind.i64 2); refine (ic.out _).mono ?_; rintro e w1 ⟨rfl, rfl⟩) | (go_at_call 27; refine (refIn_any _ _ _ _).mono ?_; rintro e w1 ⟨rfl, rfl⟩))
    all_goals
      go_ret
      refine ⟨retB (Eq.trans ?_ HR.out), HB2.out _ _⟩
      first | exact (decide_eq_false (by omega)).symm | (rw [Bool.eq_iff_iff]; simp only [Bool.and_eq_true, decide_eq_true_eq]; omega)
  · by_cases k3 : kind = 3
    · subst k3
      rw [fit3 h]
      obtain ⟨R, hR⟩ : ∃ R, decide (mon = 0 ∧ day = 0 ∧ nth = 0 ∧ wd = 0 ∧ -100 ≤ off ∧ off ≤ 100) = R := ⟨_, rfl⟩
      rw [hR]
      have HR := hideS hR
      clear hR h h1 h4 h1' h4' k2
      go_enter Try.func28, Try.ntmps28
      go_wp2_with (first | (go_at_call_of 27 (Value.int IntKind.i64 1900); refine (ia.out _).mono ?_; rintro e w1 ⟨rfl, rfl⟩) | (go_at_call_of 27 (Value.int IntKind.i64 2199); refine (ib.out _).mono ?_; rintro e w1 ⟨rfl, rfl⟩) | (go_at_call_of 27 (Value.int IntKind.i64 2); refine (ic.out _).mono ?_; rintro e w1 ⟨rfl, rfl⟩) | (go_at_call 27; refine (refIn_any _ _ _ _).mono ?_; rintro e w1 ⟨rfl, rfl⟩))
      all_goals
        go_ret
        refine ⟨retB (Eq.trans ?_ HR.out), HB2.out _ _⟩
        first | exact (decide_eq_false (by omega)).symm | (rw [Bool.eq_iff_iff]; simp only [Bool.and_eq_true, decide_eq_true_eq]; omega)
    · rw [fit_no h1 k2 k3 h4]
      have k2' : (kind == 2) = false := beq_eq_false_iff_ne.2 k2
      have k3' : (kind == 3) = false := beq_eq_false_iff_ne.2 k3
      clear h h1 h4 k2 k3
      go_enter Try.func28, Try.ntmps28
      go_wp2_with (first | (go_at_call_of 27 (Value.int IntKind.i64 1900); refine (ia.out _).mono ?_; rintro e w1 ⟨rfl, rfl⟩) | (go_at_call_of 27 (Value.int IntKind.i64 2199); refine (ib.out _).mono ?_; rintro e w1 ⟨rfl, rfl⟩) | (go_at_call_of 27 (Value.int IntKind.i64 2); refine (ic.out _).mono ?_; rintro e w1 ⟨rfl, rfl⟩))
      go_ret
      exact ⟨rfl, HB2.out _ _⟩
end Go.Proofs.Ytglkhoekpafddaa
