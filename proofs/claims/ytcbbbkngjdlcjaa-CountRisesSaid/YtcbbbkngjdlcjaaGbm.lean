/- The contracts of the program's isBetween, isDay, isWeekend and moved. The contracts of the program's rules: may they be? -/
import Derived.Test.YtcbbbkngjdlcjaaGae
import Derived.Test.YtcbbbkngjdlcjaaGbk
import Derived.Laws.BitsAllLaws
import Derived.Laws.Bits64b
import Derived.Test.YtcbbbkngjdlcjaaGai
namespace Go.Proofs.Ytcbbbkngjdlcjaa
open Go.RowKit

theorem between_any (n lo hi : Int) (w : World) :
    Calls Try.prog 74 #[.int .i64 n, .int .i64 lo, .int .i64 hi] w fun e w' => e = .returned (.bool (decide (lo ≤ n ∧ n ≤ hi))) ∧ w' = w := by
  by_cases h1 : lo ≤ n <;> by_cases h2 : n ≤ hi
  all_goals
    first | rw [decide_eq_true (⟨h1, h2⟩ : lo ≤ n ∧ n ≤ hi)] | rw [decide_eq_false (fun h : lo ≤ n ∧ n ≤ hi => by omega)]
    go_enter Try.func74, Try.ntmps74
    go_wp2
    go_ret
    exact ⟨rfl, rfl⟩

theorem isDay6_any (n : Int) (w : World) :
    Calls Try.prog 65 #[.int .i64 n] w fun e w' => e = .returned (.bool (decide (isDayP n))) ∧ w' = w := by
  have HI := hideS (fun wx => between_any n 0 109572 wx)
  rw [show decide (isDayP n) = decide (0 ≤ n ∧ n ≤ 109572) from decide_eq_decide.2 Iff.rfl]
  generalize decide (0 ≤ n ∧ n ≤ 109572) = R at *
  go_enter Try.func65, Try.ntmps65
  go_wp2_with (go_at_call 74; refine (HI.out _).mono ?_; rintro e w1 ⟨rfl, rfl⟩)
  go_ret
  exact ⟨rfl, rfl⟩

theorem and_oneP (n : Int) : bits .and .i64 n 1 = n % 2 := by
  have h1 : (BitVec.ofInt 64 1).toNat = 2 ^ 1 - 1 := by decide
  have key : (BitVec.ofInt 64 n &&& BitVec.ofInt 64 1).toNat = (n % ((2 ^ 64 : Nat) : Int)).toNat % 2 ^ 1 := by
    rw [BitVec.toNat_and, BitVec.toNat_ofInt, h1, Nat.and_two_pow_sub_one_eq_mod]
  show IntKind.i64.wrap ((BitVec.ofInt 64 n &&& BitVec.ofInt 64 1).toNat : Nat) = n % 2
  rw [key, IntKind.wrap_i64]
  omega

set_option maxHeartbeats 400000 in
theorem isWeekend_any (W n : Int) (w : World) (n0 : -7 ≤ n) (n1 : n ≤ 1000000) :
    Calls Try.prog 75 #[.int .i64 W, .int .i64 n] w fun e w' => e = .returned (.bool (offB W n)) ∧ w' = w := by
  obtain ⟨k, hk⟩ : ∃ k : Nat, n % 7 = k := ⟨(n % 7).toNat, by omega⟩
  have hak : (n + 7) % 7 = (k : Int) := by omega
  have hk6 : k ≤ 6 := by omega
  have hand := and_oneP (W / 2 ^ k)
  unfold offB
  rw [hk]
  have HE : Hid ((W / ((2 ^ (((k : Nat) : Int)).toNat : Nat) : Int) % 2 == 1) = (W / 2 ^ k % 2 == 1)) := by
    show _ = _
    rw [Int.toNat_natCast, Int.natCast_pow]; rfl
  clear hk
  rw [HE.out]
  clear HE
  go_enter Try.func75, Try.ntmps75
  go_wp2_with fail
  go_ret
  exact ⟨rfl, rfl⟩

/-- What moved tells, by the steps that it goes. -/
theorem mov_free {W n mv : Int} {u d : Nat} (hu : Ups W n u d) (h0 : u = 0) : movI W n mv u d = n := by
  unfold movI
  rw [if_pos (Or.inr (by have := hu.uf; rw [h0] at this; simpa using this))]
theorem mov_up {W n mv : Int} {u d : Nat} (hu : Ups W n u d) (hm : mv ≠ 0) (hd : mv = 2 → u ≤ d) : movI W n mv u d = n + u := by
  by_cases h0 : u = 0
  · rw [mov_free hu h0, h0]; omega
  · unfold movI
    have ho : offB W n = true := by have := hu.uo 0 (by omega); simpa using this
    rw [if_neg (fun a => by
      rcases a with a | a
      · exact hm a
      · rw [ho] at a; exact Bool.noConfusion a), if_neg (fun a => by have := hd a.1; omega)]
theorem mov_down {W n mv : Int} {u d : Nat} (hu : Ups W n u d) (hm : mv = 2) (hd : d < u) : movI W n mv u d = n - d := by
  unfold movI
  have ho : offB W n = true := by have := hu.uo 0 (by omega); simpa using this
  rw [if_neg (fun a => by
      rcases a with a | a
      · omega
      · rw [ho] at a; exact Bool.noConfusion a), if_pos ⟨hm, by omega⟩]

set_option maxHeartbeats 1600000 in
theorem moved_any (W n mv : Int) (u d : Nat) (w : World) (n0 : -1 ≤ n) (n1 : n ≤ 500000) (hu : Ups W n u d) :
    Calls Try.prog 82 #[.int .i64 n, .int .i64 mv, .int .i64 W] w fun e w' => e = .returned (.int .i64 (movI W n mv u d)) ∧ w' = w := by
  have HO : Hid (∀ x wx, -7 ≤ x → x ≤ 1000000 → Calls Try.prog 75 #[.int .i64 W, .int .i64 x] wx fun e w' => e = .returned (.bool (offB W x)) ∧ w' = wx) := fun x wx a b => isWeekend_any W x wx a b
  have HU := hideS hu
  have u6 := hu.ub
  have d6 := hu.db
  obtain ⟨R, hR⟩ : ∃ R, movI W n mv u d = R := ⟨_, rfl⟩
  rw [hR]
  have HR := hideS hR
  clear hR hu
  by_cases hz : mv = 0
  · have HE : Hid (n = R) := by
      show _ = _
      rw [← HR.out]; unfold movI; rw [if_pos (Or.inl hz)]
    subst hz
    go_enter Try.func82, Try.ntmps82
    go_wp2_with fail
    go_ret
    obtain rfl := HE.out
    exact ⟨rfl, rfl⟩
  · have hz' : (mv == 0) = false := beq_eq_false_iff_ne.2 hz
    have HZ := hideS hz
    clear hz
    go_enter Try.func82, Try.ntmps82
    go_wp2_with fail
    go_loop [11] (fun i => ∃ (k : Nat), k ≤ u ∧ i = .int .i64 k ∧ Hid (mv = 2 → k ≤ d)) (fun i => u + 1 - (intOf i).toNat)
    case atStart => exact ⟨0, by omega, rfl, fun _ => by omega⟩
    case round =>
      obtain ⟨k, hk, rfl, HK⟩ := hrel
      have hk7 : (k : Int) < 7 := by omega
      have H1 := hideS (fun wx => HO.out (n + k) wx (by omega) (by omega))
      by_cases hlt : k < u
      · have e1 : offB W (n + k) = true := HU.out.uo k hlt
        rw [e1] at H1
        clear e1
        by_cases h2 : mv = 2
        · have H2 := hideS (fun wx => HO.out (n - k) wx (by omega) (by omega))
          have hkd := HK.out h2
          by_cases hld : k < d
          · have e2 : offB W (n - k) = true := HU.out.dn k hld
            rw [e2] at H2
            clear e2
            subst h2
            go_wp2_with (first | (go_at_call_of 75 (Value.int IntKind.i64 (n + k)); refine (H1.out _).mono ?_; rintro e w' ⟨rfl, rfl⟩) | (go_at_call_of 75 (Value.int IntKind.i64 (n - k)); refine (H2.out _).mono ?_; rintro e w' ⟨rfl, rfl⟩))
            go_round
            case rel => exact ⟨k + 1, by omega, by go_num, fun _ => by omega⟩
            case measure => simp [intOf]; omega
          · obtain rfl : k = d := by omega
            have e2 : offB W (n - k) = false := HU.out.df
            rw [e2] at H2
            clear e2
            have HE : Hid (n - k = R) := by
              show _ = _
              rw [← HR.out, mov_down HU.out h2 hlt]
            subst h2
            go_wp2_with (first | (go_at_call_of 75 (Value.int IntKind.i64 (n + k)); refine (H1.out _).mono ?_; rintro e w' ⟨rfl, rfl⟩) | (go_at_call_of 75 (Value.int IntKind.i64 (n - k)); refine (H2.out _).mono ?_; rintro e w' ⟨rfl, rfl⟩))
            go_ret
            obtain rfl := HE.out
            exact ⟨rfl, rfl⟩
        · have h2' : (mv == 2) = false := beq_eq_false_iff_ne.2 h2
          have HK' : Hid (mv = 2 → k + 1 ≤ d) := fun a => absurd a h2
          clear h2
          go_wp2_with (go_at_call 75; refine (H1.out _).mono ?_; rintro e w' ⟨rfl, rfl⟩)
          go_round
          case rel => exact ⟨k + 1, by omega, by go_num, HK'⟩
          case measure => simp [intOf]; omega
      · obtain rfl : k = u := by omega
        have e1 : offB W (n + k) = false := HU.out.uf
        rw [e1] at H1
        clear e1
        have HE : Hid (n + k = R) := by
          show _ = _
          rw [← HR.out, mov_up HU.out HZ.out HK.out]
        go_wp2_with (go_at_call 75; refine (H1.out _).mono ?_; rintro e w' ⟨rfl, rfl⟩)
        go_ret
        obtain rfl := HE.out
        exact ⟨rfl, rfl⟩
end Go.Proofs.Ytcbbbkngjdlcjaa
namespace Go.Proofs.Ytcbbbkngjdlcjaa
open Go.RowKit

theorem fit1' (mon day nth wd off fr to mv : Int) : fitB ⟨1, mon, day, nth, wd, off, fr, to, mv⟩ = decide ((1900 ≤ fr ∧ fr ≤ 2199 ∧ fr ≤ to ∧ to ≤ 2199 ∧ 0 ≤ mv ∧ mv ≤ 2) ∧ nth = 0 ∧ wd = 0 ∧ off = 0 ∧ 1 ≤ mon ∧ mon ≤ 12 ∧ 1 ≤ day ∧ day ≤ mostI mon) := by
  by_cases h : RngR fr to mv
  · rw [fit1 h]; exact decide_eq_decide.2 ⟨fun a => ⟨h, a⟩, fun a => a.2⟩
  · rw [fit_rng (by decide) h, decide_eq_false (fun a => h a.1)]
theorem fit2' (mon day nth wd off fr to mv : Int) : fitB ⟨2, mon, day, nth, wd, off, fr, to, mv⟩ = decide ((1900 ≤ fr ∧ fr ≤ 2199 ∧ fr ≤ to ∧ to ≤ 2199 ∧ 0 ≤ mv ∧ mv ≤ 2) ∧ day = 0 ∧ off = 0 ∧ 1 ≤ mon ∧ mon ≤ 12 ∧ 0 ≤ wd ∧ wd ≤ 6 ∧ 1 ≤ nth ∧ nth ≤ 5) := by
  by_cases h : RngR fr to mv
  · rw [fit2 h]; exact decide_eq_decide.2 ⟨fun a => ⟨h, a⟩, fun a => a.2⟩
  · rw [fit_rng (by decide) h, decide_eq_false (fun a => h a.1)]
theorem fit3' (mon day nth wd off fr to mv : Int) : fitB ⟨3, mon, day, nth, wd, off, fr, to, mv⟩ = decide ((1900 ≤ fr ∧ fr ≤ 2199 ∧ fr ≤ to ∧ to ≤ 2199 ∧ 0 ≤ mv ∧ mv ≤ 2) ∧ mon = 0 ∧ day = 0 ∧ nth = 0 ∧ wd = 0 ∧ -100 ≤ off ∧ off ≤ 100) := by
  by_cases h : RngR fr to mv
  · rw [fit3 h]; exact decide_eq_decide.2 ⟨fun a => ⟨h, a⟩, fun a => a.2⟩
  · rw [fit_rng (by decide) h, decide_eq_false (fun a => h a.1)]
theorem below2 (w : World) (o1 o2 : Obj) : Below w.heap.size w ((w.alloc o1).alloc o2) := ((Below.refl w.heap.size w).alloc (Nat.le_refl _) _).alloc (by simp) _

theorem isDay6_lit (n : Int) (w : World) :
    Calls Try.prog 65 #[.int .i64 n] w fun e w' => e = .returned (.bool (decide (0 ≤ n ∧ n ≤ 109572))) ∧ w' = w := by
  have := isDay6_any n w
  rw [show decide (isDayP n) = decide (0 ≤ n ∧ n ≤ 109572) from decide_eq_decide.2 Iff.rfl] at this
  exact this

set_option maxHeartbeats 1600000 in
theorem again_any (kind mon day nth wd off fr to mv : Int) (w : World) :
    Calls Try.prog 101 #[.agg #[.int .i64 kind, .int .i64 mon, .int .i64 day, .int .i64 nth, .int .i64 wd, .int .i64 off, .int .i64 fr, .int .i64 to, .int .i64 mv]] w fun e w' => e = .returned (.bool (decide (1900 ≤ fr ∧ fr ≤ 2199 ∧ fr ≤ to ∧ to ≤ 2199 ∧ 0 ≤ mv ∧ mv ≤ 2))) ∧ Below w.heap.size w w' := by
  obtain ⟨R, hR⟩ : ∃ R, decide (1900 ≤ fr ∧ fr ≤ 2199 ∧ fr ≤ to ∧ to ≤ 2199 ∧ 0 ≤ mv ∧ mv ≤ 2) = R := ⟨_, rfl⟩
  rw [hR]
  have HR := hideS hR
  clear hR
  go_enter Try.func101, Try.ntmps101
  go_wp2_with (go_at_call 74; refine (between_any _ _ _ _).mono ?_; rintro e w1 ⟨rfl, rfl⟩)
  all_goals
    go_ret
    refine ⟨retB (Eq.trans ?_ HR.out), (Below.refl w.heap.size w).alloc (Nat.le_refl _) _⟩
    first | exact (decide_eq_false (by omega)).symm | exact decide_eq_decide.2 (by omega) | (rw [Bool.eq_iff_iff]; simp only [Bool.and_eq_true, decide_eq_true_eq]; omega)

theorem most_len {m : Int} (h1 : 1 ≤ m) (h2 : m ≤ 12) : lenI 2000 m = mostI m := by
  rcases month_cases h1 h2 with rfl | rfl | rfl | rfl | rfl | rfl | rfl | rfl | rfl | rfl | rfl | rfl <;> decide

set_option maxHeartbeats 3200000 in
theorem may4_any (mon day nth wd off fr to mv : Int) (w : World) :
    Calls Try.prog 109 #[.agg #[.int .i64 4, .int .i64 mon, .int .i64 day, .int .i64 nth, .int .i64 wd, .int .i64 off, .int .i64 fr, .int .i64 to, .int .i64 mv]] w fun e w' => e = .returned (.bool (fitB ⟨4, mon, day, nth, wd, off, fr, to, mv⟩)) ∧ Below w.heap.size w w' := by
  rw [fit4]
  obtain ⟨R, hR⟩ : ∃ R, decide (mon = 0 ∧ nth = 0 ∧ wd = 0 ∧ off = 0 ∧ fr = 0 ∧ to = 0 ∧ mv = 0 ∧ 0 ≤ day ∧ day ≤ 109572) = R := ⟨_, rfl⟩
  rw [hR]
  have HR := hideS hR
  clear hR
  go_enter Try.func109, Try.ntmps109
  go_wp2_with (go_at_call 65; refine (isDay6_lit _ _).mono ?_; rintro e w1 ⟨rfl, rfl⟩)
  all_goals
    go_ret
    refine ⟨retB (Eq.trans ?_ HR.out), (Below.refl w.heap.size w).alloc (Nat.le_refl _) _⟩
    first | exact (decide_eq_false (by omega)).symm | exact decide_eq_decide.2 (by omega) | (rw [Bool.eq_iff_iff]; simp only [Bool.and_eq_true, decide_eq_true_eq]; omega)

set_option maxHeartbeats 3200000 in
theorem may3_any (mon day nth wd off fr to mv : Int) (w : World) :
    Calls Try.prog 105 #[.agg #[.int .i64 3, .int .i64 mon, .int .i64 day, .int .i64 nth, .int .i64 wd, .int .i64 off, .int .i64 fr, .int .i64 to, .int .i64 mv]] w fun e w' => e = .returned (.bool (fitB ⟨3, mon, day, nth, wd, off, fr, to, mv⟩)) ∧ Below w.heap.size w w' := by
  rw [fit3']
  obtain ⟨R, hR⟩ : ∃ R, decide ((1900 ≤ fr ∧ fr ≤ 2199 ∧ fr ≤ to ∧ to ≤ 2199 ∧ 0 ≤ mv ∧ mv ≤ 2) ∧ mon = 0 ∧ day = 0 ∧ nth = 0 ∧ wd = 0 ∧ -100 ≤ off ∧ off ≤ 100) = R := ⟨_, rfl⟩
  rw [hR]
  have HR := hideS hR
  clear hR
  have HB2 := hideS (below2 w)
  have HA := hideS (fun kind mon day nth wd off fr to mv wx => again_any kind mon day nth wd off fr to mv wx)
  go_enter Try.func105, Try.ntmps105
  go_wp2_with (first | (go_at_call 74; refine (between_any _ _ _ _).mono ?_; rintro e w1 ⟨rfl, rfl⟩) | (go_at_call 101; refine (HA.out _ _ _ _ _ _ _ _ _ _).mono ?_; rintro e w1 ⟨rfl, hb1⟩))
  all_goals
    go_ret
    first
    | refine ⟨retB (Eq.trans ?_ HR.out), HB2.out _ _⟩
    | refine ⟨retB (Eq.trans ?_ HR.out), (HB2.out _ _).trans (hb1.mono (by simp <;> omega))⟩
    first | exact (decide_eq_false (by omega)).symm | exact decide_eq_decide.2 (by omega) | (rw [Bool.eq_iff_iff]; simp only [Bool.and_eq_true, decide_eq_true_eq]; omega)

set_option maxHeartbeats 3200000 in
theorem may2_any (mon day nth wd off fr to mv : Int) (w : World) :
    Calls Try.prog 103 #[.agg #[.int .i64 2, .int .i64 mon, .int .i64 day, .int .i64 nth, .int .i64 wd, .int .i64 off, .int .i64 fr, .int .i64 to, .int .i64 mv]] w fun e w' => e = .returned (.bool (fitB ⟨2, mon, day, nth, wd, off, fr, to, mv⟩)) ∧ Below w.heap.size w w' := by
  rw [fit2']
  obtain ⟨R, hR⟩ : ∃ R, decide ((1900 ≤ fr ∧ fr ≤ 2199 ∧ fr ≤ to ∧ to ≤ 2199 ∧ 0 ≤ mv ∧ mv ≤ 2) ∧ day = 0 ∧ off = 0 ∧ 1 ≤ mon ∧ mon ≤ 12 ∧ 0 ≤ wd ∧ wd ≤ 6 ∧ 1 ≤ nth ∧ nth ≤ 5) = R := ⟨_, rfl⟩
  rw [hR]
  have HR := hideS hR
  clear hR
  have HB2 := hideS (below2 w)
  have HA := hideS (fun kind mon day nth wd off fr to mv wx => again_any kind mon day nth wd off fr to mv wx)
  go_enter Try.func103, Try.ntmps103
  go_wp2_with (first | (go_at_call 74; refine (between_any _ _ _ _).mono ?_; rintro e w1 ⟨rfl, rfl⟩) | (go_at_call 101; refine (HA.out _ _ _ _ _ _ _ _ _ _).mono ?_; rintro e w1 ⟨rfl, hb1⟩))
  all_goals
    go_ret
    first
    | refine ⟨retB (Eq.trans ?_ HR.out), HB2.out _ _⟩
    | refine ⟨retB (Eq.trans ?_ HR.out), (HB2.out _ _).trans (hb1.mono (by simp <;> omega))⟩
    first | exact (decide_eq_false (by omega)).symm | exact decide_eq_decide.2 (by omega) | (rw [Bool.eq_iff_iff]; simp only [Bool.and_eq_true, decide_eq_true_eq]; omega)

set_option maxHeartbeats 3200000 in
theorem may1_any (mon day nth wd off fr to mv : Int) (w : World) :
    Calls Try.prog 100 #[.agg #[.int .i64 1, .int .i64 mon, .int .i64 day, .int .i64 nth, .int .i64 wd, .int .i64 off, .int .i64 fr, .int .i64 to, .int .i64 mv]] w fun e w' => e = .returned (.bool (fitB ⟨1, mon, day, nth, wd, off, fr, to, mv⟩)) ∧ Below w.heap.size w w' := by
  rw [fit1']
  have HB2 := hideS (below2 w)
  have HA := hideS (fun kind mon day nth wd off fr to mv wx => again_any kind mon day nth wd off fr to mv wx)
  by_cases hm : 1 ≤ mon ∧ mon ≤ 12
  · have HL := hideS (fun wx => lengthP_ok 2000 mon wx ⟨by decide, by decide, hm.1, hm.2⟩)
    rw [most_len hm.1 hm.2] at HL
    generalize mostI mon = L at *
    obtain ⟨R, hR⟩ : ∃ R, decide ((1900 ≤ fr ∧ fr ≤ 2199 ∧ fr ≤ to ∧ to ≤ 2199 ∧ 0 ≤ mv ∧ mv ≤ 2) ∧ nth = 0 ∧ wd = 0 ∧ off = 0 ∧ 1 ≤ mon ∧ mon ≤ 12 ∧ 1 ≤ day ∧ day ≤ L) = R := ⟨_, rfl⟩
    rw [hR]
    have HR := hideS hR
    clear hR
    go_enter Try.func100, Try.ntmps100
    go_wp2_with (first | (go_at_call 70; refine (HL.out _).mono ?_; rintro e w1 ⟨rfl, rfl⟩) | (go_at_call 74; refine (between_any _ _ _ _).mono ?_; rintro e w1 ⟨rfl, rfl⟩) | (go_at_call 101; refine (HA.out _ _ _ _ _ _ _ _ _ _).mono ?_; rintro e w1 ⟨rfl, hb1⟩))
    all_goals
      go_ret
      first
      | refine ⟨retB (Eq.trans ?_ HR.out), HB2.out _ _⟩
      | refine ⟨retB (Eq.trans ?_ HR.out), (HB2.out _ _).trans (hb1.mono (by simp <;> omega))⟩
      first | exact (decide_eq_false (by omega)).symm | exact decide_eq_decide.2 (by omega) | (rw [Bool.eq_iff_iff]; simp only [Bool.and_eq_true, decide_eq_true_eq]; omega)
  · have HL := hideS (fun wx => lengthP_bad 2000 mon wx (fun a => hm ⟨a.2.2.1, a.2.2.2⟩))
    rw [decide_eq_false (fun a => hm ⟨a.2.2.2.2.1, a.2.2.2.2.2.1⟩)]
    clear hm
    go_enter Try.func100, Try.ntmps100
    go_wp2_with (go_at_call 70; refine (HL.out _).mono ?_; rintro e w1 ⟨rfl, rfl⟩)
    all_goals
      go_ret
      exact ⟨rfl, HB2.out _ _⟩

set_option maxHeartbeats 400000 in
theorem may0_any (w : World) :
    Calls Try.prog 111 #[.agg #[]] w fun e w' => e = .returned (.bool false) ∧ Below w.heap.size w w' := by
  go_enter Try.func111, Try.ntmps111
  go_wp2_with fail
  go_ret
  exact ⟨rfl, (Below.refl w.heap.size w).alloc (Nat.le_refl _) _⟩

/-- The dynamic type of a rule, by its kind. -/
def tyK (k : Int) : Nat := if k = 1 then 107 else if k = 2 then 108 else if k = 3 then 109 else 110
set_option maxHeartbeats 1600000 in
theorem holidayOf_any (kind mon day nth wd off fr to mv : Int) (w : World) (hk : kind = 1 ∨ kind = 2 ∨ kind = 3 ∨ kind = 4) :
    Calls Try.prog 73 #[.agg #[.int .i64 kind, .int .i64 mon, .int .i64 day, .int .i64 nth, .int .i64 wd, .int .i64 off, .int .i64 fr, .int .i64 to, .int .i64 mv]] w fun e w' => e = .returned (.iface (tyK kind) (.agg #[.int .i64 kind, .int .i64 mon, .int .i64 day, .int .i64 nth, .int .i64 wd, .int .i64 off, .int .i64 fr, .int .i64 to, .int .i64 mv])) ∧ Below w.heap.size w w' := by
  rcases hk with rfl | rfl | rfl | rfl
  all_goals
    go_enter Try.func73, Try.ntmps73
    go_wp2_with fail
    go_ret
    exact ⟨rfl, (Below.refl w.heap.size w).alloc (Nat.le_refl _) _⟩
set_option maxHeartbeats 1600000 in
theorem holidayOf_none (kind mon day nth wd off fr to mv : Int) (w : World) (hk : ¬ (kind = 1 ∨ kind = 2 ∨ kind = 3 ∨ kind = 4)) :
    Calls Try.prog 73 #[.agg #[.int .i64 kind, .int .i64 mon, .int .i64 day, .int .i64 nth, .int .i64 wd, .int .i64 off, .int .i64 fr, .int .i64 to, .int .i64 mv]] w fun e w' => e = .returned (.iface 112 (.agg #[])) ∧ Below w.heap.size w w' := by
  have k1 : (kind == 1) = false := beq_eq_false_iff_ne.2 (fun a => hk (by omega))
  have k2 : (kind == 2) = false := beq_eq_false_iff_ne.2 (fun a => hk (by omega))
  have k3 : (kind == 3) = false := beq_eq_false_iff_ne.2 (fun a => hk (by omega))
  have k4 : (kind == 4) = false := beq_eq_false_iff_ne.2 (fun a => hk (by omega))
  clear hk
  go_enter Try.func73, Try.ntmps73
  go_wp2_with fail
  go_ret
  exact ⟨rfl, (Below.refl w.heap.size w).alloc (Nat.le_refl _) _⟩
end Go.Proofs.Ytcbbbkngjdlcjaa
