/- The contracts of the program's isBetween, isDay, isWeekend and moved. The contracts of the document's Civil and Weekday. -/
import Derived.Test.YtcbbbkngjdlcjaaHay
import Derived.Test.YtcbbbkngjdlcjaaHaz
import Derived.Laws.BitsAllLaws
import Derived.Laws.Bits64b
import Derived.Test.YtcbbbkngjdlcjaaHaw
namespace Go.Proofs.Ytcbbbkngjdlcjaa
open Go.RowKit

theorem between_any (n lo hi : Int) (w : World) :
    Calls Try.prog 74 #[.int .i64 n, .int .i64 lo, .int .i64 hi] w fun e w' => e = .returned (.bool (decide (lo ≤ n ∧ n ≤ hi))) ∧ w' = w := by
  by_cases h1 : lo ≤ n <;> by_cases h2 : n ≤ hi
  all_goals
    first | rw [decide_eq_true (⟨h1, h2⟩ : lo ≤ n ∧ n ≤ hi)] | rw [decide_eq_false (fun h : lo ≤ n ∧ n ≤ hi => by omega)]
    go_enter Try.func74, Try.ntmps74
    go_wp2
    go_ret
    exact ⟨rfl, rfl⟩

theorem isDay6_any (n : Int) (w : World) :
    Calls Try.prog 65 #[.int .i64 n] w fun e w' => e = .returned (.bool (decide (isDayP n))) ∧ w' = w := by
  have HI := hideS (fun wx => between_any n 0 109572 wx)
  rw [show decide (isDayP n) = decide (0 ≤ n ∧ n ≤ 109572) from decide_eq_decide.2 Iff.rfl]
  generalize decide (0 ≤ n ∧ n ≤ 109572) = R at *
  go_enter Try.func65, Try.ntmps65
  go_wp2_with (go_at_call 74; refine (HI.out _).mono ?_; rintro e w1 ⟨rfl, rfl⟩)
  go_ret
  exact ⟨rfl, rfl⟩

theorem and_oneP (n : Int) : bits .and .i64 n 1 = n % 2 := by
  have h1 : (BitVec.ofInt 64 1).toNat = 2 ^ 1 - 1 := by decide
  have key : (BitVec.ofInt 64 n &&& BitVec.ofInt 64 1).toNat = (n % ((2 ^ 64 : Nat) : Int)).toNat % 2 ^ 1 := by
    rw [BitVec.toNat_and, BitVec.toNat_ofInt, h1, Nat.and_two_pow_sub_one_eq_mod]
  show IntKind.i64.wrap ((BitVec.ofInt 64 n &&& BitVec.ofInt 64 1).toNat : Nat) = n % 2
  rw [key, IntKind.wrap_i64]
  omega

set_option maxHeartbeats 400000 in
theorem isWeekend_any (W n : Int) (w : World) (n0 : -7 ≤ n) (n1 : n ≤ 1000000) :
    Calls Try.prog 75 #[.int .i64 W, .int .i64 n] w fun e w' => e = .returned (.bool (offB W n)) ∧ w' = w := by
  obtain ⟨k, hk⟩ : ∃ k : Nat, n % 7 = k := ⟨(n % 7).toNat, by omega⟩
  have hak : (n + 7) % 7 = (k : Int) := by omega
  have hk6 : k ≤ 6 := by omega
  have hand := and_oneP (W / 2 ^ k)
  unfold offB
  rw [hk]
  have HE : Hid ((W / ((2 ^ (((k : Nat) : Int)).toNat : Nat) : Int) % 2 == 1) = (W / 2 ^ k % 2 == 1)) := by
    show _ = _
    rw [Int.toNat_natCast, Int.natCast_pow]; rfl
  clear hk
  rw [HE.out]
  clear HE
  go_enter Try.func75, Try.ntmps75
  go_wp2_with fail
  go_ret
  exact ⟨rfl, rfl⟩

/-- What moved tells, by the steps that it goes. -/
theorem mov_free {W n mv : Int} {u d : Nat} (hu : Ups W n u d) (h0 : u = 0) : movI W n mv u d = n := by
  unfold movI
  rw [if_pos (Or.inr (by have := hu.uf; rw [h0] at this; simpa using this))]
theorem mov_up {W n mv : Int} {u d : Nat} (hu : Ups W n u d) (hm : mv ≠ 0) (hd : mv = 2 → u ≤ d) : movI W n mv u d = n + u := by
  by_cases h0 : u = 0
  · rw [mov_free hu h0, h0]; omega
  · unfold movI
    have ho : offB W n = true := by have := hu.uo 0 (by omega); simpa using this
    rw [if_neg (fun a => by
      rcases a with a | a
      · exact hm a
      · rw [ho] at a; exact Bool.noConfusion a), if_neg (fun a => by have := hd a.1; omega)]
theorem mov_down {W n mv : Int} {u d : Nat} (hu : Ups W n u d) (hm : mv = 2) (hd : d < u) : movI W n mv u d = n - d := by
  unfold movI
  have ho : offB W n = true := by have := hu.uo 0 (by omega); simpa using this
  rw [if_neg (fun a => by
      rcases a with a | a
      · omega
      · rw [ho] at a; exact Bool.noConfusion a), if_pos ⟨hm, by omega⟩]

set_option maxHeartbeats 1600000 in
theorem moved_any (W n mv : Int) (u d : Nat) (w : World) (n0 : -1 ≤ n) (n1 : n ≤ 500000) (hu : Ups W n u d) :
    Calls Try.prog 82 #[.int .i64 n, .int .i64 mv, .int .i64 W] w fun e w' => e = .returned (.int .i64 (movI W n mv u d)) ∧ w' = w := by
  have HO : Hid (∀ x wx, -7 ≤ x → x ≤ 1000000 → Calls Try.prog 75 #[.int .i64 W, .int .i64 x] wx fun e w' => e = .returned (.bool (offB W x)) ∧ w' = wx) := fun x wx a b => isWeekend_any W x wx a b
  have HU := hideS hu
  have u6 := hu.ub
  have d6 := hu.db
  obtain ⟨R, hR⟩ : ∃ R, movI W n mv u d = R := ⟨_, rfl⟩
  rw [hR]
  have HR := hideS hR
  clear hR hu
  by_cases hz : mv = 0
  · have HE : Hid (n = R) := by
      show _ = _
      rw [← HR.out]; unfold movI; rw [if_pos (Or.inl hz)]
    subst hz
    go_enter Try.func82, Try.ntmps82
    go_wp2_with fail
    go_ret
    obtain rfl := HE.out
    exact ⟨rfl, rfl⟩
  · have hz' : (mv == 0) = false := beq_eq_false_iff_ne.2 hz
    have HZ := hideS hz
    clear hz
    go_enter Try.func82, Try.ntmps82
    go_wp2_with fail
    go_loop [11] (fun i => ∃ (k : Nat), k ≤ u ∧ i = .int .i64 k ∧ Hid (mv = 2 → k ≤ d)) (fun i => u + 1 - (intOf i).toNat)
    case atStart => exact ⟨0, by omega, rfl, fun _ => by omega⟩
    case round =>
      obtain ⟨k, hk, rfl, HK⟩ := hrel
      have hk7 : (k : Int) < 7 := by omega
      have H1 := hideS (fun wx => HO.out (n + k) wx (by omega) (by omega))
      by_cases hlt : k < u
      · have e1 : offB W (n + k) = true := HU.out.uo k hlt
        rw [e1] at H1
        clear e1
        by_cases h2 : mv = 2
        · have H2 := hideS (fun wx => HO.out (n - k) wx (by omega) (by omega))
          have hkd := HK.out h2
          by_cases hld : k < d
          · have e2 : offB W (n - k) = true := HU.out.dn k hld
            rw [e2] at H2
            clear e2
            subst h2
            go_wp2_with (first | (go_at_call_of 75 (Value.int IntKind.i64 (n + k)); refine (H1.out _).mono ?_; rintro e w' ⟨rfl, rfl⟩) | (go_at_call_of 75 (Value.int IntKind.i64 (n - k)); refine (H2.out _).mono ?_; rintro e w' ⟨rfl, rfl⟩))
            go_round
            case rel => exact ⟨k + 1, by omega, by go_num, fun _ => by omega⟩
            case measure => simp [intOf]; omega
          · obtain rfl : k = d := by omega
            have e2 : offB W (n - k) = false := HU.out.df
            rw [e2] at H2
            clear e2
            have HE : Hid (n - k = R) := by
              show _ = _
              rw [← HR.out, mov_down HU.out h2 hlt]
            subst h2
            go_wp2_with (first | (go_at_call_of 75 (Value.int IntKind.i64 (n + k)); refine (H1.out _).mono ?_; rintro e w' ⟨rfl, rfl⟩) | (go_at_call_of 75 (Value.int IntKind.i64 (n - k)); refine (H2.out _).mono ?_; rintro e w' ⟨rfl, rfl⟩))
            go_ret
            obtain rfl := HE.out
            exact ⟨rfl, rfl⟩
        · have h2' : (mv == 2) = false := beq_eq_false_iff_ne.2 h2
          have HK' : Hid (mv = 2 → k + 1 ≤ d) := fun a => absurd a h2
          clear h2
          go_wp2_with (go_at_call 75; refine (H1.out _).mono ?_; rintro e w' ⟨rfl, rfl⟩)
          go_round
          case rel => exact ⟨k + 1, by omega, by go_num, HK'⟩
          case measure => simp [intOf]; omega
      · obtain rfl : k = u := by omega
        have e1 : offB W (n + k) = false := HU.out.uf
        rw [e1] at H1
        clear e1
        have HE : Hid (n + k = R) := by
          show _ = _
          rw [← HR.out, mov_up HU.out HZ.out HK.out]
        go_wp2_with (go_at_call 75; refine (H1.out _).mono ?_; rintro e w' ⟨rfl, rfl⟩)
        go_ret
        obtain rfl := HE.out
        exact ⟨rfl, rfl⟩
end Go.Proofs.Ytcbbbkngjdlcjaa
namespace Go.Proofs.Ytcbbbkngjdlcjaa
open Go.RowKit

def dateV (y m d : Int) : Value := .agg #[.int .i64 y, .int .i64 m, .int .i64 d]

set_option maxHeartbeats 1600000 in
theorem refCiv_ok (n y m d : Int) (w : World) (h : IsD n y m d) :
    Calls Try.prog 30 #[.int .i64 n] w fun e w' => e = .returned (.tuple #[dateV y m d, .int .i64 0]) ∧ Below w.heap.size w w' := by
  obtain ⟨n0, n1⟩ := h.range
  obtain ⟨a, b⟩ := h.year
  obtain ⟨a', b'⟩ := h.month
  have hd : n - nyI y - cumI y m + 1 = d := by have := h.2; unfold dayI at this; omega
  obtain ⟨h1, h2, h3, h4, _, _⟩ := h.1
  clear h
  have HA := hideS a
  have HB := hideS b
  have HA' := hideS a'
  have HB' := hideS b'
  have HD := hideS hd
  clear a b a' b' hd
  have HLen := hideS (fun (k : Int) (wx : World) (a : 1 ≤ k) (b : k ≤ 12) => refLength_any y k wx a b)
  unfold dateV
  go_enter Try.func30, Try.ntmps30
  go_wp2_with fail
  go_loop [0, 4, 5] (fun c i _ => ∃ (j C : Int), 1900 ≤ j ∧ j ≤ y ∧ 0 ≤ C ∧ C ≤ 110000 ∧ i = .int .i64 j ∧ c = .int .i64 C ∧ Hid (C = n - nyI j)) (fun _ i _ => (y - intOf i).toNat)
  case atStart => exact ⟨1900, n, by omega, by omega, by omega, by omega, rfl, rfl, by show _ = _; rw [ny_first]; omega⟩
  case round =>
    obtain ⟨j, C, hj1, hj2, hC0, hC1, rfl, rfl, HC⟩ := hrel
    by_cases hlt : j < y
    · have HS : Hid (C - 365 - lpI j = n - nyI (j + 1)) := by
        show _ = _
        rw [HC.out, ny_succ hj1]; omega
      have HP : Hid (0 ≤ C - 365 - lpI j) := by
        show _ ≤ _
        rw [HS.out]
        have := ny_mono (y := j + 1) (z := y) (by omega) (by omega)
        have := HA.out
        omega
      cases hl : leapB j
      · rw [lp_false hl] at HS HP
        have hge : ¬ C < 365 := by have := HP.out; omega
        go_wp2_with (go_at_call 32; refine (refLeap_any _ _).mono ?_; rintro e w' ⟨rfl, rfl⟩)
        go_round
        case rel => exact ⟨j + 1, C - 365, by omega, by omega, by omega, by omega, rfl, rfl, by have := HS.out; show _ = _; omega⟩
        case measure => simp [intOf]; omega
      · rw [lp_true hl] at HS HP
        have hge : ¬ C < 366 := by have := HP.out; omega
        go_wp2_with (go_at_call 32; refine (refLeap_any _ _).mono ?_; rintro e w' ⟨rfl, rfl⟩)
        go_round
        case rel => exact ⟨j + 1, C - 366, by omega, by omega, by omega, by omega, rfl, rfl, by have := HS.out; show _ = _; omega⟩
        case measure => simp [intOf]; omega
    · obtain rfl : j = y := by omega
      have HP : Hid (C < 365 + lpI j) := by
        have := HB.out
        rw [ny_succ hj1] at this
        have := HC.out
        show _ < _
        omega
      cases hl : leapB j
      all_goals
        first | rw [lp_false hl] at HP | rw [lp_true hl] at HP
        have hlt : C < 365 ∨ C < 366 := Or.inr (by have := HP.out; omega)
        clear hlt
        have hlt := HP.out
        first | (have hlt : C < 365 := by omega) | (have hlt : C < 366 := by omega)
        go_wp2_with (go_at_call 32; refine (refLeap_any _ _).mono ?_; rintro e w' ⟨rfl, rfl⟩)
        clear hlt HP
        go_loop [0, 6] (fun c i => ∃ (k C : Int), 1 ≤ k ∧ k ≤ m ∧ 0 ≤ C ∧ C ≤ 110000 ∧ i = .int .i64 k ∧ c = .int .i64 C ∧ Hid (C = n - nyI j - cumI j k)) (fun _ i => (m - intOf i).toNat)
        case atStart => exact ⟨1, C, by omega, by omega, by omega, by omega, rfl, rfl, by show _ = _; rw [cum_first, HC.out]; omega⟩
        case round =>
          clear HC hC0 hC1
          obtain ⟨k, C, hk1, hk, hC0, hC1, rfl, rfl, HC⟩ := hrel
          have H := hideS (fun wx => HLen.out k wx (by omega) (by omega))
          have HS : Hid (cumI j (k + 1) = cumI j k + lenI j k) := cum_succ (by omega) (by omega)
          have l1 := len_lo j k
          by_cases hlt : k < m
          · have hge : lenI j k ≤ C := by
              have := cum_mono (y := j) (m := k + 1) (k := m) (by omega) (by omega) (by omega)
              have := HS.out
              have := HC.out
              have := HA'.out
              omega
            have HC' : Hid (C - lenI j k = n - nyI j - cumI j (k + 1)) := by
              show _ = _
              rw [HS.out, HC.out]; omega
            generalize lenI j k = l at *
            go_wp2_with (go_at_call 47; refine (H.out _).mono ?_; rintro e w' ⟨rfl, rfl⟩)
            go_round
            case rel => exact ⟨k + 1, C - l, by omega, by omega, by omega, by omega, rfl, rfl, HC'⟩
            case measure => simp [intOf]; omega
          · obtain rfl : k = m := by omega
            have hge : ¬ lenI j k ≤ C := by
              have := HB'.out
              rw [HS.out] at this
              have := HC.out
              omega
            have HE : Hid (C + 1 = d) := by
              show _ = _
              rw [← HD.out, HC.out]
            clear HC HD
            generalize lenI j k = l at *
            go_wp2_with (go_at_call 47; refine (H.out _).mono ?_; rintro e w' ⟨rfl, rfl⟩)
            obtain rfl := HE.out
            (try simp only [Exit.inBlock, Exit.then])
            refine bodyPost_ret (v := .tuple #[.agg #[.int .i64 j, .int .i64 k, .int .i64 (C + 1)], .int .i64 0]) (by simp [results, Try.results30, go_sem]) rfl ⟨rfl, ?_⟩
            exact ((Below.refl w.heap.size w).alloc (Nat.le_refl _) _)
theorem refCiv_bad (n : Int) (w : World) (h : ¬ (0 ≤ n ∧ n ≤ 109572)) :
    Calls Try.prog 30 #[.int .i64 n] w fun e w' => e = .returned (.tuple #[dateV 0 0 0, .int .i64 51]) ∧ Below w.heap.size w w' := by
  unfold dateV
  rcases (show n < 0 ∨ (0 ≤ n ∧ 109572 < n) by omega) with h1 | ⟨h1, h2⟩
  all_goals
    clear h
    go_enter Try.func30, Try.ntmps30
    go_wp2_with fail
    (try simp only [Exit.inBlock, Exit.then])
    refine bodyPost_ret (v := .tuple #[.agg #[.int .i64 0, .int .i64 0, .int .i64 0], .int .i64 51]) (by simp [results, Try.results30, go_sem]) rfl ⟨rfl, ?_⟩
    exact ((Below.refl w.heap.size w).alloc (Nat.le_refl _) _)
end Go.Proofs.Ytcbbbkngjdlcjaa
