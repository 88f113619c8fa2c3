/- The contract of Parse at any text. -/
import Derived.Test.YtgigmepilpfefaaDoorDOf
import Derived.Test.YtgigmepilpfefaaDoorDTxt
namespace Go.Proofs.YtgigmepilpfefaaDoor
open Go.RowKit

theorem okB_dash {i b : Nat} (h : i = 4 ∨ i = 7) : okB i b = (b == 45) := by unfold okB; rw [if_pos h]
theorem okB_dig {i b : Nat} (h : ¬ (i = 4 ∨ i = 7)) : okB i b = digB b := by unfold okB; rw [if_neg h]
theorem txt_no {s : ByteArray} {i : Nat} (hi : i < 10) (h : okB i (bt s i) = false) : decide (txtOk s) = false := by
  rw [decide_eq_false_iff_not]
  intro a
  rw [a.2 i hi] at h
  exact Bool.noConfusion h

set_option maxHeartbeats 800000 in
theorem isText_any (s : ByteArray) (w : World) :
    Calls Tryd.prog 15 #[.string s] w fun e w' => e = .returned (.bool (decide (txtOk s))) ∧ Below w.heap.size w w' := by
  by_cases hz : s.size = 10
  · obtain ⟨R, hR⟩ : ∃ R, decide (txtOk s) = R := ⟨_, rfl⟩
    rw [hR]
    have HR := hideS hR
    clear hR
    go_enter Tryd.func15, Tryd.ntmps15
    go_wp2_with fail
    go_loopw [3] (fun _ w' => ∃ (pos : Nat), w' = w.iter s pos ∧ pos ≤ 10 ∧ Hid (∀ i < pos, okB i (bt s i) = true)) (fun _ w' => 10 - w'.iterPos w.heap.size)
    case atStart => exact ⟨0, rfl, by omega, fun i hi => by omega⟩
    case round =>
      obtain ⟨pos, rfl, hp, HP⟩ := hrel
      by_cases hlt : pos < 10
      · obtain ⟨r, q, hnx, r0, r1, hr⟩ := next_rune (P := Tryd.prog) w s pos (by omega)
        have HRr := hideS hr
        clear hr
        obtain ⟨p, hpp⟩ : ∃ p : Int, (pos : Int) = p := ⟨_, rfl⟩
        rw [hpp] at hnx
        have HPP := hideS hpp
        have p0 : 0 ≤ p := by omega
        have p1 : p < 10 := by omega
        clear hpp
        by_cases hd : p = 4 ∨ p = 7
        · have HB : Hid (okB pos (bt s pos) = (bt s pos == 45)) := okB_dash (by have := HPP.out; omega)
          by_cases hr45 : r = 45
          · have HQ : Hid (q = 1 ∧ okB pos (bt s pos) = true) := by
              rcases HRr.out with ⟨_, b, c⟩ | ⟨b, _⟩
              · refine ⟨c, ?_⟩
                rw [HB.out, beq_iff_eq]; omega
              · omega
            obtain rfl := HQ.out.1
            subst hr45
            rcases hd with rfl | rfl
            all_goals
              go_wp2_with fail
              go_roundw
              case rel =>
                refine ⟨pos + 1, rfl, by omega, fun i hi => ?_⟩
                by_cases hip : i < pos
                · exact HP.out i hip
                · obtain rfl : i = pos := by omega
                  exact HQ.out.2
              case measure => simp; omega
          · have HN : Hid (false = R) := by
              show false = R
              rw [← HR.out]
              refine (txt_no hlt ?_).symm
              rw [HB.out, beq_eq_false_iff_ne]
              rcases HRr.out with ⟨_, b, _⟩ | ⟨_, b⟩ <;> omega
            rcases hd with rfl | rfl
            all_goals
              go_wp2_with fail
              go_ret
              obtain rfl := HN.out
              exact ⟨rfl, (Below.refl w.heap.size w).alloc (Nat.le_refl _) _⟩
        · have HB : Hid (okB pos (bt s pos) = digB (bt s pos)) := okB_dig (by have := HPP.out; omega)
          have hd4 : (p == 4) = false := by rw [beq_eq_false_iff_ne]; omega
          have hd7 : (p == 7) = false := by rw [beq_eq_false_iff_ne]; omega
          clear hd
          by_cases hdg : 48 ≤ r ∧ r ≤ 57
          · obtain ⟨g0, g1⟩ := hdg
            have HQ : Hid (q = 1 ∧ okB pos (bt s pos) = true) := by
              rcases HRr.out with ⟨_, b, c⟩ | ⟨b, _⟩
              · refine ⟨c, ?_⟩
                rw [HB.out]; unfold digB; rw [decide_eq_true_eq]; omega
              · omega
            obtain rfl := HQ.out.1
            go_wp2_with fail
            go_roundw
            case rel =>
              refine ⟨pos + 1, rfl, by omega, fun i hi => ?_⟩
              by_cases hip : i < pos
              · exact HP.out i hip
              · obtain rfl : i = pos := by omega
                exact HQ.out.2
            case measure => simp; omega
          · have HN : Hid (false = R) := by
              show false = R
              rw [← HR.out]
              refine (txt_no hlt ?_).symm
              rw [HB.out]; unfold digB; rw [decide_eq_false_iff_not]
              rcases HRr.out with ⟨_, b, _⟩ | ⟨_, b⟩ <;> omega
            rcases (show r < 48 ∨ (48 ≤ r ∧ 57 < r) by omega) with g0 | ⟨g0, g1⟩
            all_goals
              clear hdg
              go_wp2_with fail
              go_ret
              obtain rfl := HN.out
              exact ⟨rfl, (Below.refl w.heap.size w).alloc (Nat.le_refl _) _⟩
      · obtain rfl : pos = 10 := by omega
        have hnx : ∀ ty, (Instr.next (.pointer (some ⟨w.heap.size, 0, none⟩)) true ty).run Tryd.prog (w.iter s 10) = _ := fun ty => run_next_end w s 10 ty (by omega)
        have HN : Hid (true = R) := by
          show true = R
          rw [← HR.out]
          exact (decide_eq_true (⟨hz, HP.out⟩ : txtOk s)).symm
        go_wp2_with fail
        go_ret
        obtain rfl := HN.out
        exact ⟨rfl, (Below.refl w.heap.size w).alloc (Nat.le_refl _) _⟩
  · rw [show decide (txtOk s) = false from decide_eq_false (fun a => hz a.1)]
    have hz' : ((s.size : Nat) : Int) ≠ 10 := by omega
    clear hz
    go_enter Tryd.func15, Tryd.ntmps15
    go_wp2_with fail
    go_ret
    exact ⟨rfl, Below.refl _ _⟩

set_option maxHeartbeats 800000 in
theorem number_any (s : ByteArray) (w : World) (hs : s.size ≤ 4) (hd : allDig s) :
    Calls Tryd.prog 16 #[.string s] w fun e w' => e = .returned (.int .i64 (numN s s.size : Nat)) ∧ Below w.heap.size w w' := by
  obtain ⟨R, hR⟩ : ∃ R : Int, ((numN s s.size : Nat) : Int) = R := ⟨_, rfl⟩
  rw [hR]
  have HR := hideS hR
  have HD := hideS hd
  clear hR hd
  go_enter Tryd.func16, Tryd.ntmps16
  go_wp2_with fail
  go_loopw [3] (fun n w' => ∃ (pos : Nat) (N : Int), w' = w.iter s pos ∧ pos ≤ s.size ∧ 0 ≤ N ∧ N ≤ 10000 ∧ n = .int .i64 N ∧ Hid (N = (numN s pos : Nat))) (fun _ w' => s.size - w'.iterPos w.heap.size)
  case atStart => exact ⟨0, 0, rfl, by omega, by omega, by omega, rfl, rfl⟩
  case round =>
    obtain ⟨pos, N, rfl, hp, hN0, hN1, rfl, HN⟩ := hrel
    by_cases hlt : pos < s.size
    · have hnx := next_dig (P := Tryd.prog) w s pos hlt (HD.out pos hlt)
      have hb := HD.out pos hlt
      unfold digB at hb
      rw [decide_eq_true_eq] at hb
      obtain ⟨b, hbb⟩ : ∃ b : Int, ((bt s pos : Nat) : Int) = b := ⟨_, rfl⟩
      rw [hbb] at hnx
      have b0 : 48 ≤ b := by omega
      have b1 : b ≤ 57 := by omega
      have HN' : Hid (10 * N + (b - 48) = (numN s (pos + 1) : Nat)) := by
        have := HN.out
        show _ = (((10 * numN s pos + (bt s pos - 48) : Nat)) : Int)
        omega
      have HB : Hid (numN s (pos + 1) < 10000) := by
        have := numN_hi HD.out (pos + 1) (by omega)
        refine Nat.lt_of_lt_of_le this ?_
        exact Nat.pow_le_pow_right (n := 10) (by omega) (show pos + 1 ≤ 4 by omega)
      clear hb hbb
      go_wp2_with fail
      go_roundw
      case rel => exact ⟨pos + 1, 10 * N + (b - 48), rfl, by omega, by omega, by have := HN'.out; have := HB.out; omega, rfl, HN'⟩
      case measure => simp; omega
    · have hnx : ∀ ty, (Instr.next (.pointer (some ⟨w.heap.size, 0, none⟩)) true ty).run Tryd.prog (w.iter s pos) = _ := fun ty => run_next_end w s pos ty hlt
      have HE : Hid (N = R) := by
        show _ = _
        rw [HN.out, ← HR.out, show pos = s.size by omega]
      go_wp2_with fail
      go_ret
      obtain rfl := HE.out
      exact ⟨rfl, (Below.refl w.heap.size w).alloc (Nat.le_refl _) _⟩

set_option maxHeartbeats 800000 in
theorem parse_txt (s : ByteArray) (w : World) (A E : Int) (h : txtOk s) (HO : Hid (∀ w, Calls Tryd.prog 12 #[.int .i64 (parseY s), .int .i64 (parseM s), .int .i64 (parseD s)] w fun e w' => e = .returned (.tuple #[.int .i64 A, .int .i64 E]) ∧ w' = w)) :
    Calls Tryd.prog 5 #[.string s] w fun e w' => e = .returned (.tuple #[.int .i64 A, .int .i64 E]) ∧ Below w.heap.size w w' := by
  have hz := h.1
  have HT : Hid (∀ w, Calls Tryd.prog 15 #[.string s] w fun e w' => e = .returned (.bool true) ∧ Below w.heap.size w w') := fun w => by
    have := isText_any s w
    rw [decide_eq_true h] at this; exact this
  have n1 := fun w => number_any (s.extract 0 4) w (by rw [size_ext (by omega)]; omega) (dig_ext h (by omega) (fun i _ _ => by omega))
  have n2 := fun w => number_any (s.extract 5 7) w (by rw [size_ext (by omega)]; omega) (dig_ext h (by omega) (fun i _ _ => by omega))
  have n3 := fun w => number_any (s.extract 8 10) w (by rw [size_ext (by omega)]; omega) (dig_ext h (by omega) (fun i _ _ => by omega))
  rw [size_ext (by omega)] at n1 n2 n3
  have H1 : Hid (∀ w, Calls Tryd.prog 16 #[.string (s.extract 0 4)] w fun e w' => e = .returned (.int .i64 (parseY s)) ∧ Below w.heap.size w w') := n1
  have H2 : Hid (∀ w, Calls Tryd.prog 16 #[.string (s.extract 5 7)] w fun e w' => e = .returned (.int .i64 (parseM s)) ∧ Below w.heap.size w w') := n2
  have H3 : Hid (∀ w, Calls Tryd.prog 16 #[.string (s.extract 8 10)] w fun e w' => e = .returned (.int .i64 (parseD s)) ∧ Below w.heap.size w w') := n3
  clear n1 n2 n3 h
  generalize parseY s = Y at *
  generalize parseM s = M at *
  generalize parseD s = D at *
  have e3 : s.extract 8 s.size = s.extract 8 10 := by rw [hz]
  go_enter Tryd.func5, Tryd.ntmps5
  go_wp2_with (go_at_call 15; refine (HT.out _).mono ?_; rintro e w1 ⟨rfl, hb1⟩; have HB1 := hideS hb1; clear hb1)
  go_region_with (first | (go_at_call_of 16 (Value.string (s.extract 0 4)); refine (H1.out _).mono ?_; rintro e w2 ⟨rfl, hb2⟩; have HB2 := hideS (HB1.out.drew.trans (hb2.mono HB1.out.drew.size)); clear hb2) | (go_at_call_of 16 (Value.string (s.extract 5 7)); refine (H2.out _).mono ?_; rintro e w3 ⟨rfl, hb3⟩; have HB3 := hideS (HB2.out.trans (hb3.mono HB2.out.size)); clear hb3) | (go_at_call_of 16 (Value.string (s.extract 8 10)); refine (H3.out _).mono ?_; rintro e w4 ⟨rfl, hb4⟩; have HB4 := hideS (HB3.out.trans (hb4.mono HB3.out.size)); clear hb4) | (go_at_call 12; refine (HO.out _).mono ?_; rintro e w5 ⟨rfl, rfl⟩))
  all_goals
    go_wp2_with fail
    go_ret2
    exact ⟨rfl, HB4.out⟩
theorem parse_day (s : ByteArray) (w : World) (h : txtOk s) (ho : okD (parseY s) (parseM s) (parseD s)) :
    Calls Tryd.prog 5 #[.string s] w fun e w' => e = .returned (.tuple #[.int .i64 (dayI (parseY s) (parseM s) (parseD s)), .int .i64 0]) ∧ Below w.heap.size w w' :=
  parse_txt s w _ _ h (fun w => ofP_ok _ _ _ w ho)
theorem parse_none (s : ByteArray) (w : World) (h : ¬ (txtOk s ∧ okD (parseY s) (parseM s) (parseD s))) :
    Calls Tryd.prog 5 #[.string s] w fun e w' => e = .returned (.tuple #[.int .i64 0, .int .i64 50]) ∧ Below w.heap.size w w' := by
  by_cases ht : txtOk s
  · exact parse_txt s w _ _ ht (fun w => ofP_bad _ _ _ w (fun a => h ⟨ht, a⟩))
  · have HT : Hid (∀ w, Calls Tryd.prog 15 #[.string s] w fun e w' => e = .returned (.bool false) ∧ Below w.heap.size w w') := fun w => by
      have := isText_any s w
      rw [decide_eq_false ht] at this; exact this
    clear h ht
    go_enter Tryd.func5, Tryd.ntmps5
    go_wp2_with (go_at_call 15; refine (HT.out _).mono ?_; rintro e w1 ⟨rfl, hb1⟩; have HB1 := hideS hb1; clear hb1)
    go_ret2
    exact ⟨rfl, HB1.out⟩
end Go.Proofs.YtgigmepilpfefaaDoor
