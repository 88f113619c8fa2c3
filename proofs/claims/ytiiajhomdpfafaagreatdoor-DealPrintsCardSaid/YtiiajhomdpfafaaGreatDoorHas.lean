/- The contracts of Length and Of, of the program and of the document's answer. The contract of Parse at any text. The contracts of Civil and Weekday. The contract of the document's Of: years and months added up. The contracts of the document's Civil and Weekday. -/
import Derived.Test.YtiiajhomdpfafaaGreatDoorDLen
import Derived.Deep.RegionWith
import Derived.Test.YtiiajhomdpfafaaGreatDoorDTxt
namespace Go.Proofs.YtiiajhomdpfafaaGreatDoor
open Go.RowKit

def ymB (y m : Int) : Prop := 1900 ≤ y ∧ y ≤ 2199 ∧ 1 ≤ m ∧ m ≤ 12

theorem isYear_any (y : Int) (w : World) :
    Calls Tryz.prog 214 #[.int .i64 y] w fun e w' => e = .returned (.bool (decide (1900 ≤ y ∧ y ≤ 2199))) ∧ w' = w := by
  by_cases h1 : 1900 ≤ y <;> by_cases h2 : y ≤ 2199
  all_goals
    first | rw [decide_eq_true (⟨h1, h2⟩ : 1900 ≤ y ∧ y ≤ 2199)] | rw [decide_eq_false (fun h : 1900 ≤ y ∧ y ≤ 2199 => by omega)]
    go_enter Tryz.func214, Tryz.ntmps214
    go_wp2
    go_ret
    exact ⟨rfl, rfl⟩

theorem lengthP_ok (y m : Int) (w : World) (h : ymB y m) :
    Calls Tryz.prog 190 #[.int .i64 y, .int .i64 m] w fun e w' => e = .returned (.tuple #[.int .i64 (lenI y m), .int .i64 0]) ∧ w' = w := by
  obtain ⟨h1, h2, h3, h4⟩ := h
  have hy := isYear_any y
  rw [decide_eq_true (⟨h1, h2⟩ : 1900 ≤ y ∧ y ≤ 2199)] at hy
  have HL := hideS (length_any y m w h3 h4)
  have HY := hideS hy
  clear hy
  generalize lenI y m = L at *
  go_enter Tryz.func190, Tryz.ntmps190
  go_wp2_with (first | (go_at_call 214; refine (HY.out _).mono ?_; rintro e w' ⟨rfl, rfl⟩) | (go_at_call 192; refine HL.out.mono ?_; rintro e w' ⟨rfl, rfl⟩))
  go_ret2
  exact ⟨rfl, rfl⟩
theorem leaps_any (y : Int) (w : World) (h : 0 ≤ y) (h' : y ≤ 3000) :
    Calls Tryz.prog 215 #[.int .i64 y] w fun e w' => e = .returned (.int .i64 (lpsI y)) ∧ w' = w := by
  unfold lpsI
  go_enter Tryz.func215, Tryz.ntmps215
  go_wp2
  go_ret
  exact ⟨rfl, rfl⟩

theorem newYear_any (y : Int) (w : World) (h : 1900 ≤ y) (h' : y ≤ 2200) :
    Calls Tryz.prog 191 #[.int .i64 y] w fun e w' => e = .returned (.int .i64 (nyI y)) ∧ w' = w := by
  have H1 := hideS (leaps_any (y - 1) w (by omega) (by omega))
  have H2 := hideS (leaps_any 1899 w (by omega) (by omega))
  have e2 : lpsI 1899 = 460 := by decide
  rw [e2] at H2
  unfold nyI
  have hl : 0 ≤ lpsI (y - 1) ∧ lpsI (y - 1) ≤ 3000 := by unfold lpsI; omega
  obtain ⟨l1, l2⟩ := hl
  generalize lpsI (y - 1) = L at *
  clear e2
  go_enter Tryz.func191, Tryz.ntmps191
  go_wp2_with (first | (go_at_call_of 215 (Value.int IntKind.i64 1899); refine H2.out.mono ?_; rintro e w' ⟨rfl, rfl⟩) | (go_at_call 215; refine H1.out.mono ?_; rintro e w' ⟨rfl, rfl⟩))
  go_ret
  exact ⟨rfl, rfl⟩

set_option maxHeartbeats 400000 in
theorem ofP_ok (y m d : Int) (w : World) (h : okD y m d) :
    Calls Tryz.prog 155 #[.int .i64 y, .int .i64 m, .int .i64 d] w fun e w' => e = .returned (.tuple #[.int .i64 (dayI y m d), .int .i64 0]) ∧ w' = w := by
  obtain ⟨h1, h2, h3, h4, h5, h6⟩ := h
  have HL := hideS (lengthP_ok y m w ⟨h1, h2, h3, h4⟩)
  have HN := hideS (newYear_any y w h1 (by omega))
  have hl := len_hi y m
  have HLen := hideS (fun (k : Int) (wx : World) (a : 1 ≤ k) (b : k ≤ 12) => length_any y k wx a b)
  have HD : Hid (dayI y m d = nyI y + d - 1 + cumI y m) := by show _ = _; unfold dayI; omega
  have n1 : 0 ≤ nyI y := by have := ny_lo h1; omega
  have n2 : nyI y ≤ 110000 := by have := ny_hi h1; omega
  obtain ⟨R, hR⟩ : ∃ R, dayI y m d = R := ⟨_, rfl⟩
  rw [hR] at HD ⊢
  clear hR
  obtain ⟨L, hL⟩ : ∃ L, lenI y m = L := ⟨_, rfl⟩
  rw [hL] at HL h6 hl
  clear hL
  obtain ⟨N, hN⟩ : ∃ N, nyI y = N := ⟨_, rfl⟩
  rw [hN] at HN n1 n2 HD
  clear hN
  go_enter Tryz.func155, Tryz.ntmps155
  go_wp2_with (first | (go_at_call 190; refine HL.out.mono ?_; rintro e w' ⟨rfl, rfl⟩) | (go_at_call 191; refine HN.out.mono ?_; rintro e w' ⟨rfl, rfl⟩))
  clear HL HN
  go_loop [35, 10] (fun i n => ∃ (k : Nat) (C : Int), (k : Int) + 1 ≤ m ∧ 0 ≤ C ∧ C ≤ 200000 ∧ i = .int .i64 k ∧ n = .int .i64 C ∧ Hid (C = N + d - 1 + cumI y (k + 1))) (fun i _ => (m - intOf i).toNat)
  case atStart => exact ⟨0, N + d - 1, by omega, by omega, by omega, rfl, rfl, by show _ = _; rw [show (((0 : Nat) : Int) + 1) = 1 by rfl, cum_first]; omega⟩
  case round =>
    obtain ⟨k, C, hk, hC0, hC1, rfl, rfl, HC⟩ := hrel
    by_cases hlt : (k : Int) + 1 < m
    · have H := hideS (fun wx => HLen.out (k + 1) wx (by omega) (by omega))
      have HN : Hid (C + lenI y (k + 1) = N + d - 1 + cumI y (((k + 1 : Nat) : Int) + 1)) := by
        show _ = _
        rw [HC.out, show (((k + 1 : Nat) : Int) + 1) = (k : Int) + 1 + 1 by omega, cum_succ (m := (k : Int) + 1) (by omega) (by omega)]; omega
      have HB : Hid (cumI y (((k + 1 : Nat) : Int) + 1) ≤ 366) := cum_hi (by omega) (by omega)
      have l1 := len_lo y (k + 1)
      have l2 := len_hi y (k + 1)
      generalize lenI y (k + 1) = l at *
      have hlt' : (k : Int) < m - 1 := by omega
      go_wp2_with (go_at_call 192; refine (H.out _).mono ?_; rintro e w' ⟨rfl, rfl⟩)
      go_round
      case rel => exact ⟨k + 1, C + l, by omega, by omega, by have := HN.out; have := HB.out; omega, by go_num, rfl, HN⟩
      case measure => simp [intOf]; omega
    · have hm : m = (k : Int) + 1 := by omega
      have HR : Hid (C = R) := by show _ = _; rw [HC.out, HD.out, hm]
      have hge : ¬ (k : Int) < m - 1 := by omega
      clear HC HD hm
      go_wp2_with fail
      go_ret2
      obtain rfl := HR.out
      exact ⟨rfl, rfl⟩

end Go.Proofs.YtiiajhomdpfafaaGreatDoor
namespace Go.Proofs.YtiiajhomdpfafaaGreatDoor
open Go.RowKit

theorem okB_dash {i b : Nat} (h : i = 4 ∨ i = 7) : okB i b = (b == 45) := by unfold okB; rw [if_pos h]
theorem okB_dig {i b : Nat} (h : ¬ (i = 4 ∨ i = 7)) : okB i b = digB b := by unfold okB; rw [if_neg h]
theorem txt_no {s : ByteArray} {i : Nat} (hi : i < 10) (h : okB i (bt s i) = false) : decide (txtOk s) = false := by
  rw [decide_eq_false_iff_not]
  intro a
  rw [a.2 i hi] at h
  exact Bool.noConfusion h

set_option maxHeartbeats 800000 in
theorem isText_any (s : ByteArray) (w : World) :
    Calls Tryz.prog 154 #[.string s] w fun e w' => e = .returned (.bool (decide (txtOk s))) ∧ Below w.heap.size w w' := by
  by_cases hz : s.size = 10
  · obtain ⟨R, hR⟩ : ∃ R, decide (txtOk s) = R := ⟨_, rfl⟩
    rw [hR]
    have HR := hideS hR
    clear hR
    go_enter Tryz.func154, Tryz.ntmps154
    go_wp2_with fail
    go_loopw [3] (fun _ w' => ∃ (pos : Nat), w' = w.iter s pos ∧ pos ≤ 10 ∧ Hid (∀ i < pos, okB i (bt s i) = true)) (fun _ w' => 10 - w'.iterPos w.heap.size)
    case atStart => exact ⟨0, rfl, by omega, fun i hi => by omega⟩
    case round =>
      obtain ⟨pos, rfl, hp, HP⟩ := hrel
      by_cases hlt : pos < 10
      · obtain ⟨r, q, hnx, r0, r1, hr⟩ := next_rune (P := Tryz.prog) w s pos (by omega)
        have HRr := hideS hr
        clear hr
        obtain ⟨p, hpp⟩ : ∃ p : Int, (pos : Int) = p := ⟨_, rfl⟩
        rw [hpp] at hnx
        have HPP := hideS hpp
        have p0 : 0 ≤ p := by omega
        have p1 : p < 10 := by omega
        clear hpp
        by_cases hd : p = 4 ∨ p = 7
        · have HB : Hid (okB pos (bt s pos) = (bt s pos == 45)) := okB_dash (by have := HPP.out; omega)
          by_cases hr45 : r = 45
          · have HQ : Hid (q = 1 ∧ okB pos (bt s pos) = true) := by
              rcases HRr.out with ⟨_, b, c⟩ | ⟨b, _⟩
              · refine ⟨c, ?_⟩
                rw [HB.out, beq_iff_eq]; omega
              · omega
            obtain rfl := HQ.out.1
            subst hr45
            rcases hd with rfl | rfl
            all_goals
              go_wp2_with fail
              go_roundw
              case rel =>
                refine ⟨pos + 1, rfl, by omega, fun i hi => ?_⟩
                by_cases hip : i < pos
                · exact HP.out i hip
                · obtain rfl : i = pos := by omega
                  exact HQ.out.2
              case measure => simp; omega
          · have HN : Hid (false = R) := by
              show false = R
              rw [← HR.out]
              refine (txt_no hlt ?_).symm
              rw [HB.out, beq_eq_false_iff_ne]
              rcases HRr.out with ⟨_, b, _⟩ | ⟨_, b⟩ <;> omega
            rcases hd with rfl | rfl
            all_goals
              go_wp2_with fail
              go_ret
              obtain rfl := HN.out
              exact ⟨rfl, (Below.refl w.heap.size w).alloc (Nat.le_refl _) _⟩
        · have HB : Hid (okB pos (bt s pos) = digB (bt s pos)) := okB_dig (by have := HPP.out; omega)
          have hd4 : (p == 4) = false := by rw [beq_eq_false_iff_ne]; omega
          have hd7 : (p == 7) = false := by rw [beq_eq_false_iff_ne]; omega
          clear hd
          by_cases hdg : 48 ≤ r ∧ r ≤ 57
          · obtain ⟨g0, g1⟩ := hdg
            have HQ : Hid (q = 1 ∧ okB pos (bt s pos) = true) := by
              rcases HRr.out with ⟨_, b, c⟩ | ⟨b, _⟩
              · refine ⟨c, ?_⟩
                rw [HB.out]; unfold digB; rw [decide_eq_true_eq]; omega
              · omega
            obtain rfl := HQ.out.1
            go_wp2_with fail
            go_roundw
            case rel =>
              refine ⟨pos + 1, rfl, by omega, fun i hi => ?_⟩
              by_cases hip : i < pos
              · exact HP.out i hip
              · obtain rfl : i = pos := by omega
                exact HQ.out.2
            case measure => simp; omega
          · have HN : Hid (false = R) := by
              show false = R
              rw [← HR.out]
              refine (txt_no hlt ?_).symm
              rw [HB.out]; unfold digB; rw [decide_eq_false_iff_not]
              rcases HRr.out with ⟨_, b, _⟩ | ⟨_, b⟩ <;> omega
            rcases (show r < 48 ∨ (48 ≤ r ∧ 57 < r) by omega) with g0 | ⟨g0, g1⟩
            all_goals
              clear hdg
              go_wp2_with fail
              go_ret
              obtain rfl := HN.out
              exact ⟨rfl, (Below.refl w.heap.size w).alloc (Nat.le_refl _) _⟩
      · obtain rfl : pos = 10 := by omega
        have hnx : ∀ ty, (Instr.next (.pointer (some ⟨w.heap.size, 0, none⟩)) true ty).run Tryz.prog (w.iter s 10) = _ := fun ty => run_next_end w s 10 ty (by omega)
        have HN : Hid (true = R) := by
          show true = R
          rw [← HR.out]
          exact (decide_eq_true (⟨hz, HP.out⟩ : txtOk s)).symm
        go_wp2_with fail
        go_ret
        obtain rfl := HN.out
        exact ⟨rfl, (Below.refl w.heap.size w).alloc (Nat.le_refl _) _⟩
  · rw [show decide (txtOk s) = false from decide_eq_false (fun a => hz a.1)]
    have hz' : ((s.size : Nat) : Int) ≠ 10 := by omega
    clear hz
    go_enter Tryz.func154, Tryz.ntmps154
    go_wp2_with fail
    go_ret
    exact ⟨rfl, Below.refl _ _⟩

set_option maxHeartbeats 800000 in
theorem number_any (s : ByteArray) (w : World) (hs : s.size ≤ 4) (hd : allDig s) :
    Calls Tryz.prog 156 #[.string s] w fun e w' => e = .returned (.int .i64 (numN s s.size : Nat)) ∧ Below w.heap.size w w' := by
  obtain ⟨R, hR⟩ : ∃ R : Int, ((numN s s.size : Nat) : Int) = R := ⟨_, rfl⟩
  rw [hR]
  have HR := hideS hR
  have HD := hideS hd
  clear hR hd
  go_enter Tryz.func156, Tryz.ntmps156
  go_wp2_with fail
  go_loopw [3] (fun n w' => ∃ (pos : Nat) (N : Int), w' = w.iter s pos ∧ pos ≤ s.size ∧ 0 ≤ N ∧ N ≤ 10000 ∧ n = .int .i64 N ∧ Hid (N = (numN s pos : Nat))) (fun _ w' => s.size - w'.iterPos w.heap.size)
  case atStart => exact ⟨0, 0, rfl, by omega, by omega, by omega, rfl, rfl⟩
  case round =>
    obtain ⟨pos, N, rfl, hp, hN0, hN1, rfl, HN⟩ := hrel
    by_cases hlt : pos < s.size
    · have hnx := next_dig (P := Tryz.prog) w s pos hlt (HD.out pos hlt)
      have hb := HD.out pos hlt
      unfold digB at hb
      rw [decide_eq_true_eq] at hb
      obtain ⟨b, hbb⟩ : ∃ b : Int, ((bt s pos : Nat) : Int) = b := ⟨_, rfl⟩
      rw [hbb] at hnx
      have b0 : 48 ≤ b := by omega
      have b1 : b ≤ 57 := by omega
      have HN' : Hid (10 * N + (b - 48) = (numN s (pos + 1) : Nat)) := by
        have := HN.out
        show _ = (((10 * numN s pos + (bt s pos - 48) : Nat)) : Int)
        omega
      have HB : Hid (numN s (pos + 1) < 10000) := by
        have := numN_hi HD.out (pos + 1) (by omega)
        refine Nat.lt_of_lt_of_le this ?_
        exact Nat.pow_le_pow_right (n := 10) (by omega) (show pos + 1 ≤ 4 by omega)
      clear hb hbb
      go_wp2_with fail
      go_roundw
      case rel => exact ⟨pos + 1, 10 * N + (b - 48), rfl, by omega, by omega, by have := HN'.out; have := HB.out; omega, rfl, HN'⟩
      case measure => simp; omega
    · have hnx : ∀ ty, (Instr.next (.pointer (some ⟨w.heap.size, 0, none⟩)) true ty).run Tryz.prog (w.iter s pos) = _ := fun ty => run_next_end w s pos ty hlt
      have HE : Hid (N = R) := by
        show _ = _
        rw [HN.out, ← HR.out, show pos = s.size by omega]
      go_wp2_with fail
      go_ret
      obtain rfl := HE.out
      exact ⟨rfl, (Below.refl w.heap.size w).alloc (Nat.le_refl _) _⟩

set_option maxHeartbeats 800000 in
theorem parse_txt (s : ByteArray) (w : World) (A E : Int) (h : txtOk s) (HO : Hid (∀ w, Calls Tryz.prog 155 #[.int .i64 (parseY s), .int .i64 (parseM s), .int .i64 (parseD s)] w fun e w' => e = .returned (.tuple #[.int .i64 A, .int .i64 E]) ∧ w' = w)) :
    Calls Tryz.prog 119 #[.string s] w fun e w' => e = .returned (.tuple #[.int .i64 A, .int .i64 E]) ∧ Below w.heap.size w w' := by
  have hz := h.1
  have HT : Hid (∀ w, Calls Tryz.prog 154 #[.string s] w fun e w' => e = .returned (.bool true) ∧ Below w.heap.size w w') := fun w => by
    have := isText_any s w
    rw [decide_eq_true h] at this; exact this
  have n1 := fun w => number_any (s.extract 0 4) w (by rw [size_ext (by omega)]; omega) (dig_ext h (by omega) (fun i _ _ => by omega))
  have n2 := fun w => number_any (s.extract 5 7) w (by rw [size_ext (by omega)]; omega) (dig_ext h (by omega) (fun i _ _ => by omega))
  have n3 := fun w => number_any (s.extract 8 10) w (by rw [size_ext (by omega)]; omega) (dig_ext h (by omega) (fun i _ _ => by omega))
  rw [size_ext (by omega)] at n1 n2 n3
  have H1 : Hid (∀ w, Calls Tryz.prog 156 #[.string (s.extract 0 4)] w fun e w' => e = .returned (.int .i64 (parseY s)) ∧ Below w.heap.size w w') := n1
  have H2 : Hid (∀ w, Calls Tryz.prog 156 #[.string (s.extract 5 7)] w fun e w' => e = .returned (.int .i64 (parseM s)) ∧ Below w.heap.size w w') := n2
  have H3 : Hid (∀ w, Calls Tryz.prog 156 #[.string (s.extract 8 10)] w fun e w' => e = .returned (.int .i64 (parseD s)) ∧ Below w.heap.size w w') := n3
  clear n1 n2 n3 h
  generalize parseY s = Y at *
  generalize parseM s = M at *
  generalize parseD s = D at *
  have e3 : s.extract 8 s.size = s.extract 8 10 := by rw [hz]
  go_enter Tryz.func119, Tryz.ntmps119
  go_wp2_with (go_at_call 154; refine (HT.out _).mono ?_; rintro e w1 ⟨rfl, hb1⟩; have HB1 := hideS hb1; clear hb1)
  go_region_with (first | (go_at_call_of 156 (Value.string (s.extract 0 4)); refine (H1.out _).mono ?_; rintro e w2 ⟨rfl, hb2⟩; have HB2 := hideS (HB1.out.drew.trans (hb2.mono HB1.out.drew.size)); clear hb2) | (go_at_call_of 156 (Value.string (s.extract 5 7)); refine (H2.out _).mono ?_; rintro e w3 ⟨rfl, hb3⟩; have HB3 := hideS (HB2.out.trans (hb3.mono HB2.out.size)); clear hb3) | (go_at_call_of 156 (Value.string (s.extract 8 10)); refine (H3.out _).mono ?_; rintro e w4 ⟨rfl, hb4⟩; have HB4 := hideS (HB3.out.trans (hb4.mono HB3.out.size)); clear hb4) | (go_at_call 155; refine (HO.out _).mono ?_; rintro e w5 ⟨rfl, rfl⟩))
  all_goals
    go_wp2_with fail
    go_ret2
    exact ⟨rfl, HB4.out⟩
theorem parse_day (s : ByteArray) (w : World) (h : txtOk s) (ho : okD (parseY s) (parseM s) (parseD s)) :
    Calls Tryz.prog 119 #[.string s] w fun e w' => e = .returned (.tuple #[.int .i64 (dayI (parseY s) (parseM s) (parseD s)), .int .i64 0]) ∧ Below w.heap.size w w' :=
  parse_txt s w _ _ h (fun w => ofP_ok _ _ _ w ho)
end Go.Proofs.YtiiajhomdpfafaaGreatDoor
namespace Go.Proofs.YtiiajhomdpfafaaGreatDoor
open Go.RowKit

theorem isDay_any (n : Int) (w : World) :
    Calls Tryz.prog 193 #[.int .i64 n] w fun e w' => e = .returned (.bool (decide (0 ≤ n ∧ n ≤ 109572))) ∧ w' = w := by
  by_cases h1 : 0 ≤ n <;> by_cases h2 : n ≤ 109572
  all_goals
    first | rw [decide_eq_true (⟨h1, h2⟩ : 0 ≤ n ∧ n ≤ 109572)] | rw [decide_eq_false (fun h : 0 ≤ n ∧ n ≤ 109572 => by omega)]
    go_enter Tryz.func193, Tryz.ntmps193
    go_wp2
    go_ret
    exact ⟨rfl, rfl⟩
theorem isDay_yes (n : Int) (h : 0 ≤ n ∧ n ≤ 109572) (w : World) :
    Calls Tryz.prog 193 #[.int .i64 n] w fun e w' => e = .returned (.bool true) ∧ w' = w := by
  have e := isDay_any n w
  rw [decide_eq_true h] at e; exact e
set_option maxHeartbeats 400000 in
theorem yearOf_any (n y : Int) (w : World) (h1 : 1900 ≤ y) (h2 : y ≤ 2199) (hy : nyI y ≤ n) (hy' : n < nyI (y + 1)) :
    Calls Tryz.prog 194 #[.int .i64 n] w fun e w' => e = .returned (.int .i64 y) ∧ w' = w := by
  have n0 : 0 ≤ n := by have := ny_lo h1; omega
  have n1 : n ≤ 120000 := by have := ny_hi (y := y + 1) (by omega); omega
  have hs : 1900 + n / 366 ≤ y := by have := ny_hi (y := y + 1) (by omega); omega
  have HN := hideS (fun (z : Int) (wx : World) (a : 1900 ≤ z) (b : z ≤ 2200) => newYear_any z wx a b)
  have HY := hideS hy
  have HY' := hideS hy'
  clear hy hy'
  go_enter Tryz.func194, Tryz.ntmps194
  go_wp2_with fail
  go_loop [3] (fun i => ∃ (j : Int), 1900 ≤ j ∧ j ≤ y ∧ i = .int .i64 j) (fun i => (y - intOf i).toNat)
  case atStart => exact ⟨1900 + n / 366, by omega, hs, rfl⟩
  case round =>
    obtain ⟨j, hj1, hj2, rfl⟩ := hrel
    have H := hideS (fun wx => HN.out (j + 1) wx (by omega) (by omega))
    by_cases hlt : j < y
    · have hle : nyI (j + 1) ≤ n := by
        have := ny_mono (y := j + 1) (z := y) (by omega) (by omega)
        have := HY.out
        omega
      generalize nyI (j + 1) = N at *
      go_wp2_with (go_at_call 191; refine (H.out _).mono ?_; rintro e w' ⟨rfl, rfl⟩)
      go_round
      case rel => exact ⟨j + 1, by omega, by omega, rfl⟩
      case measure => simp [intOf]; omega
    · obtain rfl : j = y := by omega
      have hle : ¬ nyI (j + 1) ≤ n := by have := HY'.out; omega
      clear HY'
      generalize nyI (j + 1) = N at *
      go_wp2_with (go_at_call 191; refine (H.out _).mono ?_; rintro e w' ⟨rfl, rfl⟩)
      go_ret
      exact ⟨rfl, rfl⟩

set_option maxHeartbeats 800000 in
theorem monthAndDay_any (y m r : Int) (w : World) (h1 : 1 ≤ m) (h2 : m ≤ 12) (hm : cumI y m ≤ r) (hm' : r < cumI y (m + 1)) :
    Calls Tryz.prog 195 #[.int .i64 y, .int .i64 r] w fun e w' => e = .returned (.tuple #[.int .i64 m, .int .i64 (r - cumI y m + 1)]) ∧ w' = w := by
  have r0 : 0 ≤ r := by have := cum_lo (y := y) h1 (by omega); omega
  have r1 : r ≤ 366 := by have := cum_hi (y := y) (m := m + 1) (by omega) (by omega); omega
  have HLen := hideS (fun (k : Int) (wx : World) (a : 1 ≤ k) (b : k ≤ 12) => length_any y k wx a b)
  have HM := hideS hm
  have HM' := hideS hm'
  clear hm hm'
  obtain ⟨D, hD⟩ : ∃ D, r - cumI y m + 1 = D := ⟨_, rfl⟩
  rw [hD]
  have HD := hideS hD
  clear hD
  go_enter Tryz.func195, Tryz.ntmps195
  go_wp2_with fail
  go_loop [7, 1, 4] (fun i b _ => ∃ (k : Int) (C : Int), 0 ≤ k ∧ k + 1 ≤ m ∧ 0 ≤ C ∧ C ≤ 366 ∧ i = .int .i64 k ∧ b = .int .i64 C ∧ Hid (C = r - cumI y (k + 1))) (fun i _ _ => (m - intOf i).toNat)
  case atStart => exact ⟨0, r, by omega, by omega, by omega, by omega, rfl, rfl, by show _ = _; rw [show ((0 : Int) + 1) = 1 by rfl, cum_first]; omega⟩
  case round =>
    obtain ⟨k, C, hk0, hk, hC0, hC1, rfl, rfl, HC⟩ := hrel
    have H := hideS (fun wx => HLen.out (k + 1) wx (by omega) (by omega))
    have l1 := len_lo y (k + 1)
    have HS : Hid (cumI y (k + 1 + 1) = cumI y (k + 1) + lenI y (k + 1)) := cum_succ (m := k + 1) (by omega) (by omega)
    by_cases hlt : k + 1 < m
    · have hle : ¬ C < lenI y (k + 1) := by
        have := cum_mono (y := y) (m := k + 1 + 1) (k := m) (by omega) (by omega) (by omega)
        have := HM.out
        have := HS.out
        have := HC.out
        omega
      have HC' : Hid (C - lenI y (k + 1) = r - cumI y (k + 1 + 1)) := by
        show _ = _
        rw [HS.out, HC.out]; omega
      generalize lenI y (k + 1) = l at *
      go_wp2_with (go_at_call 192; refine (H.out _).mono ?_; rintro e w' ⟨rfl, rfl⟩)
      go_round
      case rel => exact ⟨k + 1, C - l, by omega, by omega, by omega, by omega, rfl, rfl, HC'⟩
      case measure => simp [intOf]; omega
    · have hle : C < lenI y (k + 1) := by
        have := HM'.out
        rw [show m + 1 = k + 1 + 1 by omega, HS.out] at this
        have := HC.out
        omega
      have hm : m = k + 1 := by omega
      have HE : Hid (C + 1 = D) := by
        show _ = _
        rw [← HD.out, HC.out, hm]
      have HMk := hideS hm
      clear hm HD HC HM HM'
      generalize lenI y (k + 1) = l at *
      go_wp2_with (go_at_call 192; refine (H.out _).mono ?_; rintro e w' ⟨rfl, rfl⟩)
      go_ret2
      obtain rfl := HE.out
      obtain rfl := HMk.out
      exact ⟨rfl, rfl⟩

theorem results_tmp4 {fn : Func} {t u v x : Tmp} (h : fn.results = #[.tmp t, .tmp u, .tmp v, .tmp x]) (tmps : Array Value) (P : Program) (w : World) :
    (results fn tmps).run P w = .ok (.tuple #[tmps.getD t undef, tmps.getD u undef, tmps.getD v undef, tmps.getD x undef]) w := by
  simp [results, h]

set_option maxHeartbeats 400000 in
theorem civil_ok (n y m d : Int) (w : World) (h : IsD n y m d) :
    Calls Tryz.prog 157 #[.int .i64 n] w fun e w' => e = .returned (.tuple #[.int .i64 y, .int .i64 m, .int .i64 d, .int .i64 0]) ∧ w' = w := by
  obtain ⟨n0, n1⟩ := h.range
  obtain ⟨a, b⟩ := h.year
  obtain ⟨a', b'⟩ := h.month
  have HY := hideS (isDay_yes n ⟨n0, n1⟩)
  have hd : n - nyI y - cumI y m + 1 = d := by have := h.2; unfold dayI at this; omega
  obtain ⟨h1, h2, h3, h4, _, _⟩ := h.1
  clear h
  have H1 := hideS (fun wx => yearOf_any n y wx h1 h2 a b)
  have H2 := hideS (fun wx => newYear_any y wx h1 (by omega))
  have h5 := fun wx => monthAndDay_any y m (n - nyI y) wx h3 h4 a' b'
  rw [hd] at h5
  have H3 := hideS h5
  have c1 := cum_lo (y := y) h3 (by omega)
  have n2 := ny_lo h1
  clear h5 hd b b' a'
  generalize nyI y = N at *
  go_enter Tryz.func157, Tryz.ntmps157
  go_wp2_with (first | (go_at_call 193; refine (HY.out _).mono ?_; rintro e w' ⟨rfl, rfl⟩) | (go_at_call 194; refine (H1.out _).mono ?_; rintro e w' ⟨rfl, rfl⟩) | (go_at_call 191; refine (H2.out _).mono ?_; rintro e w' ⟨rfl, rfl⟩) | (go_at_call 195; refine (H3.out _).mono ?_; rintro e w' ⟨rfl, rfl⟩))
  (try simp only [Exit.inBlock, Exit.then])
  refine bodyPost_ret (results_tmp4 rfl _ _ _) rfl ?_
  exact ⟨rfl, rfl⟩
end Go.Proofs.YtiiajhomdpfafaaGreatDoor
namespace Go.Proofs.YtiiajhomdpfafaaGreatDoor
open Go.RowKit

theorem lp_true {y : Int} (h : leapB y = true) : lpI y = 1 := by unfold lpI; rw [h]; rfl
theorem lp_false {y : Int} (h : leapB y = false) : lpI y = 0 := by unfold lpI; rw [h]; rfl

end Go.Proofs.YtiiajhomdpfafaaGreatDoor
namespace Go.Proofs.YtiiajhomdpfafaaGreatDoor
open Go.RowKit

def dateV (y m d : Int) : Value := .agg #[.int .i64 y, .int .i64 m, .int .i64 d]

set_option maxHeartbeats 1600000 in
theorem refCiv_ok (n y m d : Int) (w : World) (h : IsD n y m d) :
    Calls Tryz.prog 137 #[.int .i64 n] w fun e w' => e = .returned (.tuple #[dateV y m d, .int .i64 0]) ∧ Below w.heap.size w w' := by
  obtain ⟨n0, n1⟩ := h.range
  obtain ⟨a, b⟩ := h.year
  obtain ⟨a', b'⟩ := h.month
  have hd : n - nyI y - cumI y m + 1 = d := by have := h.2; unfold dayI at this; omega
  obtain ⟨h1, h2, h3, h4, _, _⟩ := h.1
  clear h
  have HA := hideS a
  have HB := hideS b
  have HA' := hideS a'
  have HB' := hideS b'
  have HD := hideS hd
  clear a b a' b' hd
  have HLen := hideS (fun (k : Int) (wx : World) (a : 1 ≤ k) (b : k ≤ 12) => refLength_any y k wx a b)
  unfold dateV
  go_enter Tryz.func137, Tryz.ntmps137
  go_wp2_with fail
  go_loop [0, 4, 5] (fun c i _ => ∃ (j C : Int), 1900 ≤ j ∧ j ≤ y ∧ 0 ≤ C ∧ C ≤ 110000 ∧ i = .int .i64 j ∧ c = .int .i64 C ∧ Hid (C = n - nyI j)) (fun _ i _ => (y - intOf i).toNat)
  case atStart => exact ⟨1900, n, by omega, by omega, by omega, by omega, rfl, rfl, by show _ = _; rw [ny_first]; omega⟩
  case round =>
    obtain ⟨j, C, hj1, hj2, hC0, hC1, rfl, rfl, HC⟩ := hrel
    by_cases hlt : j < y
    · have HS : Hid (C - 365 - lpI j = n - nyI (j + 1)) := by
        show _ = _
        rw [HC.out, ny_succ hj1]; omega
      have HP : Hid (0 ≤ C - 365 - lpI j) := by
        show _ ≤ _
        rw [HS.out]
        have := ny_mono (y := j + 1) (z := y) (by omega) (by omega)
        have := HA.out
        omega
      cases hl : leapB j
      · rw [lp_false hl] at HS HP
        have hge : ¬ C < 365 := by have := HP.out; omega
        go_wp2_with (go_at_call 173; refine (refLeap_any _ _).mono ?_; rintro e w' ⟨rfl, rfl⟩)
        go_round
        case rel => exact ⟨j + 1, C - 365, by omega, by omega, by omega, by omega, rfl, rfl, by have := HS.out; show _ = _; omega⟩
        case measure => simp [intOf]; omega
      · rw [lp_true hl] at HS HP
        have hge : ¬ C < 366 := by have := HP.out; omega
        go_wp2_with (go_at_call 173; refine (refLeap_any _ _).mono ?_; rintro e w' ⟨rfl, rfl⟩)
        go_round
        case rel => exact ⟨j + 1, C - 366, by omega, by omega, by omega, by omega, rfl, rfl, by have := HS.out; show _ = _; omega⟩
        case measure => simp [intOf]; omega
    · obtain rfl : j = y := by omega
      have HP : Hid (C < 365 + lpI j) := by
        have := HB.out
        rw [ny_succ hj1] at this
        have := HC.out
        show _ < _
        omega
      cases hl : leapB j
      all_goals
        first | rw [lp_false hl] at HP | rw [lp_true hl] at HP
        have hlt : C < 365 ∨ C < 366 := Or.inr (by have := HP.out; omega)
        clear hlt
        have hlt := HP.out
        first | (have hlt : C < 365 := by omega) | (have hlt : C < 366 := by omega)
        go_wp2_with (go_at_call 173; refine (refLeap_any _ _).mono ?_; rintro e w' ⟨rfl, rfl⟩)
        clear hlt HP
        go_loop [0, 6] (fun c i => ∃ (k C : Int), 1 ≤ k ∧ k ≤ m ∧ 0 ≤ C ∧ C ≤ 110000 ∧ i = .int .i64 k ∧ c = .int .i64 C ∧ Hid (C = n - nyI j - cumI j k)) (fun _ i => (m - intOf i).toNat)
        case atStart => exact ⟨1, C, by omega, by omega, by omega, by omega, rfl, rfl, by show _ = _; rw [cum_first, HC.out]; omega⟩
        case round =>
          clear HC hC0 hC1
          obtain ⟨k, C, hk1, hk, hC0, hC1, rfl, rfl, HC⟩ := hrel
          have H := hideS (fun wx => HLen.out k wx (by omega) (by omega))
          have HS : Hid (cumI j (k + 1) = cumI j k + lenI j k) := cum_succ (by omega) (by omega)
          have l1 := len_lo j k
          by_cases hlt : k < m
          · have hge : lenI j k ≤ C := by
              have := cum_mono (y := j) (m := k + 1) (k := m) (by omega) (by omega) (by omega)
              have := HS.out
              have := HC.out
              have := HA'.out
              omega
            have HC' : Hid (C - lenI j k = n - nyI j - cumI j (k + 1)) := by
              show _ = _
              rw [HS.out, HC.out]; omega
            generalize lenI j k = l at *
            go_wp2_with (go_at_call 174; refine (H.out _).mono ?_; rintro e w' ⟨rfl, rfl⟩)
            go_round
            case rel => exact ⟨k + 1, C - l, by omega, by omega, by omega, by omega, rfl, rfl, HC'⟩
            case measure => simp [intOf]; omega
          · obtain rfl : k = m := by omega
            have hge : ¬ lenI j k ≤ C := by
              have := HB'.out
              rw [HS.out] at this
              have := HC.out
              omega
            have HE : Hid (C + 1 = d) := by
              show _ = _
              rw [← HD.out, HC.out]
            clear HC HD
            generalize lenI j k = l at *
            go_wp2_with (go_at_call 174; refine (H.out _).mono ?_; rintro e w' ⟨rfl, rfl⟩)
            obtain rfl := HE.out
            (try simp only [Exit.inBlock, Exit.then])
            refine bodyPost_ret (v := .tuple #[.agg #[.int .i64 j, .int .i64 k, .int .i64 (C + 1)], .int .i64 0]) (by simp [results, Tryz.results137, go_sem]) rfl ⟨rfl, ?_⟩
            exact ((Below.refl w.heap.size w).alloc (Nat.le_refl _) _)
end Go.Proofs.YtiiajhomdpfafaaGreatDoor
