/- The contracts of Length and Of, of the program and of the document's answer. The contract of Parse at any text. -/
import Derived.Test.YtienedhaogjahaaGreatDoorDLen
import Derived.Deep.RegionWith
import Derived.Test.YtienedhaogjahaaGreatDoorDTxt
namespace Go.Proofs.YtienedhaogjahaaGreatDoor
open Go.RowKit

def ymB (y m : Int) : Prop := 1900 ≤ y ∧ y ≤ 2199 ∧ 1 ≤ m ∧ m ≤ 12

theorem isYear_any (y : Int) (w : World) :
    Calls Tryz.prog 225 #[.int .i64 y] w fun e w' => e = .returned (.bool (decide (1900 ≤ y ∧ y ≤ 2199))) ∧ w' = w := by
  by_cases h1 : 1900 ≤ y <;> by_cases h2 : y ≤ 2199
  all_goals
    first | rw [decide_eq_true (⟨h1, h2⟩ : 1900 ≤ y ∧ y ≤ 2199)] | rw [decide_eq_false (fun h : 1900 ≤ y ∧ y ≤ 2199 => by omega)]
    go_enter Tryz.func225, Tryz.ntmps225
    go_wp2
    go_ret
    exact ⟨rfl, rfl⟩

theorem lengthP_ok (y m : Int) (w : World) (h : ymB y m) :
    Calls Tryz.prog 201 #[.int .i64 y, .int .i64 m] w fun e w' => e = .returned (.tuple #[.int .i64 (lenI y m), .int .i64 0]) ∧ w' = w := by
  obtain ⟨h1, h2, h3, h4⟩ := h
  have hy := isYear_any y
  rw [decide_eq_true (⟨h1, h2⟩ : 1900 ≤ y ∧ y ≤ 2199)] at hy
  have HL := hideS (length_any y m w h3 h4)
  have HY := hideS hy
  clear hy
  generalize lenI y m = L at *
  go_enter Tryz.func201, Tryz.ntmps201
  go_wp2_with (first | (go_at_call 225; refine (HY.out _).mono ?_; rintro e w' ⟨rfl, rfl⟩) | (go_at_call 203; refine HL.out.mono ?_; rintro e w' ⟨rfl, rfl⟩))
  go_ret2
  exact ⟨rfl, rfl⟩
theorem leaps_any (y : Int) (w : World) (h : 0 ≤ y) (h' : y ≤ 3000) :
    Calls Tryz.prog 226 #[.int .i64 y] w fun e w' => e = .returned (.int .i64 (lpsI y)) ∧ w' = w := by
  unfold lpsI
  go_enter Tryz.func226, Tryz.ntmps226
  go_wp2
  go_ret
  exact ⟨rfl, rfl⟩

theorem newYear_any (y : Int) (w : World) (h : 1900 ≤ y) (h' : y ≤ 2200) :
    Calls Tryz.prog 202 #[.int .i64 y] w fun e w' => e = .returned (.int .i64 (nyI y)) ∧ w' = w := by
  have H1 := hideS (leaps_any (y - 1) w (by omega) (by omega))
  have H2 := hideS (leaps_any 1899 w (by omega) (by omega))
  have e2 : lpsI 1899 = 460 := by decide
  rw [e2] at H2
  unfold nyI
  have hl : 0 ≤ lpsI (y - 1) ∧ lpsI (y - 1) ≤ 3000 := by unfold lpsI; omega
  obtain ⟨l1, l2⟩ := hl
  generalize lpsI (y - 1) = L at *
  clear e2
  go_enter Tryz.func202, Tryz.ntmps202
  go_wp2_with (first | (go_at_call_of 226 (Value.int IntKind.i64 1899); refine H2.out.mono ?_; rintro e w' ⟨rfl, rfl⟩) | (go_at_call 226; refine H1.out.mono ?_; rintro e w' ⟨rfl, rfl⟩))
  go_ret
  exact ⟨rfl, rfl⟩

set_option maxHeartbeats 400000 in
theorem ofP_ok (y m d : Int) (w : World) (h : okD y m d) :
    Calls Tryz.prog 176 #[.int .i64 y, .int .i64 m, .int .i64 d] w fun e w' => e = .returned (.tuple #[.int .i64 (dayI y m d), .int .i64 0]) ∧ w' = w := by
  obtain ⟨h1, h2, h3, h4, h5, h6⟩ := h
  have HL := hideS (lengthP_ok y m w ⟨h1, h2, h3, h4⟩)
  have HN := hideS (newYear_any y w h1 (by omega))
  have hl := len_hi y m
  have HLen := hideS (fun (k : Int) (wx : World) (a : 1 ≤ k) (b : k ≤ 12) => length_any y k wx a b)
  have HD : Hid (dayI y m d = nyI y + d - 1 + cumI y m) := by show _ = _; unfold dayI; omega
  have n1 : 0 ≤ nyI y := by have := ny_lo h1; omega
  have n2 : nyI y ≤ 110000 := by have := ny_hi h1; omega
  obtain ⟨R, hR⟩ : ∃ R, dayI y m d = R := ⟨_, rfl⟩
  rw [hR] at HD ⊢
  clear hR
  obtain ⟨L, hL⟩ : ∃ L, lenI y m = L := ⟨_, rfl⟩
  rw [hL] at HL h6 hl
  clear hL
  obtain ⟨N, hN⟩ : ∃ N, nyI y = N := ⟨_, rfl⟩
  rw [hN] at HN n1 n2 HD
  clear hN
  go_enter Tryz.func176, Tryz.ntmps176
  go_wp2_with (first | (go_at_call 201; refine HL.out.mono ?_; rintro e w' ⟨rfl, rfl⟩) | (go_at_call 202; refine HN.out.mono ?_; rintro e w' ⟨rfl, rfl⟩))
  clear HL HN
  go_loop [35, 10] (fun i n => ∃ (k : Nat) (C : Int), (k : Int) + 1 ≤ m ∧ 0 ≤ C ∧ C ≤ 200000 ∧ i = .int .i64 k ∧ n = .int .i64 C ∧ Hid (C = N + d - 1 + cumI y (k + 1))) (fun i _ => (m - intOf i).toNat)
  case atStart => exact ⟨0, N + d - 1, by omega, by omega, by omega, rfl, rfl, by show _ = _; rw [show (((0 : Nat) : Int) + 1) = 1 by rfl, cum_first]; omega⟩
  case round =>
    obtain ⟨k, C, hk, hC0, hC1, rfl, rfl, HC⟩ := hrel
    by_cases hlt : (k : Int) + 1 < m
    · have H := hideS (fun wx => HLen.out (k + 1) wx (by omega) (by omega))
      have HN : Hid (C + lenI y (k + 1) = N + d - 1 + cumI y (((k + 1 : Nat) : Int) + 1)) := by
        show _ = _
        rw [HC.out, show (((k + 1 : Nat) : Int) + 1) = (k : Int) + 1 + 1 by omega, cum_succ (m := (k : Int) + 1) (by omega) (by omega)]; omega
      have HB : Hid (cumI y (((k + 1 : Nat) : Int) + 1) ≤ 366) := cum_hi (by omega) (by omega)
      have l1 := len_lo y (k + 1)
      have l2 := len_hi y (k + 1)
      generalize lenI y (k + 1) = l at *
      have hlt' : (k : Int) < m - 1 := by omega
      go_wp2_with (go_at_call 203; refine (H.out _).mono ?_; rintro e w' ⟨rfl, rfl⟩)
      go_round
      case rel => exact ⟨k + 1, C + l, by omega, by omega, by have := HN.out; have := HB.out; omega, by go_num, rfl, HN⟩
      case measure => simp [intOf]; omega
    · have hm : m = (k : Int) + 1 := by omega
      have HR : Hid (C = R) := by show _ = _; rw [HC.out, HD.out, hm]
      have hge : ¬ (k : Int) < m - 1 := by omega
      clear HC HD hm
      go_wp2_with fail
      go_ret2
      obtain rfl := HR.out
      exact ⟨rfl, rfl⟩

end Go.Proofs.YtienedhaogjahaaGreatDoor
namespace Go.Proofs.YtienedhaogjahaaGreatDoor
open Go.RowKit

theorem okB_dash {i b : Nat} (h : i = 4 ∨ i = 7) : okB i b = (b == 45) := by unfold okB; rw [if_pos h]
theorem okB_dig {i b : Nat} (h : ¬ (i = 4 ∨ i = 7)) : okB i b = digB b := by unfold okB; rw [if_neg h]
theorem txt_no {s : ByteArray} {i : Nat} (hi : i < 10) (h : okB i (bt s i) = false) : decide (txtOk s) = false := by
  rw [decide_eq_false_iff_not]
  intro a
  rw [a.2 i hi] at h
  exact Bool.noConfusion h

set_option maxHeartbeats 800000 in
theorem isText_any (s : ByteArray) (w : World) :
    Calls Tryz.prog 175 #[.string s] w fun e w' => e = .returned (.bool (decide (txtOk s))) ∧ Below w.heap.size w w' := by
  by_cases hz : s.size = 10
  · obtain ⟨R, hR⟩ : ∃ R, decide (txtOk s) = R := ⟨_, rfl⟩
    rw [hR]
    have HR := hideS hR
    clear hR
    go_enter Tryz.func175, Tryz.ntmps175
    go_wp2_with fail
    go_loopw [3] (fun _ w' => ∃ (pos : Nat), w' = w.iter s pos ∧ pos ≤ 10 ∧ Hid (∀ i < pos, okB i (bt s i) = true)) (fun _ w' => 10 - w'.iterPos w.heap.size)
    case atStart => exact ⟨0, rfl, by omega, fun i hi => by omega⟩
    case round =>
      obtain ⟨pos, rfl, hp, HP⟩ := hrel
      by_cases hlt : pos < 10
      · obtain ⟨r, q, hnx, r0, r1, hr⟩ := next_rune (P := Tryz.prog) w s pos (by omega)
        have HRr := hideS hr
        clear hr
        obtain ⟨p, hpp⟩ : ∃ p : Int, (pos : Int) = p := ⟨_, rfl⟩
        rw [hpp] at hnx
        have HPP := hideS hpp
        have p0 : 0 ≤ p := by omega
        have p1 : p < 10 := by omega
        clear hpp
        by_cases hd : p = 4 ∨ p = 7
        · have HB : Hid (okB pos (bt s pos) = (bt s pos == 45)) := okB_dash (by have := HPP.out; omega)
          by_cases hr45 : r = 45
          · have HQ : Hid (q = 1 ∧ okB pos (bt s pos) = true) := by
              rcases HRr.out with ⟨_, b, c⟩ | ⟨b, _⟩
              · refine ⟨c, ?_⟩
                rw [HB.out, beq_iff_eq]; omega
              · omega
            obtain rfl := HQ.out.1
            subst hr45
            rcases hd with rfl | rfl
            all_goals
              go_wp2_with fail
              go_roundw
              case rel =>
                refine ⟨pos + 1, rfl, by omega, fun i hi => ?_⟩
                by_cases hip : i < pos
                · exact HP.out i hip
                · obtain rfl : i = pos := by omega
                  exact HQ.out.2
              case measure => simp; omega
          · have HN : Hid (false = R) := by
              show false = R
              rw [← HR.out]
              refine (txt_no hlt ?_).symm
              rw [HB.out, beq_eq_false_iff_ne]
              rcases HRr.out with ⟨_, b, _⟩ | ⟨_, b⟩ <;> omega
            rcases hd with rfl | rfl
            all_goals
              go_wp2_with fail
              go_ret
              obtain rfl := HN.out
              exact ⟨rfl, (Below.refl w.heap.size w).alloc (Nat.le_refl _) _⟩
        · have HB : Hid (okB pos (bt s pos) = digB (bt s pos)) := okB_dig (by have := HPP.out; omega)
          have hd4 : (p == 4) = false := by rw [beq_eq_false_iff_ne]; omega
          have hd7 : (p == 7) = false := by rw [beq_eq_false_iff_ne]; omega
          clear hd
          by_cases hdg : 48 ≤ r ∧ r ≤ 57
          · obtain ⟨g0, g1⟩ := hdg
            have HQ : Hid (q = 1 ∧ okB pos (bt s pos) = true) := by
              rcases HRr.out with ⟨_, b, c⟩ | ⟨b, _⟩
              · refine ⟨c, ?_⟩
                rw [HB.out]; unfold digB; rw [decide_eq_true_eq]; omega
              · omega
            obtain rfl := HQ.out.1
            go_wp2_with fail
            go_roundw
            case rel =>
              refine ⟨pos + 1, rfl, by omega, fun i hi => ?_⟩
              by_cases hip : i < pos
              · exact HP.out i hip
              · obtain rfl : i = pos := by omega
                exact HQ.out.2
            case measure => simp; omega
          · have HN : Hid (false = R) := by
              show false = R
              rw [← HR.out]
              refine (txt_no hlt ?_).symm
              rw [HB.out]; unfold digB; rw [decide_eq_false_iff_not]
              rcases HRr.out with ⟨_, b, _⟩ | ⟨_, b⟩ <;> omega
            rcases (show r < 48 ∨ (48 ≤ r ∧ 57 < r) by omega) with g0 | ⟨g0, g1⟩
            all_goals
              clear hdg
              go_wp2_with fail
              go_ret
              obtain rfl := HN.out
              exact ⟨rfl, (Below.refl w.heap.size w).alloc (Nat.le_refl _) _⟩
      · obtain rfl : pos = 10 := by omega
        have hnx : ∀ ty, (Instr.next (.pointer (some ⟨w.heap.size, 0, none⟩)) true ty).run Tryz.prog (w.iter s 10) = _ := fun ty => run_next_end w s 10 ty (by omega)
        have HN : Hid (true = R) := by
          show true = R
          rw [← HR.out]
          exact (decide_eq_true (⟨hz, HP.out⟩ : txtOk s)).symm
        go_wp2_with fail
        go_ret
        obtain rfl := HN.out
        exact ⟨rfl, (Below.refl w.heap.size w).alloc (Nat.le_refl _) _⟩
  · rw [show decide (txtOk s) = false from decide_eq_false (fun a => hz a.1)]
    have hz' : ((s.size : Nat) : Int) ≠ 10 := by omega
    clear hz
    go_enter Tryz.func175, Tryz.ntmps175
    go_wp2_with fail
    go_ret
    exact ⟨rfl, Below.refl _ _⟩

set_option maxHeartbeats 800000 in
theorem number_any (s : ByteArray) (w : World) (hs : s.size ≤ 4) (hd : allDig s) :
    Calls Tryz.prog 177 #[.string s] w fun e w' => e = .returned (.int .i64 (numN s s.size : Nat)) ∧ Below w.heap.size w w' := by
  obtain ⟨R, hR⟩ : ∃ R : Int, ((numN s s.size : Nat) : Int) = R := ⟨_, rfl⟩
  rw [hR]
  have HR := hideS hR
  have HD := hideS hd
  clear hR hd
  go_enter Tryz.func177, Tryz.ntmps177
  go_wp2_with fail
  go_loopw [3] (fun n w' => ∃ (pos : Nat) (N : Int), w' = w.iter s pos ∧ pos ≤ s.size ∧ 0 ≤ N ∧ N ≤ 10000 ∧ n = .int .i64 N ∧ Hid (N = (numN s pos : Nat))) (fun _ w' => s.size - w'.iterPos w.heap.size)
  case atStart => exact ⟨0, 0, rfl, by omega, by omega, by omega, rfl, rfl⟩
  case round =>
    obtain ⟨pos, N, rfl, hp, hN0, hN1, rfl, HN⟩ := hrel
    by_cases hlt : pos < s.size
    · have hnx := next_dig (P := Tryz.prog) w s pos hlt (HD.out pos hlt)
      have hb := HD.out pos hlt
      unfold digB at hb
      rw [decide_eq_true_eq] at hb
      obtain ⟨b, hbb⟩ : ∃ b : Int, ((bt s pos : Nat) : Int) = b := ⟨_, rfl⟩
      rw [hbb] at hnx
      have b0 : 48 ≤ b := by omega
      have b1 : b ≤ 57 := by omega
      have HN' : Hid (10 * N + (b - 48) = (numN s (pos + 1) : Nat)) := by
        have := HN.out
        show _ = (((10 * numN s pos + (bt s pos - 48) : Nat)) : Int)
        omega
      have HB : Hid (numN s (pos + 1) < 10000) := by
        have := numN_hi HD.out (pos + 1) (by omega)
        refine Nat.lt_of_lt_of_le this ?_
        exact Nat.pow_le_pow_right (n := 10) (by omega) (show pos + 1 ≤ 4 by omega)
      clear hb hbb
      go_wp2_with fail
      go_roundw
      case rel => exact ⟨pos + 1, 10 * N + (b - 48), rfl, by omega, by omega, by have := HN'.out; have := HB.out; omega, rfl, HN'⟩
      case measure => simp; omega
    · have hnx : ∀ ty, (Instr.next (.pointer (some ⟨w.heap.size, 0, none⟩)) true ty).run Tryz.prog (w.iter s pos) = _ := fun ty => run_next_end w s pos ty hlt
      have HE : Hid (N = R) := by
        show _ = _
        rw [HN.out, ← HR.out, show pos = s.size by omega]
      go_wp2_with fail
      go_ret
      obtain rfl := HE.out
      exact ⟨rfl, (Below.refl w.heap.size w).alloc (Nat.le_refl _) _⟩

set_option maxHeartbeats 800000 in
theorem parse_txt (s : ByteArray) (w : World) (A E : Int) (h : txtOk s) (HO : Hid (∀ w, Calls Tryz.prog 176 #[.int .i64 (parseY s), .int .i64 (parseM s), .int .i64 (parseD s)] w fun e w' => e = .returned (.tuple #[.int .i64 A, .int .i64 E]) ∧ w' = w)) :
    Calls Tryz.prog 148 #[.string s] w fun e w' => e = .returned (.tuple #[.int .i64 A, .int .i64 E]) ∧ Below w.heap.size w w' := by
  have hz := h.1
  have HT : Hid (∀ w, Calls Tryz.prog 175 #[.string s] w fun e w' => e = .returned (.bool true) ∧ Below w.heap.size w w') := fun w => by
    have := isText_any s w
    rw [decide_eq_true h] at this; exact this
  have n1 := fun w => number_any (s.extract 0 4) w (by rw [size_ext (by omega)]; omega) (dig_ext h (by omega) (fun i _ _ => by omega))
  have n2 := fun w => number_any (s.extract 5 7) w (by rw [size_ext (by omega)]; omega) (dig_ext h (by omega) (fun i _ _ => by omega))
  have n3 := fun w => number_any (s.extract 8 10) w (by rw [size_ext (by omega)]; omega) (dig_ext h (by omega) (fun i _ _ => by omega))
  rw [size_ext (by omega)] at n1 n2 n3
  have H1 : Hid (∀ w, Calls Tryz.prog 177 #[.string (s.extract 0 4)] w fun e w' => e = .returned (.int .i64 (parseY s)) ∧ Below w.heap.size w w') := n1
  have H2 : Hid (∀ w, Calls Tryz.prog 177 #[.string (s.extract 5 7)] w fun e w' => e = .returned (.int .i64 (parseM s)) ∧ Below w.heap.size w w') := n2
  have H3 : Hid (∀ w, Calls Tryz.prog 177 #[.string (s.extract 8 10)] w fun e w' => e = .returned (.int .i64 (parseD s)) ∧ Below w.heap.size w w') := n3
  clear n1 n2 n3 h
  generalize parseY s = Y at *
  generalize parseM s = M at *
  generalize parseD s = D at *
  have e3 : s.extract 8 s.size = s.extract 8 10 := by rw [hz]
  go_enter Tryz.func148, Tryz.ntmps148
  go_wp2_with (go_at_call 175; refine (HT.out _).mono ?_; rintro e w1 ⟨rfl, hb1⟩; have HB1 := hideS hb1; clear hb1)
  go_region_with (first | (go_at_call_of 177 (Value.string (s.extract 0 4)); refine (H1.out _).mono ?_; rintro e w2 ⟨rfl, hb2⟩; have HB2 := hideS (HB1.out.drew.trans (hb2.mono HB1.out.drew.size)); clear hb2) | (go_at_call_of 177 (Value.string (s.extract 5 7)); refine (H2.out _).mono ?_; rintro e w3 ⟨rfl, hb3⟩; have HB3 := hideS (HB2.out.trans (hb3.mono HB2.out.size)); clear hb3) | (go_at_call_of 177 (Value.string (s.extract 8 10)); refine (H3.out _).mono ?_; rintro e w4 ⟨rfl, hb4⟩; have HB4 := hideS (HB3.out.trans (hb4.mono HB3.out.size)); clear hb4) | (go_at_call 176; refine (HO.out _).mono ?_; rintro e w5 ⟨rfl, rfl⟩))
  all_goals
    go_wp2_with fail
    go_ret2
    exact ⟨rfl, HB4.out⟩
theorem parse_day (s : ByteArray) (w : World) (h : txtOk s) (ho : okD (parseY s) (parseM s) (parseD s)) :
    Calls Tryz.prog 148 #[.string s] w fun e w' => e = .returned (.tuple #[.int .i64 (dayI (parseY s) (parseM s) (parseD s)), .int .i64 0]) ∧ Below w.heap.size w w' :=
  parse_txt s w _ _ h (fun w => ofP_ok _ _ _ w ho)
end Go.Proofs.YtienedhaogjahaaGreatDoor
