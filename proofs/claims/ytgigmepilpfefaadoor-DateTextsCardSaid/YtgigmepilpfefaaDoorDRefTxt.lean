/- The contracts of the document's Parse and Print. -/
import Derived.Test.YtgigmepilpfefaaDoorDRefCiv
import Derived.Test.YtgigmepilpfefaaDoorDDig
import Derived.Test.YtgigmepilpfefaaDoorDParse
namespace Go.Proofs.YtgigmepilpfefaaDoor
open Go.RowKit

theorem numN_pre {s : ByteArray} (k : Nat) (h : ∀ i < k, digB (bt s i) = true) : numN s k < 10 ^ k := by
  induction k with
  | zero => exact Nat.one_pos
  | succ k ih =>
    have a := ih (fun i hi => h i (by omega))
    have b := h k (by omega)
    unfold digB at b
    rw [decide_eq_true_eq] at b
    rw [Nat.pow_succ]
    show 10 * numN s k + (bt s k - 48) < _
    omega
/-- What the document's number tells. -/
def numI (s : ByteArray) : Int := if allDig s then (numN s s.size : Nat) else -1

set_option maxHeartbeats 800000 in
theorem refNumber_any (s : ByteArray) (w : World) (hs : s.size ≤ 4) :
    Calls Tryd.prog 18 #[.string s] w fun e w' => e = .returned (.int .i64 (numI s)) ∧ w' = w := by
  obtain ⟨R, hR⟩ : ∃ R : Int, numI s = R := ⟨_, rfl⟩
  rw [hR]
  have HR := hideS hR
  clear hR
  go_enter Tryd.func18, Tryd.ntmps18
  go_wp2_with fail
  go_loop [4, 3] (fun i n => ∃ (pos : Nat) (N : Int), pos ≤ s.size ∧ 0 ≤ N ∧ N ≤ 10000 ∧ i = .int .i64 pos ∧ n = .int .i64 N ∧ Hid (N = (numN s pos : Nat) ∧ ∀ i < pos, digB (bt s i) = true)) (fun i _ => s.size - (intOf i).toNat)
  case atStart => exact ⟨0, 0, by omega, by omega, by omega, rfl, rfl, rfl, fun i hi => by omega⟩
  case round =>
    obtain ⟨pos, N, hp, hN0, hN1, rfl, rfl, HN⟩ := hrel
    by_cases hlt : pos < s.size
    · have hbt := bt_at hlt
      have hd : digB (bt s pos) = decide (48 ≤ bt s pos ∧ bt s pos ≤ 57) := rfl
      obtain ⟨b, hbb⟩ : ∃ b : Int, ((bt s pos : Nat) : Int) = b := ⟨_, rfl⟩
      by_cases hdg : 48 ≤ b ∧ b ≤ 57
      · obtain ⟨b0, b1⟩ := hdg
        have HDg : Hid (∀ i < pos + 1, digB (bt s i) = true) := fun i hi => by
          by_cases hip : i < pos
          · exact HN.out.2 i hip
          · obtain rfl : i = pos := by omega
            rw [hd, decide_eq_true_eq]; omega
        have HN' : Hid (10 * N + (b - 48) = (numN s (pos + 1) : Nat)) := by
          have := HN.out.1
          show _ = (((10 * numN s pos + (bt s pos - 48) : Nat)) : Int)
          omega
        have HB : Hid (numN s (pos + 1) < 10000) := by
          have := numN_pre (pos + 1) HDg.out
          refine Nat.lt_of_lt_of_le this ?_
          exact Nat.pow_le_pow_right (n := 10) (by omega) (show pos + 1 ≤ 4 by omega)
        clear hd
        go_wp2_with fail
        go_round
        case rel => exact ⟨pos + 1, 10 * N + (b - 48), by omega, by omega, by have := HN'.out; have := HB.out; omega, by go_num, rfl, HN'.out, HDg.out⟩
        case measure => simp [intOf]; omega
      · have HE : Hid (-1 = R) := by
          show _ = _
          rw [← HR.out]
          unfold numI
          rw [if_neg (fun a => by
            have := a pos hlt
            rw [hd, decide_eq_true_eq] at this
            omega)]
        have b2 : b ≤ 255 := by have := (s[pos]'hlt).toNat_lt; omega
        clear hd
        rcases (show b < 48 ∨ (48 ≤ b ∧ 57 < b) by omega) with b0 | ⟨b0, b1⟩
        all_goals
          clear hdg
          go_wp2_with fail
          go_ret
          obtain rfl := HE.out
          exact ⟨rfl, rfl⟩
    · have HE : Hid (N = R) := by
        show _ = _
        rw [← HR.out]
        unfold numI
        have e : pos = s.size := by omega
        rw [if_pos (show allDig s from fun i hi => HN.out.2 i (by omega)), HN.out.1, e]
      go_wp2_with fail
      go_ret
      obtain rfl := HE.out
      exact ⟨rfl, rfl⟩

theorem num_yes {s : ByteArray} (h : allDig s) (k : Nat) (hk : s.size = k) : numI s = (numN s k : Nat) := by
  unfold numI; rw [if_pos h, hk]
theorem num_no {s : ByteArray} (h : ¬ allDig s) : numI s = -1 := by unfold numI; rw [if_neg h]
theorem dig_ext' {s : ByteArray} {a b i : Nat} (hb : b ≤ s.size) (h : allDig (s.extract a b)) (h1 : a ≤ i) (h2 : i < b) : digB (bt s i) = true := by
  have e := h (i - a) (by rw [size_ext hb]; omega)
  rw [bt_extract hb (by omega), show a + (i - a) = i by omega] at e
  exact e
theorem txt_iff {s : ByteArray} (hz : s.size = 10) (h4 : bt s 4 = 45) (h7 : bt s 7 = 45) (a : allDig (s.extract 0 4)) (b : allDig (s.extract 5 7)) (c : allDig (s.extract 8 10)) : txtOk s := by
  refine ⟨hz, fun i hi => ?_⟩
  unfold okB
  by_cases hd : i = 4 ∨ i = 7
  · rw [if_pos hd]
    rcases hd with rfl | rfl
    · rw [h4]; rfl
    · rw [h7]; rfl
  · rw [if_neg hd]
    rcases (show i < 4 ∨ (5 ≤ i ∧ i < 7) ∨ (8 ≤ i ∧ i < 10) by omega) with e | ⟨e, e'⟩ | ⟨e, e'⟩
    · exact dig_ext' (by omega) a (by omega) e
    · exact dig_ext' (by omega) b e e'
    · exact dig_ext' (by omega) c e e'
theorem txt_dash {s : ByteArray} (h : txtOk s) : bt s 4 = 45 ∧ bt s 7 = 45 := by
  have a := h.2 4 (by omega)
  have b := h.2 7 (by omega)
  unfold okB at a b
  rw [if_pos (by omega), beq_iff_eq] at a b
  exact ⟨a, b⟩
/-- The document's reading where the strokes are in place. -/
theorem num_ok {s : ByteArray} (hz : s.size = 10) (h4 : bt s 4 = 45) (h7 : bt s 7 = 45) :
    (txtOk s ∧ numI (s.extract 0 4) = parseY s ∧ numI (s.extract 5 7) = parseM s ∧ numI (s.extract 8 10) = parseD s) ∨
    (¬ txtOk s ∧ ¬ okD (numI (s.extract 0 4)) (numI (s.extract 5 7)) (numI (s.extract 8 10))) := by
  by_cases a : allDig (s.extract 0 4)
  · by_cases b : allDig (s.extract 5 7)
    · by_cases c : allDig (s.extract 8 10)
      · exact Or.inl ⟨txt_iff hz h4 h7 a b c, num_yes a 4 (by rw [size_ext (by omega)]), num_yes b 2 (by rw [size_ext (by omega)]), num_yes c 2 (by rw [size_ext (by omega)])⟩
      · refine Or.inr ⟨fun t => c (dig_ext t (by omega) (fun i _ _ => by omega)), fun o => ?_⟩
        have := o.2.2.2.2.1
        rw [num_no c] at this
        omega
    · refine Or.inr ⟨fun t => b (dig_ext t (by omega) (fun i _ _ => by omega)), fun o => ?_⟩
      have := o.2.2.1
      rw [num_no b] at this
      omega
  · refine Or.inr ⟨fun t => a (dig_ext t (by omega) (fun i _ _ => by omega)), fun o => ?_⟩
    have := o.1
    rw [num_no a] at this
    omega

set_option maxHeartbeats 800000 in
theorem refParse_dash (s : ByteArray) (w : World) (A E : Int) (hz : s.size = 10) (h4 : bt s 4 = 45) (h7 : bt s 7 = 45) (HO : Hid (∀ w, Calls Tryd.prog 17 #[.int .i64 (numI (s.extract 0 4)), .int .i64 (numI (s.extract 5 7)), .int .i64 (numI (s.extract 8 10))] w fun e w' => e = .returned (.tuple #[.int .i64 A, .int .i64 E]) ∧ w' = w)) :
    Calls Tryd.prog 6 #[.string s] w fun e w' => e = .returned (.tuple #[.int .i64 A, .int .i64 E]) ∧ Below w.heap.size w w' := by
  have H1 := hideS (fun w => refNumber_any (s.extract 0 4) w (by rw [size_ext (by omega)]; omega))
  have H2 := hideS (fun w => refNumber_any (s.extract 5 7) w (by rw [size_ext (by omega)]; omega))
  have H3 := hideS (fun w => refNumber_any (s.extract 8 10) w (by rw [size_ext (by omega)]; omega))
  have b4 : (s[4]'(by omega)).toNat = 45 := (bt_at _).trans h4
  have b7 : (s[7]'(by omega)).toNat = 45 := (bt_at _).trans h7
  clear h4 h7
  generalize numI (s.extract 0 4) = Y at *
  generalize numI (s.extract 5 7) = M at *
  generalize numI (s.extract 8 10) = D at *
  have e3 : s.extract 8 s.size = s.extract 8 10 := by rw [hz]
  go_enter Tryd.func6, Tryd.ntmps6
  go_wp2_with fail
  go_region_with (first | (go_at_call_of 18 (Value.string (s.extract 0 4)); refine (H1.out _).mono ?_; rintro e w2 ⟨rfl, rfl⟩) | (go_at_call_of 18 (Value.string (s.extract 5 7)); refine (H2.out _).mono ?_; rintro e w3 ⟨rfl, rfl⟩) | (go_at_call_of 18 (Value.string (s.extract 8 10)); refine (H3.out _).mono ?_; rintro e w4 ⟨rfl, rfl⟩) | (go_at_call 17; refine (HO.out _).mono ?_; rintro e w5 ⟨rfl, rfl⟩))
  all_goals
    go_wp2_with fail
    go_ret2
    exact ⟨rfl, (Below.refl _ _).drew⟩
theorem refParse_form (s : ByteArray) (w : World) (h : ¬ (s.size = 10 ∧ bt s 4 = 45 ∧ bt s 7 = 45)) :
    Calls Tryd.prog 6 #[.string s] w fun e w' => e = .returned (.tuple #[.int .i64 0, .int .i64 50]) ∧ Below w.heap.size w w' := by
  by_cases hz : s.size = 10
  · have b4 := bt_at (s := s) (i := 4) (by omega)
    have b7 := bt_at (s := s) (i := 7) (by omega)
    obtain ⟨c4, hc4⟩ : ∃ b : Int, ((bt s 4 : Nat) : Int) = b := ⟨_, rfl⟩
    obtain ⟨c7, hc7⟩ : ∃ b : Int, ((bt s 7 : Nat) : Int) = b := ⟨_, rfl⟩
    rcases (show c4 ≠ 45 ∨ (c4 = 45 ∧ c7 ≠ 45) by omega) with e | ⟨e, e'⟩
    all_goals
      clear h
      go_enter Tryd.func6, Tryd.ntmps6
      go_wp2_with fail
      go_ret2
      exact ⟨rfl, Below.refl _ _⟩
  · have hz' : ((s.size : Nat) : Int) ≠ 10 := by omega
    clear h hz
    go_enter Tryd.func6, Tryd.ntmps6
    go_wp2_with fail
    go_ret2
    exact ⟨rfl, Below.refl _ _⟩
theorem refParse_day (s : ByteArray) (w : World) (h : txtOk s) (ho : okD (parseY s) (parseM s) (parseD s)) :
    Calls Tryd.prog 6 #[.string s] w fun e w' => e = .returned (.tuple #[.int .i64 (dayI (parseY s) (parseM s) (parseD s)), .int .i64 0]) ∧ Below w.heap.size w w' := by
  obtain ⟨h4, h7⟩ := txt_dash h
  rcases num_ok h.1 h4 h7 with ⟨_, e1, e2, e3⟩ | ⟨a, _⟩
  · refine refParse_dash s w _ _ h.1 h4 h7 (fun w => ?_)
    rw [e1, e2, e3]
    exact refOf_ok _ _ _ w ho
  · exact absurd h a
theorem refParse_none (s : ByteArray) (w : World) (h : ¬ (txtOk s ∧ okD (parseY s) (parseM s) (parseD s))) :
    Calls Tryd.prog 6 #[.string s] w fun e w' => e = .returned (.tuple #[.int .i64 0, .int .i64 50]) ∧ Below w.heap.size w w' := by
  by_cases hf : s.size = 10 ∧ bt s 4 = 45 ∧ bt s 7 = 45
  · obtain ⟨hz, h4, h7⟩ := hf
    refine refParse_dash s w _ _ hz h4 h7 (fun w => ?_)
    rcases num_ok hz h4 h7 with ⟨t, e1, e2, e3⟩ | ⟨_, o⟩
    · rw [e1, e2, e3]
      exact refOf_bad _ _ _ w (fun o => h ⟨t, o⟩)
    · exact refOf_bad _ _ _ w o
  · exact refParse_form s w hf
end Go.Proofs.YtgigmepilpfefaaDoor
