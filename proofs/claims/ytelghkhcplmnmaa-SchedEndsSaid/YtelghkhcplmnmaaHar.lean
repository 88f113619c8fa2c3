/- The contract of the document's Adjust at any calendar that may be. The contracts of the document's Add and Count. -/
import Derived.Test.YtelghkhcplmnmaaHaq
namespace Go.Proofs.Ytelghkhcplmnmaa
open Go.RowKit

theorem refAdjust_none (W n s : Int) (p : Option Addr) (c N : Nat) (o1 o2 : Option Int) (w : World) (H : Hid (AdjH w W N p c n s o1 o2)) :
    Calls Try.prog 27 #[.agg #[.int .i64 W, .slice p N c], .int .i64 n, .int .i64 0] w fun e w' => e = .returned (.tuple #[.int .i64 n, .int .i64 0]) ∧ Below w.heap.size w w' := by
  have hi := fun wx => refIn_any 0 0 4 wx
  rw [decide_eq_true (by omega)] at hi
  have HI := hideS hi
  clear hi
  have HB0 : Hid (Below w.heap.size w (w.alloc (.cells #[.int .i64 W, .slice p N c] 24))) := (Below.refl w.heap.size w).alloc (Nat.le_refl _) _
  go_enter Try.func27, Try.ntmps27
  go_wp2_with (first | (go_at_call 40; refine (H.out.chk _ HB0.out).mono ?_; rintro e w1 ⟨rfl, hb1⟩) | (go_at_call 47; refine (HI.out _).mono ?_; rintro e w2 ⟨rfl, rfl⟩) | (go_at_call 48; refine (H.out.day _).mono ?_; rintro e w2 ⟨rfl, rfl⟩))
  go_ret2
  exact ⟨rfl, HB0.out.trans (hb1.mono HB0.out.size)⟩

set_option maxHeartbeats 3200000 in
theorem refAdjust_turn (W n way s : Int) (p : Option Addr) (c N : Nat) (o2 : Option Int) (w : World) (H : Hid (AdjH w W N p c n s none o2)) (hw : (way = 3 ∧ s = 1) ∨ (way = 4 ∧ s = -1)) :
    Calls Try.prog 27 #[.agg #[.int .i64 W, .slice p N c], .int .i64 n, .int .i64 way] w fun e w' => e = .returned (.tuple #[.int .i64 (o2.getD 0), .int .i64 (ansE o2)]) ∧ Below w.heap.size w w' := by
  have hi := fun wx => refIn_any way 0 4 wx
  rw [decide_eq_true (by omega)] at hi
  have HI := hideS hi
  clear hi
  have HB0 : Hid (Below w.heap.size w (w.alloc (.cells #[.int .i64 W, .slice p N c] 24))) := (Below.refl w.heap.size w).alloc (Nat.le_refl _) _
  unfold ansE
  rcases o2 with _ | x
  all_goals
    rcases hw with ⟨rfl, rfl⟩ | ⟨rfl, rfl⟩
    all_goals
      go_enter Try.func27, Try.ntmps27
      go_wp2_with fail
      refine (H.out.chk _ HB0.out).mono ?_
      rintro e w1 ⟨rfl, hb1⟩
      have HB1 := hideS (CBox.first hb1)
      obtain ⟨c0, c1⟩ := cal_cells HB1.out
      clear hb1
      go_wp2_with (first | (go_at_call 47; refine (HI.out _).mono ?_; rintro e w2 ⟨rfl, hw2⟩; obtain rfl := hw2.symm; clear hw2) | (go_at_call 48; refine (H.out.day _).mono ?_; rintro e w2 ⟨rfl, hw2⟩; obtain rfl := hw2.symm; clear hw2) | fail)
      refine (H.out.one _ HB1.out.below).mono ?_
      rintro e w3 ⟨rfl, hb3⟩
      have HB3 := hideS (HB1.out.step hb3)
      obtain ⟨e0, e1⟩ := cal_cells HB3.out
      clear hb3
      go_wp2_with (go_at_call 49; refine (H.out.two _ HB3.out.below).mono ?_; rintro e w4 ⟨rfl, hb4⟩; have HB4 := hideS (HB3.out.step hb4); clear hb4)
      go_ret2
      exact ⟨rfl, HB4.out.below⟩

set_option maxHeartbeats 3200000 in
theorem refAdjust_stay (W n way s x : Int) (p : Option Addr) (c N : Nat) (o2 : Option Int) (w : World) (H : Hid (AdjH w W N p c n s (some x) o2)) (hw : (way = 3 ∧ s = 1) ∨ (way = 4 ∧ s = -1)) (hm : moI x = moI n) :
    Calls Try.prog 27 #[.agg #[.int .i64 W, .slice p N c], .int .i64 n, .int .i64 way] w fun e w' => e = .returned (.tuple #[.int .i64 x, .int .i64 0]) ∧ Below w.heap.size w w' := by
  have hi := fun wx => refIn_any way 0 4 wx
  rw [decide_eq_true (by omega)] at hi
  have HI := hideS hi
  have HM := hideS H.out.mon
  have hmx := H.out.monx x rfl
  rw [hm] at hmx
  have HX := hideS hmx
  clear hi hmx hm
  generalize moI n = m at *
  have HB0 : Hid (Below w.heap.size w (w.alloc (.cells #[.int .i64 W, .slice p N c] 24))) := (Below.refl w.heap.size w).alloc (Nat.le_refl _) _
  rcases hw with ⟨rfl, rfl⟩ | ⟨rfl, rfl⟩
  all_goals
    go_enter Try.func27, Try.ntmps27
    go_wp2_with fail
    refine (H.out.chk _ HB0.out).mono ?_
    rintro e w1 ⟨rfl, hb1⟩
    have HB1 := hideS (CBox.first hb1)
    obtain ⟨c0, c1⟩ := cal_cells HB1.out
    clear hb1
    go_wp2_with (first | (go_at_call 47; refine (HI.out _).mono ?_; rintro e w2 ⟨rfl, hw2⟩; obtain rfl := hw2.symm; clear hw2) | (go_at_call 48; refine (H.out.day _).mono ?_; rintro e w2 ⟨rfl, hw2⟩; obtain rfl := hw2.symm; clear hw2) | fail)
    refine (H.out.one _ HB1.out.below).mono ?_
    rintro e w3 ⟨rfl, hb3⟩
    have HB3 := hideS (HB1.out.step hb3)
    clear hb3
    go_wp2_with fail
    refine (HX.out _).mono ?_
    rintro e w4 ⟨rfl, hb4⟩
    have HB4 := hideS (HB3.out.step hb4)
    clear hb4
    go_wp2_with fail
    refine (HM.out _).mono ?_
    rintro e w5 ⟨rfl, hb5⟩
    have HB5 := hideS (HB4.out.step hb5)
    clear hb5
    go_wp2_with fail
    go_ret2
    exact ⟨rfl, HB5.out.below⟩

set_option maxHeartbeats 3200000 in
theorem refAdjust_back (W n way s x : Int) (p : Option Addr) (c N : Nat) (o2 : Option Int) (w : World) (H : Hid (AdjH w W N p c n s (some x) o2)) (hw : (way = 3 ∧ s = 1) ∨ (way = 4 ∧ s = -1)) (hm : moI x ≠ moI n) :
    Calls Try.prog 27 #[.agg #[.int .i64 W, .slice p N c], .int .i64 n, .int .i64 way] w fun e w' => e = .returned (.tuple #[.int .i64 (o2.getD 0), .int .i64 (ansE o2)]) ∧ Below w.heap.size w w' := by
  have hi := fun wx => refIn_any way 0 4 wx
  rw [decide_eq_true (by omega)] at hi
  have HI := hideS hi
  have HM := hideS H.out.mon
  have HX := hideS (H.out.monx x rfl)
  have hm' : (moI x != moI n) = true := bne_iff_ne.2 hm
  clear hi hm
  generalize moI n = m at *
  generalize moI x = mx at *
  have HB0 : Hid (Below w.heap.size w (w.alloc (.cells #[.int .i64 W, .slice p N c] 24))) := (Below.refl w.heap.size w).alloc (Nat.le_refl _) _
  unfold ansE
  rcases o2 with _ | x2
  all_goals
    rcases hw with ⟨rfl, rfl⟩ | ⟨rfl, rfl⟩
    all_goals
      go_enter Try.func27, Try.ntmps27
      go_wp2_with fail
      refine (H.out.chk _ HB0.out).mono ?_
      rintro e w1 ⟨rfl, hb1⟩
      have HB1 := hideS (CBox.first hb1)
      obtain ⟨c0, c1⟩ := cal_cells HB1.out
      clear hb1
      go_wp2_with (first | (go_at_call 47; refine (HI.out _).mono ?_; rintro e w2 ⟨rfl, hw2⟩; obtain rfl := hw2.symm; clear hw2) | (go_at_call 48; refine (H.out.day _).mono ?_; rintro e w2 ⟨rfl, hw2⟩; obtain rfl := hw2.symm; clear hw2) | fail)
      refine (H.out.one _ HB1.out.below).mono ?_
      rintro e w3 ⟨rfl, hb3⟩
      have HB3 := hideS (HB1.out.step hb3)
      clear hb3
      go_wp2_with fail
      refine (HX.out _).mono ?_
      rintro e w4 ⟨rfl, hb4⟩
      have HB4 := hideS (HB3.out.step hb4)
      clear hb4
      go_wp2_with fail
      refine (HM.out _).mono ?_
      rintro e w5 ⟨rfl, hb5⟩
      have HB5 := hideS (HB4.out.step hb5)
      obtain ⟨e0, e1⟩ := cal_cells HB5.out
      clear hb5
      go_wp2_with (go_at_call 49; refine (H.out.two _ HB5.out.below).mono ?_; rintro e w6 ⟨rfl, hb6⟩; have HB6 := hideS (HB5.out.step hb6); clear hb6)
      go_ret2
      exact ⟨rfl, HB6.out.below⟩

theorem refAdjust_ok (W n way : Int) (p : Option Addr) (b off c : Nat) (rs : List Rul) (w : World) (h : OkC W rs) (hs : RSrc w p b off rs) (hw : 0 ≤ way ∧ way ≤ 4) (hn : isDayP n) :
    Calls Try.prog 27 #[.agg #[.int .i64 W, .slice p rs.length c], .int .i64 n, .int .i64 way] w fun e w' => e = .returned (.tuple #[.int .i64 ((adjO (opB W rs) n way).getD 0), .int .i64 (ansE (adjO (opB W rs) n way))]) ∧ Below w.heap.size w w' := by
  have H := hideS (adjH_of W n (stepI way) p b off c rs w h hs (step_or way) hn)
  unfold adjO
  by_cases w0 : way = 0
  · rw [if_pos w0]
    subst w0
    exact refAdjust_none _ _ _ _ _ _ _ _ _ H
  · rw [if_neg w0]
    by_cases w3 : way = 3 ∨ way = 4
    · have hws : (way = 3 ∧ stepI way = 1) ∨ (way = 4 ∧ stepI way = -1) := by
        rcases w3 with rfl | rfl
        · exact Or.inl ⟨rfl, rfl⟩
        · exact Or.inr ⟨rfl, rfl⟩
      by_cases hx : ∀ x, srch (opB W rs) n (stepI way) = some x → moI x ≠ moI n
      · rw [if_pos ⟨w3, hx⟩]
        cases ho : srch (opB W rs) n (stepI way) with
        | none => rw [ho] at H; exact refAdjust_turn _ _ _ _ _ _ _ _ _ H hws
        | some x => rw [ho] at H; exact refAdjust_back _ _ _ _ _ _ _ _ _ _ H hws (hx x ho)
      · rw [if_neg (fun a => hx a.2)]
        cases ho : srch (opB W rs) n (stepI way) with
        | none => exact absurd (fun x e => by rw [ho] at e; cases e) hx
        | some x =>
          rw [ho] at H
          refine refAdjust_stay _ _ _ _ x _ _ _ _ _ H hws ?_
          by_cases e : moI x = moI n
          · exact e
          · exact absurd (fun y hy => by rw [ho] at hy; cases hy; exact e) hx
    · rw [if_neg (fun a => w3 a.1)]
      refine refAdjust_plain _ _ _ _ _ _ _ _ _ _ H ?_
      rcases (show way = 1 ∨ way = 2 by omega) with rfl | rfl
      · exact Or.inl ⟨rfl, rfl⟩
      · exact Or.inr ⟨rfl, rfl⟩
end Go.Proofs.Ytelghkhcplmnmaa
namespace Go.Proofs.Ytelghkhcplmnmaa
open Go.RowKit

set_option maxHeartbeats 1600000 in
theorem refAdd_ok (W n k : Int) (p : Option Addr) (b off c : Nat) (rs : List Rul) (w : World) (h : OkC W rs) (hs : RSrc w p b off rs) (hn : isDayP n) (hk : k ≠ 0) (k0 : -9223372036854775808 ≤ k) (k1 : k ≤ 9223372036854775807) :
    Calls Try.prog 28 #[.agg #[.int .i64 W, .slice p rs.length c], .int .i64 n, .int .i64 k] w fun e w' => e = .returned (.tuple #[.int .i64 ((addO (opB W rs) (if k < 0 then -1 else 1) k.natAbs n).getD 0), .int .i64 (ansE (addO (opB W rs) (if k < 0 then -1 else 1) k.natAbs n))]) ∧ Below w.heap.size w w' := by
  have HA : Hid (∀ wx, Below w.heap.size w wx → Calls Try.prog 51 #[.agg #[.int .i64 W, .slice p rs.length c], .int .i64 n] wx fun e w' => e = .returned (.int .i64 0) ∧ Below wx.heap.size wx w') := fun wx hb => by
    have := refAsked_any W n p b off c rs 0 0 wx (.ok h) (hs.below hb) (by have := h.len; omega)
    rw [if_neg (by omega), if_pos hn] at this; exact this
  have HSr : Hid (∀ x s wx, (s = 1 ∨ s = -1) → -10 ≤ x → x ≤ 110000 → Below w.heap.size w wx → SrchR (opB W rs) x s (srch (opB W rs) x s) ∧ Calls Try.prog 49 #[.agg #[.int .i64 W, .slice p rs.length c], .int .i64 x, .int .i64 s] wx fun e w' => e = .returned (.tuple #[.int .i64 ((srch (opB W rs) x s).getD 0), .bool (srch (opB W rs) x s).isSome]) ∧ Below wx.heap.size wx w') := fun x s wx hst a1 a2 hb =>
    have r := srch_is (opB W rs) x s hst a1 a2
    ⟨r, refSearch_any W x s p b off c rs _ wx h (hs.below hb) hst a1 a2 r⟩
  clear h hs
  generalize opB W rs = op at *
  generalize rs.length = N at *
  obtain ⟨s, hsd⟩ : ∃ s : Int, (if k < 0 then -1 else 1) = s := ⟨_, rfl⟩
  rw [hsd]
  have hss : (k < 0 ∧ s = -1) ∨ (¬ k < 0 ∧ s = 1) := by
    by_cases e : k < 0
    · rw [if_pos e] at hsd; exact Or.inl ⟨e, hsd.symm⟩
    · rw [if_neg e] at hsd; exact Or.inr ⟨e, hsd.symm⟩
  clear hsd
  obtain ⟨R, hR⟩ : ∃ R, addO op s k.natAbs n = R := ⟨_, rfl⟩
  rw [hR]
  have HR := hideS hR
  clear hR
  have hk' : (k == 0) = false := beq_eq_false_iff_ne.2 hk
  have HB0 : Hid (Below w.heap.size w (w.alloc (.cells #[.int .i64 W, .slice p N c] 24))) := (Below.refl w.heap.size w).alloc (Nat.le_refl _) _
  have HN := hideS hn
  clear hn
  rcases hss with ⟨hneg, rfl⟩ | ⟨hneg, rfl⟩
  · go_enter Try.func28, Try.ntmps28
    go_wp2_with (go_at_call 51; refine (HA.out _ HB0.out).mono ?_; rintro e w1 ⟨rfl, hb1⟩; have HB1 := hideS (CBox.first hb1); clear hb1)
    clear hk hk' HB0
    go_loopw [1, 2, 10, 11] (fun x j _ _ wr => ∃ (X J : Int), -9223372036854775808 ≤ J ∧ J ≤ 0 ∧ 0 ≤ X ∧ X ≤ 109572 ∧ x = .int .i64 X ∧ j = .int .i64 J ∧ Hid (addO op (-1) J.natAbs X = R) ∧ Hid (CBox w W (.slice p N c) wr)) (fun x _ _ _ _ => (intOf x + 1).toNat)
    case atStart => exact ⟨n, k, by omega, by omega, HN.out.1, HN.out.2, rfl, rfl, HR, HB1⟩
    case round =>
      clear HB1 HR
      obtain ⟨X, J, hJ0, hJ1, hX0, hX1, rfl, rfl, HR, HB⟩ := hrel
      obtain ⟨c0, c1⟩ := cal_cells HB.out
      by_cases hz : J = 0
      · have HE : Hid (some X = R) := by show _ = _; rw [← HR.out, hz]; rfl
        subst hz
        go_wp2_with fail
        go_ret2
        obtain rfl := HE.out
        exact ⟨rfl, HB.out.below⟩
      · have hz' : (J != 0) = true := bne_iff_ne.2 hz
        have hJn : J ≤ -1 := by omega
        obtain ⟨K, hK⟩ : ∃ K, J.natAbs = K + 1 := ⟨J.natAbs - 1, by omega⟩
        have HK := hideS hK
        have hsr := fun wx hb => HSr.out (X + -1) (-1) wx (Or.inr rfl) (by omega) (by omega) hb
        cases ho : srch op (X + -1) (-1) with
        | none =>
          have HE : Hid (none = R) := by show _ = _; rw [← HR.out, HK.out, addO_none ho]
          rw [ho] at hsr
          have HS := hideS (fun wx hb => (hsr wx hb).2)
          clear hsr hz hK ho
          go_wp2_with (go_at_call 49; refine (HS.out _ HB.out.below).mono ?_; rintro e w2 ⟨rfl, hb2⟩; have HB2 := hideS (HB.out.step hb2); clear hb2)
          go_ret2
          obtain rfl := HE.out
          exact ⟨rfl, HB2.out.below⟩
        | some x =>
          rw [ho] at hsr
          have r := (hsr _ HB.out.below).1
          have HX : Hid (isDayP x ∧ x ≤ X + -1) := ⟨(srch_day r).1, (srch_dir r).2 rfl⟩
          have HE : Hid (addO op (-1) (J - -1).natAbs x = R) := by
            show _ = _
            rw [← HR.out, HK.out, addO_some ho, show (J - -1).natAbs = K by omega]
          have HS := hideS (fun wx hb => (hsr wx hb).2)
          clear hsr hz hK ho r
          go_wp2_with (go_at_call 49; refine (HS.out _ HB.out.below).mono ?_; rintro e w2 ⟨rfl, hb2⟩; have HB2 := hideS (HB.out.step hb2); clear hb2)
          go_roundw
          case rel => exact ⟨x, J - -1, by omega, by omega, HX.out.1.1, HX.out.1.2, rfl, rfl, HE, HB2⟩
          case measure => have := HX.out.2; have := HX.out.1.1; simp [intOf]; omega
  · go_enter Try.func28, Try.ntmps28
    go_wp2_with (go_at_call 51; refine (HA.out _ HB0.out).mono ?_; rintro e w1 ⟨rfl, hb1⟩; have HB1 := hideS (CBox.first hb1); clear hb1)
    clear hk hk' HB0
    go_loopw [1, 2, 10, 11] (fun x j _ _ wr => ∃ (X J : Int), 0 ≤ J ∧ J ≤ 9223372036854775807 ∧ 0 ≤ X ∧ X ≤ 109572 ∧ x = .int .i64 X ∧ j = .int .i64 J ∧ Hid (addO op 1 J.natAbs X = R) ∧ Hid (CBox w W (.slice p N c) wr)) (fun x _ _ _ _ => (109573 - intOf x).toNat)
    case atStart => exact ⟨n, k, by omega, by omega, HN.out.1, HN.out.2, rfl, rfl, HR, HB1⟩
    case round =>
      clear HB1 HR
      obtain ⟨X, J, hJ0, hJ1, hX0, hX1, rfl, rfl, HR, HB⟩ := hrel
      obtain ⟨c0, c1⟩ := cal_cells HB.out
      by_cases hz : J = 0
      · have HE : Hid (some X = R) := by show _ = _; rw [← HR.out, hz]; rfl
        subst hz
        go_wp2_with fail
        go_ret2
        obtain rfl := HE.out
        exact ⟨rfl, HB.out.below⟩
      · have hz' : (J != 0) = true := bne_iff_ne.2 hz
        have hJn : 1 ≤ J := by omega
        obtain ⟨K, hK⟩ : ∃ K, J.natAbs = K + 1 := ⟨J.natAbs - 1, by omega⟩
        have HK := hideS hK
        have hsr := fun wx hb => HSr.out (X + 1) 1 wx (Or.inl rfl) (by omega) (by omega) hb
        cases ho : srch op (X + 1) 1 with
        | none =>
          have HE : Hid (none = R) := by show _ = _; rw [← HR.out, HK.out, addO_none ho]
          rw [ho] at hsr
          have HS := hideS (fun wx hb => (hsr wx hb).2)
          clear hsr hz hK ho
          go_wp2_with (go_at_call 49; refine (HS.out _ HB.out.below).mono ?_; rintro e w2 ⟨rfl, hb2⟩; have HB2 := hideS (HB.out.step hb2); clear hb2)
          go_ret2
          obtain rfl := HE.out
          exact ⟨rfl, HB2.out.below⟩
        | some x =>
          rw [ho] at hsr
          have r := (hsr _ HB.out.below).1
          have HX : Hid (isDayP x ∧ X + 1 ≤ x) := ⟨(srch_day r).1, (srch_dir r).1 rfl⟩
          have HE : Hid (addO op 1 (J - 1).natAbs x = R) := by
            show _ = _
            rw [← HR.out, HK.out, addO_some ho, show (J - 1).natAbs = K by omega]
          have HS := hideS (fun wx hb => (hsr wx hb).2)
          clear hsr hz hK ho r
          go_wp2_with (go_at_call 49; refine (HS.out _ HB.out.below).mono ?_; rintro e w2 ⟨rfl, hb2⟩; have HB2 := hideS (HB.out.step hb2); clear hb2)
          go_roundw
          case rel => exact ⟨x, J - 1, by omega, by omega, HX.out.1.1, HX.out.1.2, rfl, rfl, HE, HB2⟩
          case measure => have := HX.out.2; have := HX.out.1.2; simp [intOf]; omega

set_option maxHeartbeats 800000 in
theorem refAdd_bad (W n k : Int) (p : Option Addr) (b off c : Nat) (rs : List Rul) (A B : Int) (w : World) (h : ChkR W rs A B) (hs : RSrc w p b off rs) (hl : rs.length ≤ 1000000) (hk : k ≠ 0) (hbad : A ≠ 0 ∨ ¬ isDayP n) :
    Calls Try.prog 28 #[.agg #[.int .i64 W, .slice p rs.length c], .int .i64 n, .int .i64 k] w fun e w' => e = .returned (.tuple #[.int .i64 0, .int .i64 (if A ≠ 0 then A else 51)]) ∧ Below w.heap.size w w' := by
  have HA : Hid (∀ wx, Below w.heap.size w wx → Calls Try.prog 51 #[.agg #[.int .i64 W, .slice p rs.length c], .int .i64 n] wx fun e w' => e = .returned (.int .i64 (if A ≠ 0 then A else 51)) ∧ Below wx.heap.size wx w') := fun wx hb => by
    have := refAsked_any W n p b off c rs A B wx h (hs.below hb) hl
    rcases hbad with e | e
    · rw [if_pos e] at this ⊢; exact this
    · rw [if_neg e] at this; exact this
  have hne : (if A ≠ 0 then A else 51) ≠ 0 := by split <;> omega
  generalize (if A ≠ 0 then A else 51) = E at *
  generalize rs.length = N at *
  have hne' : (E != 0) = true := bne_iff_ne.2 hne
  have hk' : (k == 0) = false := beq_eq_false_iff_ne.2 hk
  clear h hs hl hbad hne hk
  have HB0 : Hid (Below w.heap.size w (w.alloc (.cells #[.int .i64 W, .slice p N c] 24))) := (Below.refl w.heap.size w).alloc (Nat.le_refl _) _
  go_enter Try.func28, Try.ntmps28
  go_wp2_with (go_at_call 51; refine (HA.out _ HB0.out).mono ?_; rintro e w1 ⟨rfl, hb1⟩)
  go_ret2
  exact ⟨rfl, HB0.out.trans (hb1.mono HB0.out.size)⟩
/-- Add of nought is Adjust. -/
theorem refAdd_zero (W n : Int) (v : Value) (x e0 : Int) (w : World) (H : Hid (∀ wx, Below w.heap.size w wx → Calls Try.prog 27 #[.agg #[.int .i64 W, v], .int .i64 n, .int .i64 1] wx fun e w' => e = .returned (.tuple #[.int .i64 x, .int .i64 e0]) ∧ Below wx.heap.size wx w')) :
    Calls Try.prog 28 #[.agg #[.int .i64 W, v], .int .i64 n, .int .i64 0] w fun e w' => e = .returned (.tuple #[.int .i64 x, .int .i64 e0]) ∧ Below w.heap.size w w' := by
  have HB0 : Hid (Below w.heap.size w (w.alloc (.cells #[.int .i64 W, v] 24))) := (Below.refl w.heap.size w).alloc (Nat.le_refl _) _
  go_enter Try.func28, Try.ntmps28
  go_wp2_with (go_at_call 27; refine (H.out _ HB0.out).mono ?_; rintro e w1 ⟨rfl, hb1⟩)
  go_ret2
  exact ⟨rfl, HB0.out.trans (hb1.mono HB0.out.size)⟩
end Go.Proofs.Ytelghkhcplmnmaa
