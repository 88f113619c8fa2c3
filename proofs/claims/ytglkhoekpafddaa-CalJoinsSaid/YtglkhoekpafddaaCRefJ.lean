/- The contracts of the document's Add and Count. -/
import Derived.Test.YtglkhoekpafddaaCRefI
namespace Go.Proofs.Ytglkhoekpafddaa
open Go.RowKit

set_option maxHeartbeats 1600000 in
theorem refAdd_ok (W n k : Int) (p : Option Addr) (b off c : Nat) (rs : List Rul) (w : World) (h : OkC W rs) (hs : RSrc w p b off rs) (hn : isDayP n) (hk : k ≠ 0) (k0 : -9223372036854775808 ≤ k) (k1 : k ≤ 9223372036854775807) :
    Calls Try.prog 23 #[.agg #[.int .i64 W, .slice p rs.length c], .int .i64 n, .int .i64 k] w fun e w' => e = .returned (.tuple #[.int .i64 ((addO (opB W rs) (if k < 0 then -1 else 1) k.natAbs n).getD 0), .int .i64 (ansE (addO (opB W rs) (if k < 0 then -1 else 1) k.natAbs n))]) ∧ Below w.heap.size w w' := by
  have HA : Hid (∀ wx, Below w.heap.size w wx → Calls Try.prog 39 #[.agg #[.int .i64 W, .slice p rs.length c], .int .i64 n] wx fun e w' => e = .returned (.int .i64 0) ∧ Below wx.heap.size wx w') := fun wx hb => by
    have := refAsked_any W n p b off c rs 0 0 wx (.ok h) (hs.below hb) (by have := h.len; omega)
    rw [if_neg (by omega), if_pos hn] at this; exact this
  have HSr : Hid (∀ x s wx, (s = 1 ∨ s = -1) → -10 ≤ x → x ≤ 110000 → Below w.heap.size w wx → SrchR (opB W rs) x s (srch (opB W rs) x s) ∧ Calls Try.prog 43 #[.agg #[.int .i64 W, .slice p rs.length c], .int .i64 x, .int .i64 s] wx fun e w' => e = .returned (.tuple #[.int .i64 ((srch (opB W rs) x s).getD 0), .bool (srch (opB W rs) x s).isSome]) ∧ Below wx.heap.size wx w') := fun x s wx hst a1 a2 hb =>
    have r := srch_is (opB W rs) x s hst a1 a2
    ⟨r, refSearch_any W x s p b off c rs _ wx h (hs.below hb) hst a1 a2 r⟩
  clear h hs
  generalize opB W rs = op at *
  generalize rs.length = N at *
  obtain ⟨s, hsd⟩ : ∃ s : Int, (if k < 0 then -1 else 1) = s := ⟨_, rfl⟩
  rw [hsd]
  have hss : (k < 0 ∧ s = -1) ∨ (¬ k < 0 ∧ s = 1) := by
    by_cases e : k < 0
    · rw [if_pos e] at hsd; exact Or.inl ⟨e, hsd.symm⟩
    · rw [if_neg e] at hsd; exact Or.inr ⟨e, hsd.symm⟩
  clear hsd
  obtain ⟨R, hR⟩ : ∃ R, addO op s k.natAbs n = R := ⟨_, rfl⟩
  rw [hR]
  have HR := hideS hR
  clear hR
  have hk' : (k == 0) = false := beq_eq_false_iff_ne.2 hk
  have HB0 : Hid (Below w.heap.size w (w.alloc (.cells #[.int .i64 W, .slice p N c] 24))) := (Below.refl w.heap.size w).alloc (Nat.le_refl _) _
  have HN := hideS hn
  clear hn
  rcases hss with ⟨hneg, rfl⟩ | ⟨hneg, rfl⟩
  · go_enter Try.func23, Try.ntmps23
    go_wp2_with (go_at_call 39; refine (HA.out _ HB0.out).mono ?_; rintro e w1 ⟨rfl, hb1⟩; have HB1 := hideS (CBox.first hb1); clear hb1)
    clear hk hk' HB0
    go_loopw [1, 2, 10, 11] (fun x j _ _ wr => ∃ (X J : Int), -9223372036854775808 ≤ J ∧ J ≤ 0 ∧ 0 ≤ X ∧ X ≤ 109572 ∧ x = .int .i64 X ∧ j = .int .i64 J ∧ Hid (addO op (-1) J.natAbs X = R) ∧ Hid (CBox w W (.slice p N c) wr)) (fun x _ _ _ _ => (intOf x + 1).toNat)
    case atStart => exact ⟨n, k, by omega, by omega, HN.out.1, HN.out.2, rfl, rfl, HR, HB1⟩
    case round =>
      clear HB1 HR
      obtain ⟨X, J, hJ0, hJ1, hX0, hX1, rfl, rfl, HR, HB⟩ := hrel
      obtain ⟨c0, c1⟩ := cal_cells HB.out
      by_cases hz : J = 0
      · have HE : Hid (some X = R) := by show _ = _; rw [← HR.out, hz]; rfl
        subst hz
        go_wp2_with fail
        go_ret2
        obtain rfl := HE.out
        exact ⟨rfl, HB.out.below⟩
      · have hz' : (J != 0) = true := bne_iff_ne.2 hz
        have hJn : J ≤ -1 := by omega
        obtain ⟨K, hK⟩ : ∃ K, J.natAbs = K + 1 := ⟨J.natAbs - 1, by omega⟩
        have HK := hideS hK
        have hsr := fun wx hb => HSr.out (X + -1) (-1) wx (Or.inr rfl) (by omega) (by omega) hb
        cases ho : srch op (X + -1) (-1) with
        | none =>
          have HE : Hid (none = R) := by show _ = _; rw [← HR.out, HK.out, addO_none ho]
          rw [ho] at hsr
          have HS := hideS (fun wx hb => (hsr wx hb).2)
          clear hsr hz hK ho
          go_wp2_with (go_at_call 43; refine (HS.out _ HB.out.below).mono ?_; rintro e w2 ⟨rfl, hb2⟩; have HB2 := hideS (HB.out.step hb2); clear hb2)
          go_ret2
          obtain rfl := HE.out
          exact ⟨rfl, HB2.out.below⟩
        | some x =>
          rw [ho] at hsr
          have r := (hsr _ HB.out.below).1
          have HX : Hid (isDayP x ∧ x ≤ X + -1) := ⟨(srch_day r).1, (srch_dir r).2 rfl⟩
          have HE : Hid (addO op (-1) (J - -1).natAbs x = R) := by
            show _ = _
            rw [← HR.out, HK.out, addO_some ho, show (J - -1).natAbs = K by omega]
          have HS := hideS (fun wx hb => (hsr wx hb).2)
          clear hsr hz hK ho r
          go_wp2_with (go_at_call 43; refine (HS.out _ HB.out.below).mono ?_; rintro e w2 ⟨rfl, hb2⟩; have HB2 := hideS (HB.out.step hb2); clear hb2)
          go_roundw
          case rel => exact ⟨x, J - -1, by omega, by omega, HX.out.1.1, HX.out.1.2, rfl, rfl, HE, HB2⟩
          case measure => have := HX.out.2; have := HX.out.1.1; simp [intOf]; omega
  · go_enter Try.func23, Try.ntmps23
    go_wp2_with (go_at_call 39; refine (HA.out _ HB0.out).mono ?_; rintro e w1 ⟨rfl, hb1⟩; have HB1 := hideS (CBox.first hb1); clear hb1)
    clear hk hk' HB0
    go_loopw [1, 2, 10, 11] (fun x j _ _ wr => ∃ (X J : Int), 0 ≤ J ∧ J ≤ 9223372036854775807 ∧ 0 ≤ X ∧ X ≤ 109572 ∧ x = .int .i64 X ∧ j = .int .i64 J ∧ Hid (addO op 1 J.natAbs X = R) ∧ Hid (CBox w W (.slice p N c) wr)) (fun x _ _ _ _ => (109573 - intOf x).toNat)
    case atStart => exact ⟨n, k, by omega, by omega, HN.out.1, HN.out.2, rfl, rfl, HR, HB1⟩
    case round =>
      clear HB1 HR
      obtain ⟨X, J, hJ0, hJ1, hX0, hX1, rfl, rfl, HR, HB⟩ := hrel
      obtain ⟨c0, c1⟩ := cal_cells HB.out
      by_cases hz : J = 0
      · have HE : Hid (some X = R) := by show _ = _; rw [← HR.out, hz]; rfl
        subst hz
        go_wp2_with fail
        go_ret2
        obtain rfl := HE.out
        exact ⟨rfl, HB.out.below⟩
      · have hz' : (J != 0) = true := bne_iff_ne.2 hz
        have hJn : 1 ≤ J := by omega
        obtain ⟨K, hK⟩ : ∃ K, J.natAbs = K + 1 := ⟨J.natAbs - 1, by omega⟩
        have HK := hideS hK
        have hsr := fun wx hb => HSr.out (X + 1) 1 wx (Or.inl rfl) (by omega) (by omega) hb
        cases ho : srch op (X + 1) 1 with
        | none =>
          have HE : Hid (none = R) := by show _ = _; rw [← HR.out, HK.out, addO_none ho]
          rw [ho] at hsr
          have HS := hideS (fun wx hb => (hsr wx hb).2)
          clear hsr hz hK ho
          go_wp2_with (go_at_call 43; refine (HS.out _ HB.out.below).mono ?_; rintro e w2 ⟨rfl, hb2⟩; have HB2 := hideS (HB.out.step hb2); clear hb2)
          go_ret2
          obtain rfl := HE.out
          exact ⟨rfl, HB2.out.below⟩
        | some x =>
          rw [ho] at hsr
          have r := (hsr _ HB.out.below).1
          have HX : Hid (isDayP x ∧ X + 1 ≤ x) := ⟨(srch_day r).1, (srch_dir r).1 rfl⟩
          have HE : Hid (addO op 1 (J - 1).natAbs x = R) := by
            show _ = _
            rw [← HR.out, HK.out, addO_some ho, show (J - 1).natAbs = K by omega]
          have HS := hideS (fun wx hb => (hsr wx hb).2)
          clear hsr hz hK ho r
          go_wp2_with (go_at_call 43; refine (HS.out _ HB.out.below).mono ?_; rintro e w2 ⟨rfl, hb2⟩; have HB2 := hideS (HB.out.step hb2); clear hb2)
          go_roundw
          case rel => exact ⟨x, J - 1, by omega, by omega, HX.out.1.1, HX.out.1.2, rfl, rfl, HE, HB2⟩
          case measure => have := HX.out.2; have := HX.out.1.2; simp [intOf]; omega

set_option maxHeartbeats 800000 in
theorem refAdd_bad (W n k : Int) (p : Option Addr) (b off c : Nat) (rs : List Rul) (A B : Int) (w : World) (h : ChkR W rs A B) (hs : RSrc w p b off rs) (hl : rs.length ≤ 1000000) (hk : k ≠ 0) (hbad : A ≠ 0 ∨ ¬ isDayP n) :
    Calls Try.prog 23 #[.agg #[.int .i64 W, .slice p rs.length c], .int .i64 n, .int .i64 k] w fun e w' => e = .returned (.tuple #[.int .i64 0, .int .i64 (if A ≠ 0 then A else 51)]) ∧ Below w.heap.size w w' := by
  have HA : Hid (∀ wx, Below w.heap.size w wx → Calls Try.prog 39 #[.agg #[.int .i64 W, .slice p rs.length c], .int .i64 n] wx fun e w' => e = .returned (.int .i64 (if A ≠ 0 then A else 51)) ∧ Below wx.heap.size wx w') := fun wx hb => by
    have := refAsked_any W n p b off c rs A B wx h (hs.below hb) hl
    rcases hbad with e | e
    · rw [if_pos e] at this ⊢; exact this
    · rw [if_neg e] at this; exact this
  have hne : (if A ≠ 0 then A else 51) ≠ 0 := by split <;> omega
  generalize (if A ≠ 0 then A else 51) = E at *
  generalize rs.length = N at *
  have hne' : (E != 0) = true := bne_iff_ne.2 hne
  have hk' : (k == 0) = false := beq_eq_false_iff_ne.2 hk
  clear h hs hl hbad hne hk
  have HB0 : Hid (Below w.heap.size w (w.alloc (.cells #[.int .i64 W, .slice p N c] 24))) := (Below.refl w.heap.size w).alloc (Nat.le_refl _) _
  go_enter Try.func23, Try.ntmps23
  go_wp2_with (go_at_call 39; refine (HA.out _ HB0.out).mono ?_; rintro e w1 ⟨rfl, hb1⟩)
  go_ret2
  exact ⟨rfl, HB0.out.trans (hb1.mono HB0.out.size)⟩
/-- Add of nought is Adjust. -/
theorem refAdd_zero (W n : Int) (v : Value) (x e0 : Int) (w : World) (H : Hid (∀ wx, Below w.heap.size w wx → Calls Try.prog 22 #[.agg #[.int .i64 W, v], .int .i64 n, .int .i64 1] wx fun e w' => e = .returned (.tuple #[.int .i64 x, .int .i64 e0]) ∧ Below wx.heap.size wx w')) :
    Calls Try.prog 23 #[.agg #[.int .i64 W, v], .int .i64 n, .int .i64 0] w fun e w' => e = .returned (.tuple #[.int .i64 x, .int .i64 e0]) ∧ Below w.heap.size w w' := by
  have HB0 : Hid (Below w.heap.size w (w.alloc (.cells #[.int .i64 W, v] 24))) := (Below.refl w.heap.size w).alloc (Nat.le_refl _) _
  go_enter Try.func23, Try.ntmps23
  go_wp2_with (go_at_call 22; refine (H.out _ HB0.out).mono ?_; rintro e w1 ⟨rfl, hb1⟩)
  go_ret2
  exact ⟨rfl, HB0.out.trans (hb1.mono HB0.out.size)⟩

set_option maxHeartbeats 1600000 in
theorem refCount_up (W x y : Int) (p : Option Addr) (b off c : Nat) (rs : List Rul) (w : World) (h : OkC W rs) (hs : RSrc w p b off rs) (hx : isDayP x) (hy : isDayP y) (hxy : x ≤ y) :
    Calls Try.prog 24 #[.agg #[.int .i64 W, .slice p rs.length c], .int .i64 x, .int .i64 y] w fun e w' => e = .returned (.tuple #[.int .i64 (cntN (opB W rs) x (y - x).toNat : Nat), .int .i64 0]) ∧ Below w.heap.size w w' := by
  have HC : Hid (∀ wx, Below w.heap.size w wx → Calls Try.prog 11 #[.agg #[.int .i64 W, .slice p rs.length c]] wx fun e w' => e = .returned (.tuple #[.int .i64 0, .int .i64 0]) ∧ Below wx.heap.size wx w') := fun wx hb => refCheck_any W p b off c rs 0 0 wx (.ok h) (hs.below hb) (by have := h.len; omega)
  have HO : Hid (∀ z wx, isDayP z → Below w.heap.size w wx → Calls Try.prog 40 #[.agg #[.int .i64 W, .slice p rs.length c], .int .i64 z] wx fun e w' => e = .returned (.bool (opB W rs z)) ∧ Below wx.heap.size wx w') := fun z wx hz hb => refOpenD_any W z p b off c rs wx h (hs.below hb) hz
  have hd1 := fun wx => refIsDay_any x wx
  have hd2 := fun wx => refIsDay_any y wx
  rw [decide_eq_true hx] at hd1
  rw [decide_eq_true hy] at hd2
  have HD1 := hideS hd1
  have HD2 := hideS hd2
  obtain ⟨x0, x1⟩ := hx
  obtain ⟨y0, y1⟩ := hy
  clear h hs hd1 hd2
  generalize opB W rs = op at *
  generalize rs.length = N at *
  have hlt : ¬ y < x := by omega
  obtain ⟨R, hR⟩ : ∃ R : Int, ((cntN op x (y - x).toNat : Nat) : Int) = R := ⟨_, rfl⟩
  rw [hR]
  have HR := hideS hR
  clear hR
  have HB0 : Hid (Below w.heap.size w (w.alloc (.cells #[.int .i64 W, .slice p N c] 24))) := (Below.refl w.heap.size w).alloc (Nat.le_refl _) _
  go_enter Try.func24, Try.ntmps24
  go_wp2_with fail
  refine (HC.out _ HB0.out).mono ?_
  rintro e w1 ⟨rfl, hb1⟩
  have HB1 := hideS (CBox.first hb1)
  clear hb1
  go_wp2_with fail
  refine (HD1.out _).mono ?_
  rintro e w2 ⟨rfl, hw2⟩
  obtain rfl := hw2.symm
  clear hw2
  go_wp2_with fail
  refine (HD2.out _).mono ?_
  rintro e w2 ⟨rfl, hw2⟩
  obtain rfl := hw2.symm
  clear hw2
  go_wp2_with fail
  go_loopw [12, 13] (fun m i wr => ∃ (k : Nat) (I M : Int), x ≤ I ∧ I ≤ y ∧ 0 ≤ M ∧ M ≤ 200000 ∧ i = .int .i64 I ∧ m = .int .i64 M ∧ Hid (I = x + k ∧ M = (cntN op x k : Nat)) ∧ Hid (CBox w W (.slice p N c) wr)) (fun _ i _ => (y - intOf i).toNat)
  case atStart => exact ⟨0, x, 0, by omega, by omega, by omega, by omega, rfl, rfl, ⟨by omega, rfl⟩, HB1⟩
  case round =>
    clear HB1
    obtain ⟨k, I, M, hI0, hI1, hM0, hM1, rfl, rfl, HI, HB⟩ := hrel
    obtain ⟨c0, c1⟩ := cal_cells HB.out
    by_cases hIy : I < y
    · have hop := fun wx hb => HO.out I wx ⟨by omega, by omega⟩ hb
      have HB5 : Hid (cntN op x (k + 1) ≤ 150000) := by
        have := cnt_le op x (k + 1)
        have := HI.out.1
        show _ ≤ _
        omega
      cases ho : op I
      · rw [ho] at hop
        have HOi := hideS hop
        have HI' : Hid (I + 1 = x + (k + 1 : Nat) ∧ M = (cntN op x (k + 1) : Nat)) := by
          obtain ⟨e1, e2⟩ := HI.out
          refine ⟨by omega, ?_⟩
          show M = ((cntN op x k + (if op (x + k) then 1 else 0) : Nat) : Int)
          rw [← e1, ho, e2]; simp
        clear hop ho
        go_wp2_with (go_at_call 40; refine (HOi.out _ HB.out.below).mono ?_; rintro e w2 ⟨rfl, hb2⟩; have HB2 := hideS (HB.out.step hb2); clear hb2)
        go_roundw
        case rel => exact ⟨k + 1, I + 1, M, by omega, by omega, by omega, by omega, rfl, rfl, HI', HB2⟩
        case measure => simp [intOf]; omega
      · rw [ho] at hop
        have HOi := hideS hop
        have HI' : Hid (I + 1 = x + (k + 1 : Nat) ∧ M + 1 = (cntN op x (k + 1) : Nat)) := by
          obtain ⟨e1, e2⟩ := HI.out
          refine ⟨by omega, ?_⟩
          show M + 1 = ((cntN op x k + (if op (x + k) then 1 else 0) : Nat) : Int)
          rw [← e1, ho, e2]; simp
        clear hop ho
        go_wp2_with (go_at_call 40; refine (HOi.out _ HB.out.below).mono ?_; rintro e w2 ⟨rfl, hb2⟩; have HB2 := hideS (HB.out.step hb2); clear hb2)
        go_roundw
        case rel => exact ⟨k + 1, I + 1, M + 1, by omega, by omega, by omega, by have := HI'.out.2; have := HB5.out; omega, rfl, rfl, HI', HB2⟩
        case measure => simp [intOf]; omega
    · have HE : Hid (M = R) := by
        obtain ⟨e1, e2⟩ := HI.out
        show _ = _
        rw [e2, ← HR.out, show (y - x).toNat = k by omega]
      go_wp2_with fail
      go_ret2
      obtain rfl := HE.out
      exact ⟨rfl, HB.out.below⟩
end Go.Proofs.Ytglkhoekpafddaa
