/- The contracts of the document's isDay, asked, open, Holiday, Open and search. The contracts of the document's month and Adjust. -/
import Derived.Test.YtelghkhcplmnmaaHak
import Derived.Test.YtelghkhcplmnmaaHae
namespace Go.Proofs.Ytelghkhcplmnmaa
open Go.RowKit

theorem refIsDay_any (n : Int) (w : World) :
    Calls Try.prog 48 #[.int .i64 n] w fun e w' => e = .returned (.bool (decide (isDayP n))) ∧ w' = w := by
  have HI := hideS (fun wx => refIn_any n 0 109572 wx)
  rw [show decide (isDayP n) = decide (0 ≤ n ∧ n ≤ 109572) from decide_eq_decide.2 Iff.rfl]
  generalize decide (0 ≤ n ∧ n ≤ 109572) = R at *
  go_enter Try.func48, Try.ntmps48
  go_wp2_with (go_at_call 47; refine (HI.out _).mono ?_; rintro e w1 ⟨rfl, rfl⟩)
  go_ret
  exact ⟨rfl, rfl⟩

set_option maxHeartbeats 800000 in
theorem refAsked_any (W n : Int) (p : Option Addr) (b off c : Nat) (rs : List Rul) (A B : Int) (w : World) (h : ChkR W rs A B) (hs : RSrc w p b off rs) (hl : rs.length ≤ 1000000) :
    Calls Try.prog 51 #[.agg #[.int .i64 W, .slice p rs.length c], .int .i64 n] w fun e w' => e = .returned (.int .i64 (if A ≠ 0 then A else if isDayP n then 0 else 51)) ∧ Below w.heap.size w w' := by
  have HC : Hid (∀ wx, Below w.heap.size w wx → Calls Try.prog 40 #[.agg #[.int .i64 W, .slice p rs.length c]] wx fun e w' => e = .returned (.tuple #[.int .i64 A, .int .i64 B]) ∧ Below wx.heap.size wx w') := fun wx hb => refCheck_any W p b off c rs A B wx h (hs.below hb) hl
  generalize rs.length = N at *
  have HB0 : Hid (Below w.heap.size w (w.alloc (.cells #[.int .i64 W, .slice p N c] 24))) := (Below.refl w.heap.size w).alloc (Nat.le_refl _) _
  have hd := fun wx => refIsDay_any n wx
  clear h hs hl
  by_cases hA : A = 0
  · subst hA
    rw [if_neg (by omega)]
    by_cases hn : isDayP n
    · rw [if_pos hn]
      rw [decide_eq_true hn] at hd
      have HD := hideS hd
      clear hd hn
      go_enter Try.func51, Try.ntmps51
      go_wp2_with (first | (go_at_call 40; refine (HC.out _ HB0.out).mono ?_; rintro e w1 ⟨rfl, hb1⟩) | (go_at_call 48; refine (HD.out _).mono ?_; rintro e w1 ⟨rfl, rfl⟩))
      go_ret
      exact ⟨rfl, HB0.out.trans (hb1.mono HB0.out.size)⟩
    · rw [if_neg hn]
      rw [decide_eq_false hn] at hd
      have HD := hideS hd
      clear hd hn
      go_enter Try.func51, Try.ntmps51
      go_wp2_with (first | (go_at_call 40; refine (HC.out _ HB0.out).mono ?_; rintro e w1 ⟨rfl, hb1⟩) | (go_at_call 48; refine (HD.out _).mono ?_; rintro e w1 ⟨rfl, rfl⟩))
      go_ret
      exact ⟨rfl, HB0.out.trans (hb1.mono HB0.out.size)⟩
  · rw [if_pos hA]
    have hA' : (A != 0) = true := bne_iff_ne.2 hA
    clear hA hd
    go_enter Try.func51, Try.ntmps51
    go_wp2_with (go_at_call 40; refine (HC.out _ HB0.out).mono ?_; rintro e w1 ⟨rfl, hb1⟩)
    go_ret
    exact ⟨rfl, HB0.out.trans (hb1.mono HB0.out.size)⟩

set_option maxHeartbeats 800000 in
theorem refOpenD_any (W n : Int) (p : Option Addr) (b off c : Nat) (rs : List Rul) (w : World) (h : OkC W rs) (hs : RSrc w p b off rs) (hn : isDayP n) :
    Calls Try.prog 64 #[.agg #[.int .i64 W, .slice p rs.length c], .int .i64 n] w fun e w' => e = .returned (.bool (opB W rs n)) ∧ Below w.heap.size w w' := by
  obtain ⟨y, m, d, hd⟩ := isD_ex hn.1 hn.2
  unfold opB
  rw [yr_eq hd]
  have HH : Hid (∀ wx, Below w.heap.size w wx → Calls Try.prog 75 #[.agg #[.int .i64 W, .slice p rs.length c], .int .i64 n] wx fun e w' => e = .returned (.bool (holB W rs n y)) ∧ Below wx.heap.size wx w') := fun wx hb =>
    refHol_any W n y m d p b off c rs wx h.w0 h.w1 (hs.below hb) h.fit (by have := h.len; omega) hd
  have HO := hideS (fun wx => refOff_any W n (.slice p rs.length c) wx)
  clear h hs hd hn
  generalize holB W rs n y = H at *
  generalize rs.length = N at *
  generalize offB W n = F at *
  cases F
  · go_enter Try.func64, Try.ntmps64
    go_wp2_with fail
    refine (HO.out _).mono ?_
    rintro e w1 ⟨rfl, hb1⟩
    have HB1 := hideS (CBox.first hb1)
    obtain ⟨c0, c1⟩ := cal_cells HB1.out
    clear hb1
    go_wp2_with (go_at_call 75; refine (HH.out _ HB1.out.below).mono ?_; rintro e w2 ⟨rfl, hb2⟩)
    go_ret
    exact ⟨rfl, (HB1.out.step hb2).below⟩
  · go_enter Try.func64, Try.ntmps64
    go_wp2_with (go_at_call 74; refine (HO.out _).mono ?_; rintro e w1 ⟨rfl, hb1⟩)
    go_ret
    exact ⟨rfl, (CBox.first hb1).below⟩

set_option maxHeartbeats 1600000 in
theorem refSearch_any (W n s : Int) (p : Option Addr) (b off c : Nat) (rs : List Rul) (o : Option Int) (w : World) (h : OkC W rs) (hs : RSrc w p b off rs) (hst : s = 1 ∨ s = -1) (h0 : -10 ≤ n) (h1 : n ≤ 110000) (ho : SrchR (opB W rs) n s o) :
    Calls Try.prog 49 #[.agg #[.int .i64 W, .slice p rs.length c], .int .i64 n, .int .i64 s] w fun e w' => e = .returned (.tuple #[.int .i64 (o.getD 0), .bool o.isSome]) ∧ Below w.heap.size w w' := by
  have HO : Hid (∀ x wx, isDayP x → Below w.heap.size w wx → Calls Try.prog 64 #[.agg #[.int .i64 W, .slice p rs.length c], .int .i64 x] wx fun e w' => e = .returned (.bool (opB W rs x)) ∧ Below wx.heap.size wx w') := fun x wx hx hb => refOpenD_any W x p b off c rs wx h (hs.below hb) hx
  have HD := hideS (fun (x : Int) (wx : World) => refIsDay_any x wx)
  clear h hs
  generalize opB W rs = op at *
  generalize rs.length = N at *
  have s0 : -1 ≤ s := by omega
  have s1 : s ≤ 1 := by omega
  obtain ⟨K, hK, hend⟩ : ∃ K : Nat, (∀ j < K, isDayP (n + s * (j : Nat)) ∧ op (n + s * (j : Nat)) = false) ∧ ((isDayP (n + s * K) ∧ op (n + s * K) = true ∧ o = some (n + s * K)) ∨ (¬ isDayP (n + s * K) ∧ o = none)) := by
    cases ho with
    | hit k a b c => exact ⟨k, a, Or.inl ⟨b, c, rfl⟩⟩
    | none k a b => exact ⟨k, a, Or.inr ⟨b, rfl⟩⟩
  have HK := hideS hK
  have HE := hideS hend
  have HS := hideS hst
  clear ho hK hend hst
  have HB0 : Hid (CBox w W (.slice p N c) (w.alloc (.cells #[.int .i64 W, .slice p N c] 24))) := Below.refl _ _
  go_enter Try.func49, Try.ntmps49
  go_wp2_with fail
  go_loopw [1, 6, 7] (fun i _ _ wr => ∃ (k : Nat) (I : Int), k ≤ K ∧ -20 ≤ I ∧ I ≤ 110001 ∧ i = .int .i64 I ∧ Hid (I = n + s * k) ∧ Hid (CBox w W (.slice p N c) wr)) (fun i _ _ _ => ((n + s * K - intOf i) * s).toNat)
  case atStart => exact ⟨0, n, by omega, by omega, by omega, rfl, by show _ = _; omega, HB0⟩
  case round =>
    obtain ⟨k, I, hk, hI0, hI1, rfl, HI, HB⟩ := hrel
    obtain ⟨c0, c1⟩ := cal_cells HB.out
    have hd := fun wx => HD.out I wx
    by_cases hlt : k < K
    · have hx := HK.out k hlt
      rw [← HI.out] at hx
      rw [decide_eq_true hx.1] at hd
      have hop := fun wx hb => HO.out I wx hx.1 hb
      rw [hx.2] at hop
      have HDi := hideS hd
      have HOi := hideS hop
      have HX := hideS hx.1
      clear hd hop hx
      have HM : Hid (((n + s * K - (I + s)) * s).toNat < ((n + s * K - I) * s).toNat) := by
        have e := HI.out
        rcases HS.out with rfl | rfl
        · show _ < _; omega
        · show _ < _; omega
      go_wp2_with (first | (go_at_call 48; refine (HDi.out _).mono ?_; rintro e w2 ⟨rfl, rfl⟩) | (go_at_call 64; refine (HOi.out _ HB.out.below).mono ?_; rintro e w2 ⟨rfl, hb2⟩; have HB2 := hideS (HB.out.step hb2); clear hb2))
      go_roundw
      case rel => exact ⟨k + 1, I + s, by omega, by have := HX.out.1; omega, by have := HX.out.2; omega, rfl, by have := HI.out; rcases HS.out with rfl | rfl <;> (show _ = _; omega), HB2⟩
      case measure => exact HM.out
    · obtain rfl : k = K := by omega
      rcases HE.out with ⟨a1, a2, a3⟩ | ⟨a1, a3⟩
      · rw [← HI.out] at a1 a2 a3
        rw [decide_eq_true a1] at hd
        have hop := fun wx hb => HO.out I wx a1 hb
        rw [a2] at hop
        have HDi := hideS hd
        have HOi := hideS hop
        have H3 := hideS a3
        clear hd hop a1 a2 a3
        go_wp2_with (first | (go_at_call 48; refine (HDi.out _).mono ?_; rintro e w2 ⟨rfl, rfl⟩) | (go_at_call 64; refine (HOi.out _ HB.out.below).mono ?_; rintro e w2 ⟨rfl, hb2⟩; have HB2 := hideS (HB.out.step hb2); clear hb2))
        go_ret2
        obtain rfl := H3.out
        exact ⟨rfl, HB2.out.below⟩
      · rw [← HI.out] at a1
        rw [decide_eq_false a1] at hd
        have HDi := hideS hd
        have H3 := hideS a3
        clear hd a1 a3
        go_wp2_with (go_at_call 48; refine (HDi.out _).mono ?_; rintro e w2 ⟨rfl, rfl⟩)
        go_ret2
        obtain rfl := H3.out
        exact ⟨rfl, HB.out.below⟩
end Go.Proofs.Ytelghkhcplmnmaa
namespace Go.Proofs.Ytelghkhcplmnmaa
open Go.RowKit

set_option maxHeartbeats 400000 in
theorem refMonth6_any (n : Int) (w : World) (hn : isDayP n) :
    Calls Try.prog 50 #[.int .i64 n] w fun e w' => e = .returned (.int .i64 (moI n)) ∧ Below w.heap.size w w' := by
  obtain ⟨y, m, d, hd⟩ := isD_ex hn.1 hn.2
  rw [mo_eq hd]
  have HC := hideS (fun wx => refCiv_ok n y m d wx hd)
  unfold dateV at HC
  obtain ⟨y0, y1, m0, m1, _, _⟩ := hd.1
  clear hd
  go_enter Try.func50, Try.ntmps50
  go_wp2_with (go_at_call 41; refine (HC.out _).mono ?_; rintro e w1 ⟨rfl, hb1⟩)
  go_ret
  exact ⟨rfl, hb1.trans (((Below.refl _ w1).alloc (Nat.le_refl _) _).mono hb1.size)⟩

set_option maxHeartbeats 800000 in
theorem refAdjust_bad (W n way : Int) (p : Option Addr) (b off c : Nat) (rs : List Rul) (A B E : Int) (w : World) (h : ChkR W rs A B) (hs : RSrc w p b off rs) (hl : rs.length ≤ 1000000)
    (hE : (A ≠ 0 ∧ E = A) ∨ (A = 0 ∧ ¬ (0 ≤ way ∧ way ≤ 4) ∧ E = 90) ∨ (A = 0 ∧ (0 ≤ way ∧ way ≤ 4) ∧ ¬ isDayP n ∧ E = 51)) :
    Calls Try.prog 27 #[.agg #[.int .i64 W, .slice p rs.length c], .int .i64 n, .int .i64 way] w fun e w' => e = .returned (.tuple #[.int .i64 0, .int .i64 E]) ∧ Below w.heap.size w w' := by
  have HC : Hid (∀ wx, Below w.heap.size w wx → Calls Try.prog 40 #[.agg #[.int .i64 W, .slice p rs.length c]] wx fun e w' => e = .returned (.tuple #[.int .i64 A, .int .i64 B]) ∧ Below wx.heap.size wx w') := fun wx hb => refCheck_any W p b off c rs A B wx h (hs.below hb) hl
  generalize rs.length = N at *
  have HB0 : Hid (Below w.heap.size w (w.alloc (.cells #[.int .i64 W, .slice p N c] 24))) := (Below.refl w.heap.size w).alloc (Nat.le_refl _) _
  have hi := fun wx => refIn_any way 0 4 wx
  have hd := fun wx => refIsDay_any n wx
  clear h hs hl
  rcases hE with ⟨a, rfl⟩ | ⟨rfl, a, rfl⟩ | ⟨rfl, a, a2, rfl⟩
  · have a' : (E != 0) = true := bne_iff_ne.2 a
    clear hi hd a
    go_enter Try.func27, Try.ntmps27
    go_wp2_with (go_at_call 40; refine (HC.out _ HB0.out).mono ?_; rintro e w1 ⟨rfl, hb1⟩)
    go_ret2
    exact ⟨rfl, HB0.out.trans (hb1.mono HB0.out.size)⟩
  · rw [decide_eq_false a] at hi
    have HI := hideS hi
    clear hi hd a
    go_enter Try.func27, Try.ntmps27
    go_wp2_with (first | (go_at_call 40; refine (HC.out _ HB0.out).mono ?_; rintro e w1 ⟨rfl, hb1⟩) | (go_at_call 47; refine (HI.out _).mono ?_; rintro e w2 ⟨rfl, rfl⟩))
    go_ret2
    exact ⟨rfl, HB0.out.trans (hb1.mono HB0.out.size)⟩
  · rw [decide_eq_true a] at hi
    rw [decide_eq_false a2] at hd
    have HI := hideS hi
    have HD := hideS hd
    clear hi hd a a2
    go_enter Try.func27, Try.ntmps27
    go_wp2_with (first | (go_at_call 40; refine (HC.out _ HB0.out).mono ?_; rintro e w1 ⟨rfl, hb1⟩) | (go_at_call 47; refine (HI.out _).mono ?_; rintro e w2 ⟨rfl, rfl⟩) | (go_at_call 48; refine (HD.out _).mono ?_; rintro e w2 ⟨rfl, rfl⟩))
    go_ret2
    exact ⟨rfl, HB0.out.trans (hb1.mono HB0.out.size)⟩

/-- What Adjust has at hand behind its tests. -/
structure AdjH (w : World) (W : Int) (N : Nat) (p : Option Addr) (c : Nat) (n s : Int) (o1 o2 : Option Int) : Prop where
  chk : ∀ wx, Below w.heap.size w wx → Calls Try.prog 40 #[.agg #[.int .i64 W, .slice p N c]] wx fun e w' => e = .returned (.tuple #[.int .i64 0, .int .i64 0]) ∧ Below wx.heap.size wx w'
  one : ∀ wx, Below w.heap.size w wx → Calls Try.prog 49 #[.agg #[.int .i64 W, .slice p N c], .int .i64 n, .int .i64 s] wx fun e w' => e = .returned (.tuple #[.int .i64 (o1.getD 0), .bool o1.isSome]) ∧ Below wx.heap.size wx w'
  two : ∀ wx, Below w.heap.size w wx → Calls Try.prog 49 #[.agg #[.int .i64 W, .slice p N c], .int .i64 n, .int .i64 (-s)] wx fun e w' => e = .returned (.tuple #[.int .i64 (o2.getD 0), .bool o2.isSome]) ∧ Below wx.heap.size wx w'
  day : ∀ wx, Calls Try.prog 48 #[.int .i64 n] wx fun e w' => e = .returned (.bool true) ∧ w' = wx
  mon : ∀ wx, Calls Try.prog 50 #[.int .i64 n] wx fun e w' => e = .returned (.int .i64 (moI n)) ∧ Below wx.heap.size wx w'
  monx : ∀ x, o1 = some x → ∀ wx, Calls Try.prog 50 #[.int .i64 x] wx fun e w' => e = .returned (.int .i64 (moI x)) ∧ Below wx.heap.size wx w'
theorem adjH_of (W n s : Int) (p : Option Addr) (b off c : Nat) (rs : List Rul) (w : World) (h : OkC W rs) (hs : RSrc w p b off rs) (hst : s = 1 ∨ s = -1) (hn : isDayP n) :
    AdjH w W rs.length p c n s (srch (opB W rs) n s) (srch (opB W rs) n (-s)) := by
  have n0 := hn.1
  have n1 := hn.2
  have r1 := srch_is (opB W rs) n s hst (by omega) (by omega)
  have r2 := srch_is (opB W rs) n (-s) (by omega) (by omega) (by omega)
  refine ⟨fun wx hb => refCheck_any W p b off c rs 0 0 wx (.ok h) (hs.below hb) (by have := h.len; omega), fun wx hb => refSearch_any W n s p b off c rs _ wx h (hs.below hb) hst (by omega) (by omega) r1, fun wx hb => refSearch_any W n (-s) p b off c rs _ wx h (hs.below hb) (by omega) (by omega) (by omega) r2, fun wx => ?_, fun wx => refMonth6_any n wx hn, fun x hx wx => refMonth6_any x wx ?_⟩
  · have := refIsDay_any n wx
    rw [decide_eq_true hn] at this; exact this
  · rw [hx] at r1
    exact (srch_day r1).1

set_option maxHeartbeats 3200000 in
theorem refAdjust_plain (W n way s : Int) (p : Option Addr) (c N : Nat) (o1 o2 : Option Int) (w : World) (H : Hid (AdjH w W N p c n s o1 o2)) (hw : (way = 1 ∧ s = 1) ∨ (way = 2 ∧ s = -1)) :
    Calls Try.prog 27 #[.agg #[.int .i64 W, .slice p N c], .int .i64 n, .int .i64 way] w fun e w' => e = .returned (.tuple #[.int .i64 (o1.getD 0), .int .i64 (ansE o1)]) ∧ Below w.heap.size w w' := by
  have hi := fun wx => refIn_any way 0 4 wx
  rw [decide_eq_true (by omega)] at hi
  have HI := hideS hi
  clear hi
  have HB0 : Hid (Below w.heap.size w (w.alloc (.cells #[.int .i64 W, .slice p N c] 24))) := (Below.refl w.heap.size w).alloc (Nat.le_refl _) _
  unfold ansE
  rcases o1 with _ | x
  all_goals
    rcases hw with ⟨rfl, rfl⟩ | ⟨rfl, rfl⟩
    all_goals
      go_enter Try.func27, Try.ntmps27
      go_wp2_with fail
      refine (H.out.chk _ HB0.out).mono ?_
      rintro e w1 ⟨rfl, hb1⟩
      have HB1 := hideS (CBox.first hb1)
      obtain ⟨c0, c1⟩ := cal_cells HB1.out
      clear hb1
      go_wp2_with (first | (go_at_call 47; refine (HI.out _).mono ?_; rintro e w2 ⟨rfl, hw2⟩; obtain rfl := hw2.symm; clear hw2) | (go_at_call 48; refine (H.out.day _).mono ?_; rintro e w2 ⟨rfl, hw2⟩; obtain rfl := hw2.symm; clear hw2) | (go_at_call 49; refine (H.out.one _ HB1.out.below).mono ?_; rintro e w3 ⟨rfl, hb3⟩; have HB3 := hideS (HB1.out.step hb3); clear hb3))
      go_ret2
      exact ⟨rfl, HB3.out.below⟩
end Go.Proofs.Ytelghkhcplmnmaa
