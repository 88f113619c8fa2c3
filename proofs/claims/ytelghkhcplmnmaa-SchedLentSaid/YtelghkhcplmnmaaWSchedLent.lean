/- The walk of SchedLent: lists are memory of their own; what is handed in stays. -/
import Derived.Test.YtelghkhcplmnmaaSpP
import Derived.BigQuiet
namespace Go.Proofs.Ytelghkhcplmnmaa
open Go.RowKit

set_option maxRecDepth 10000 in
set_option maxHeartbeats 3200000 in
theorem schedLent_great (s : Spc) (W : Int) (p : Option Addr) (Nr c : Nat) (w : World) (h1 : 8 < Nr) (h2 : Nr ≤ 9223372036854775807) :
    Calls Try.prog 5 #[.agg #[.int .i64 s.st, .int .i64 s.en, .int .i64 s.n, .int .i64 s.unit, .int .i64 s.stub, .int .i64 s.roll, .int .i64 s.conv, .int .i64 s.lag, .int .i64 W, .slice p Nr c]] w fun e w' => e = .returned (.bool true) ∧ Below w.heap.size w w' := by
  have HB0 := hideS (SBox.zero w s W (.slice p Nr c))
  have HSm := hideS (fun wx => small_many s W p Nr c wx h1 h2)
  obtain ⟨st, en, n, unit, stub, roll, conv, lag⟩ := s
  dsimp only at *
  go_enter Try.func5, Try.ntmps5
  go_wp2_with (first | (go_at_call 6; refine (HSm.out _).mono ?_; rintro e w1 ⟨rfl, hb1⟩) | (go_at_call 7; refine (awake8 _).mono ?_; rintro e w9 ⟨rfl, hb9⟩))
  go_ret
  exact ⟨rfl, ((HB0.out.step hb1).step hb9).below⟩

set_option maxRecDepth 10000 in
set_option maxHeartbeats 16000000 in
theorem schedLent_go (s : Spc) (W E F : Int) (p : Option Addr) (b off Nr c n1 n2 : Nat) (rs : List Rul) (xs : List Int) (ps : List Per) (w : World) (hN : rs.length = Nr) (hr : Nr ≤ 8) (hs : RSrc w p b off rs) (hnil : p = none → Nr = 0 ∧ c = 0) (h1 : xs.length = n1) (h2 : ps.length = n2) (hn1 : n1 ≤ 2000) (hn2 : n2 ≤ 2000)
    (HSm : Hid (∀ wx, Below w.heap.size w wx → Calls Try.prog 6 #[.agg #[.int .i64 s.st, .int .i64 s.en, .int .i64 s.n, .int .i64 s.unit, .int .i64 s.stub, .int .i64 s.roll, .int .i64 s.conv, .int .i64 s.lag, .int .i64 W, .slice p Nr c]] wx fun e w' => (∃ b, e = .returned (.bool b)) ∧ Below wx.heap.size wx w')) (HD : Hid (∀ wx, Below w.heap.size w wx → Calls Try.prog 8 #[.agg #[.int .i64 s.st, .int .i64 s.en, .int .i64 s.n, .int .i64 s.unit, .int .i64 s.stub, .int .i64 s.roll, .int .i64 s.conv, .int .i64 s.lag, .int .i64 W, .slice p Nr c]] wx fun e w' => IntsW xs E wx e w' ∧ Below wx.heap.size wx w')) (HDr : Hid (∀ wx, Below w.heap.size w wx → Calls Try.prog 11 #[.agg #[.int .i64 s.st, .int .i64 s.en, .int .i64 s.n, .int .i64 s.unit, .int .i64 s.stub, .int .i64 s.roll, .int .i64 s.conv, .int .i64 s.lag, .int .i64 W, .slice p Nr c]] wx fun e w' => IntsOut xs E wx e w' ∧ Below wx.heap.size wx w')) (HP : Hid (∀ wx, Below w.heap.size w wx → Calls Try.prog 9 #[.agg #[.int .i64 s.st, .int .i64 s.en, .int .i64 s.n, .int .i64 s.unit, .int .i64 s.stub, .int .i64 s.roll, .int .i64 s.conv, .int .i64 s.lag, .int .i64 W, .slice p Nr c]] wx fun e w' => PersW ps F wx e w' ∧ Below wx.heap.size wx w')) (HPr : Hid (∀ wx, Below w.heap.size w wx → Calls Try.prog 12 #[.agg #[.int .i64 s.st, .int .i64 s.en, .int .i64 s.n, .int .i64 s.unit, .int .i64 s.stub, .int .i64 s.roll, .int .i64 s.conv, .int .i64 s.lag, .int .i64 W, .slice p Nr c]] wx fun e w' => PersOut ps F wx e w' ∧ Below wx.heap.size wx w')) :
    Calls Try.prog 5 #[.agg #[.int .i64 s.st, .int .i64 s.en, .int .i64 s.n, .int .i64 s.unit, .int .i64 s.stub, .int .i64 s.roll, .int .i64 s.conv, .int .i64 s.lag, .int .i64 W, .slice p Nr c]] w fun e w' => e = .returned (.bool true) ∧ Below w.heap.size w w' := by
  have HB0 := hideS (SBox.zero w s W (.slice p Nr c))
  have HSi : Hid (∀ (q q' : Option Addr) (g k g' k' : Nat) wx, ISrc wx q g 0 xs → ISrc wx q' g' 0 xs → Calls Try.prog 13 #[.slice q xs.length k, .slice q' xs.length k'] wx fun e w' => e = .returned (.bool true) ∧ Below wx.heap.size wx w') := fun q q' g k g' k' wx a b => ref8SameInts_same q q' g 0 k g' 0 k' xs wx a b (by omega)
  have HSp : Hid (∀ (q q' : Option Addr) (g k g' k' : Nat) wx, PSrc wx q g 0 ps → PSrc wx q' g' 0 ps → Calls Try.prog 14 #[.slice q ps.length k, .slice q' ps.length k'] wx fun e w' => e = .returned (.bool true) ∧ Below wx.heap.size wx w') := fun q q' g k g' k' wx a b => ref8SamePeriods_same q q' g 0 k g' 0 k' ps wx a b (by omega)
  unfold IntsW at HD
  unfold IntsOut at HDr
  unfold PersW at HP
  unfold PersOut at HPr
  have HL1 := hideS h1
  have HL2 := hideS h2
  have HNr := hideS hN
  have HNil := hideS hnil
  have HRs := hideS hs
  rw [h1] at HD HDr HSi
  rw [h2] at HP HPr HSp
  clear h1 h2 hN hnil hs
  obtain ⟨st, en, n, unit, stub, roll, conv, lag⟩ := s
  dsimp only at *
  go_enter Try.func5, Try.ntmps5
  go_wp2_with fail
  refine (HSm.out _ HB0.out.below).mono ?_
  rintro e w1 ⟨⟨bb, rfl⟩, hb1⟩
  have HB1 := hideS (HB0.out.step hb1)
  clear hb1
  obtain ⟨c0, c1, c2, c3, c4, c5, c6, c7, c8, c9⟩ := HB1.out.cells
  cases bb
  · go_wp2_with (go_at_call 7; refine (awake8 _).mono ?_; rintro e w9 ⟨rfl, hb9⟩)
    go_ret
    exact ⟨rfl, (HB1.out.step hb9).below⟩
  have HBa : Hid (∀ o, SBox w ⟨st, en, n, unit, stub, roll, conv, lag⟩ W (.slice p Nr c) (w1.alloc o)) := fun o => HB1.out.step ((Below.refl _ w1).alloc (Nat.le_refl _) o)
  have hlt1 : w.heap.size < w1.heap.size := by have := Below.size HB1.out; simp at this; omega
  have hne1 : w.heap.size ≠ w1.heap.size := Nat.ne_of_lt hlt1
  have HO := hideS (own_built w1)
  go_wp2_with (at_builtin; refine wpList_append_rules _ rfl (.tmp 23) (.tmp 26) rfl w1.heap.size (.slice (some ⟨w1.heap.size, 0, none⟩) 0 0) 0 [] rfl HO.out p b off c Nr rs rfl HNr.out (HRs.out.below (HBa.out _).below) HNil.out (by omega) (by omega) (by simp) ?_; intro v2 w2 ho2 hg2; have HB2 := hideS ((HBa.out _).stay (rgrown_below HO.out hg2 (by simp)) (by omega)); rw [Nat.zero_add, List.nil_append] at ho2; obtain ⟨pr, gr, cr, hvr, hsr, hgr, _, _⟩ := own_src ho2 HNr.out; subst hvr; have HR_2 := hideS hsr; have HY : Hid (w.heap.size < w1.heap.size ∧ w1.heap.size ≤ gr ∧ (0 < Nr → gr < w2.heap.size) ∧ w1.heap.size ≤ w2.heap.size) := ⟨hlt1, hgr, fun h0 => hsr.lt (by rw [HNr.out]; exact h0), by have := (rgrown_below HO.out hg2 (by simp)).size; simp at this; omega⟩; clear ho2 hg2 hsr hgr; obtain ⟨d0, d1, d2, d3, d4, d5, d6, d7, d8, d9⟩ := HB2.out.cells)
  clear c0 c1 c2 c3 c4 c5 c6 c7 c8 c9
  refine (HD.out _ HB2.out.below).mono ?_
  rintro e w3 ⟨⟨q3, g3, k3, rfl, hs3, hk3, hw3⟩, hb3⟩
  have HB3 := hideS (HB2.out.step hb3)
  have HR_3 := hideS (HR_2.out.below hb3)
  have A_3 := hideS hs3
  have FA_3 : Hid (0 < n1 → ∀ j, w3.frozen? ⟨g3, j, none⟩ = false) := fun h0 => (hw3 h0).2
  have G3 : Hid (0 < n1 → w2.heap.size ≤ g3 ∧ g3 < w3.heap.size) := fun h0 => ⟨(hw3 h0).1, hs3.lt (by rw [HL1.out]; exact h0)⟩
  have Z3 : Hid (w2.heap.size ≤ w3.heap.size) := hb3.size
  clear hb3 hs3 hw3 d0 d1 d2 d3 d4 d5 d6 d7 d8 d9 HB2 HR_2
  obtain ⟨d0, d1, d2, d3, d4, d5, d6, d7, d8, d9⟩ := HB3.out.cells
  go_wp2_with fail
  refine (HD.out _ HB3.out.below).mono ?_
  rintro e w4 ⟨⟨q4, g4, k4, rfl, hs4, hk4, hw4⟩, hb4⟩
  have HB4 := hideS (HB3.out.step hb4)
  have HR_4 := hideS (HR_3.out.below hb4)
  have A_4 := hideS (A_3.out.below hb4)
  have FA_4 : Hid (0 < n1 → ∀ j, w4.frozen? ⟨g3, j, none⟩ = false) := fun h0 j => (hb4.frozen (p := ⟨g3, j, none⟩) (A_3.out.lt (by rw [HL1.out]; exact h0))).trans (FA_3.out h0 j)
  have B_4 := hideS hs4
  have G4 : Hid (0 < n1 → w3.heap.size ≤ g4 ∧ g4 < w4.heap.size) := fun h0 => ⟨(hw4 h0).1, hs4.lt (by rw [HL1.out]; exact h0)⟩
  have Z4 : Hid (w3.heap.size ≤ w4.heap.size) := hb4.size
  clear hb4 hs4 hw4 d0 d1 d2 d3 d4 d5 d6 d7 d8 d9 HB3 HR_3 A_3 FA_3
  obtain ⟨d0, d1, d2, d3, d4, d5, d6, d7, d8, d9⟩ := HB4.out.cells
  go_wp2_with fail
  refine (HP.out _ HB4.out.below).mono ?_
  rintro e w5 ⟨⟨q5, g5, k5, rfl, hs5, hk5, hw5⟩, hb5⟩
  have HB5 := hideS (HB4.out.step hb5)
  have HR_5 := hideS (HR_4.out.below hb5)
  have A_5 := hideS (A_4.out.below hb5)
  have FA_5 : Hid (0 < n1 → ∀ j, w5.frozen? ⟨g3, j, none⟩ = false) := fun h0 j => (hb5.frozen (p := ⟨g3, j, none⟩) (A_4.out.lt (by rw [HL1.out]; exact h0))).trans (FA_4.out h0 j)
  have B_5 := hideS (B_4.out.below hb5)
  have P_5 := hideS hs5
  have FP_5 : Hid (0 < n2 → ∀ j, w5.frozen? ⟨g5, j, none⟩ = false) := fun h0 => (hw5 h0).2
  have G5 : Hid (0 < n2 → w4.heap.size ≤ g5 ∧ g5 < w5.heap.size) := fun h0 => ⟨(hw5 h0).1, hs5.lt (by rw [HL2.out]; exact h0)⟩
  have Z5 : Hid (w4.heap.size ≤ w5.heap.size) := hb5.size
  clear hb5 hs5 hw5 d0 d1 d2 d3 d4 d5 d6 d7 d8 d9 HB4 HR_4 A_4 FA_4 B_4
  obtain ⟨d0, d1, d2, d3, d4, d5, d6, d7, d8, d9⟩ := HB5.out.cells
  go_wp2_with fail
  refine (HP.out _ HB5.out.below).mono ?_
  rintro e w6 ⟨⟨q6, g6, k6, rfl, hs6, hk6, hw6⟩, hb6⟩
  have HB6 := hideS (HB5.out.step hb6)
  have HR_6 := hideS (HR_5.out.below hb6)
  have A_6 := hideS (A_5.out.below hb6)
  have FA_6 : Hid (0 < n1 → ∀ j, w6.frozen? ⟨g3, j, none⟩ = false) := fun h0 j => (hb6.frozen (p := ⟨g3, j, none⟩) (A_5.out.lt (by rw [HL1.out]; exact h0))).trans (FA_5.out h0 j)
  have B_6 := hideS (B_5.out.below hb6)
  have P_6 := hideS (P_5.out.below hb6)
  have FP_6 : Hid (0 < n2 → ∀ j, w6.frozen? ⟨g5, j, none⟩ = false) := fun h0 j => (hb6.frozen (p := ⟨g5, j, none⟩) (P_5.out.lt (by rw [HL2.out]; exact h0))).trans (FP_5.out h0 j)
  have Q_6 := hideS hs6
  have G6 : Hid (0 < n2 → w5.heap.size ≤ g6 ∧ g6 < w6.heap.size) := fun h0 => ⟨(hw6 h0).1, hs6.lt (by rw [HL2.out]; exact h0)⟩
  have Z6 : Hid (w5.heap.size ≤ w6.heap.size) := hb6.size
  clear hb6 hs6 hw6 d0 d1 d2 d3 d4 d5 d6 d7 d8 d9 HB5 HR_5 A_5 FA_5 B_5 P_5 FP_5
  obtain ⟨d0, d1, d2, d3, d4, d5, d6, d7, d8, d9⟩ := HB6.out.cells
  go_wp2_with fail
  refine (HDr.out _ HB6.out.below).mono ?_
  rintro e w7 ⟨⟨q7, g7, k7, rfl, hs7, hk7, hw7⟩, hb7⟩
  have HB7 := hideS (HB6.out.step hb7)
  have HR_7 := hideS (HR_6.out.below hb7)
  have A_7 := hideS (A_6.out.below hb7)
  have FA_7 : Hid (0 < n1 → ∀ j, w7.frozen? ⟨g3, j, none⟩ = false) := fun h0 j => (hb7.frozen (p := ⟨g3, j, none⟩) (A_6.out.lt (by rw [HL1.out]; exact h0))).trans (FA_6.out h0 j)
  have B_7 := hideS (B_6.out.below hb7)
  have P_7 := hideS (P_6.out.below hb7)
  have FP_7 : Hid (0 < n2 → ∀ j, w7.frozen? ⟨g5, j, none⟩ = false) := fun h0 j => (hb7.frozen (p := ⟨g5, j, none⟩) (P_6.out.lt (by rw [HL2.out]; exact h0))).trans (FP_6.out h0 j)
  have Q_7 := hideS (Q_6.out.below hb7)
  have X_7 := hideS hs7
  have G7 : Hid (0 < n1 → w6.heap.size ≤ g7 ∧ g7 < w7.heap.size) := fun h0 => ⟨hw7 h0, hs7.lt (by rw [HL1.out]; exact h0)⟩
  have Z7 : Hid (w6.heap.size ≤ w7.heap.size) := hb7.size
  clear hb7 hs7 hw7 d0 d1 d2 d3 d4 d5 d6 d7 d8 d9 HB6 HR_6 A_6 FA_6 B_6 P_6 FP_6 Q_6
  obtain ⟨d0, d1, d2, d3, d4, d5, d6, d7, d8, d9⟩ := HB7.out.cells
  go_wp2_with fail
  refine (HPr.out _ HB7.out.below).mono ?_
  rintro e w8 ⟨⟨q8, g8, k8, rfl, hs8, hk8, hw8⟩, hb8⟩
  have HB8 := hideS (HB7.out.step hb8)
  have HR_8 := hideS (HR_7.out.below hb8)
  have A_8 := hideS (A_7.out.below hb8)
  have FA_8 : Hid (0 < n1 → ∀ j, w8.frozen? ⟨g3, j, none⟩ = false) := fun h0 j => (hb8.frozen (p := ⟨g3, j, none⟩) (A_7.out.lt (by rw [HL1.out]; exact h0))).trans (FA_7.out h0 j)
  have B_8 := hideS (B_7.out.below hb8)
  have P_8 := hideS (P_7.out.below hb8)
  have FP_8 : Hid (0 < n2 → ∀ j, w8.frozen? ⟨g5, j, none⟩ = false) := fun h0 j => (hb8.frozen (p := ⟨g5, j, none⟩) (P_7.out.lt (by rw [HL2.out]; exact h0))).trans (FP_7.out h0 j)
  have Q_8 := hideS (Q_7.out.below hb8)
  have X_8 := hideS (X_7.out.below hb8)
  have Y_8 := hideS hs8
  have G8 : Hid (0 < n2 → w7.heap.size ≤ g8 ∧ g8 < w8.heap.size) := fun h0 => ⟨hw8 h0, hs8.lt (by rw [HL2.out]; exact h0)⟩
  have Z8 : Hid (w7.heap.size ≤ w8.heap.size) := hb8.size
  clear hb8 hs8 hw8 d0 d1 d2 d3 d4 d5 d6 d7 d8 d9 HB7 HR_7 A_7 FA_7 B_7 P_7 FP_7 Q_7 X_7
  obtain ⟨d0, d1, d2, d3, d4, d5, d6, d7, d8, d9⟩ := HB8.out.cells
  go_wp2_with fail
  have hA3 := G3.out
  have hB4 := G4.out
  have hP5 := G5.out
  have hQ6 := G6.out
  have hX7 := G7.out
  have hY8 := G8.out
  have z3 := Z3.out
  have z4 := Z4.out
  have z5 := Z5.out
  have z6 := Z6.out
  have z7 := Z7.out
  have z8 := Z8.out
  have HGs : Hid ((0 < n1 → w.heap.size + 1 ≤ g3 ∧ (0 < Nr → gr ≠ g3) ∧ g4 ≠ g3 ∧ (0 < n2 → g5 ≠ g3 ∧ g6 ≠ g3 ∧ g8 ≠ g3) ∧ g7 ≠ g3) ∧ (0 < n2 → w.heap.size + 1 ≤ g5 ∧ (0 < Nr → gr ≠ g5) ∧ (0 < n1 → g4 ≠ g5 ∧ g7 ≠ g5) ∧ g6 ≠ g5 ∧ g8 ≠ g5)) := by
    obtain ⟨y1, y2, y3, y4⟩ := HY.out
    refine ⟨fun h0 => ?_, fun h0 => ?_⟩
    · have e3 := hA3 h0
      have e4 := hB4 h0
      have e7 := hX7 h0
      refine ⟨by omega, fun h => by have := y3 h; omega, by omega, fun h => ?_, by omega⟩
      have e5 := hP5 h
      have e6 := hQ6 h
      have e8 := hY8 h
      exact ⟨by omega, by omega, by omega⟩
    · have e5 := hP5 h0
      have e6 := hQ6 h0
      have e8 := hY8 h0
      refine ⟨by omega, fun h => by have := y3 h; omega, fun h => ?_, by omega, by omega⟩
      have e4 := hB4 h
      have e7 := hX7 h
      exact ⟨by omega, by omega⟩
  clear hA3 hB4 hP5 hQ6 hX7 hY8 z3 z4 z5 z6 z7 z8 G3 G4 G5 G6 G7 G8 Z3 Z4 Z5 Z6 Z7 Z8 HY
  have O1 := hideS (OnlyB.first (g := g3) (m := n1) (w5 := w8) (fun j hj => ⟨_, by have := A_8.out.cell j (by rw [HL1.out]; exact hj); rw [Nat.zero_add] at this; exact this⟩) FA_8.out)
  go_loopw [16] (fun t wr => ∃ (k : Nat), k ≤ n1 ∧ t = .int .i64 (k : Int) ∧ Hid (OnlyB g3 n1 w8 wr)) (fun t _ => n1 - (intOf t).toNat)
  case atStart => exact ⟨0, by omega, rfl, O1⟩
  case round =>
    clear O1 d0 d1 d2 d3 d4 d5 d6 d7 d8 d9
    obtain ⟨k, hk, rfl, G⟩ := hrel
    by_cases hlt : k < n1
    · have hq := A_8.out.at_ (by rw [HL1.out]; omega)
      subst hq
      have fz := G.out.frz (by omega)
      obtain ⟨u0, z0⟩ := G.out.cell k hlt
      have G9 := hideS (G.out.set (by omega) k (.int .i64 (-1)))
      go_wp2_with fail
      go_roundw
      case rel => exact ⟨k + 1, by omega, by go_num, G9⟩
      case measure => simp [intOf]; omega
    · have hge : ¬ (k : Int) < n1 := by omega
      obtain ⟨wa, rfl⟩ : ∃ wa, wa = wr := ⟨wr, rfl⟩
      have gs := HGs.out.1
      have HBa : Hid (SBox w ⟨st, en, n, unit, stub, roll, conv, lag⟩ W (.slice p Nr c) wa) := G.out.below HB8.out (fun h => (gs h).1)
      have HR_a := hideS (G.out.rsrc HR_8.out (fun h h' => (gs h).2.1 (by rw [← HNr.out]; exact h')))
      have B_a := hideS (G.out.isrc B_8.out (fun h _ => (gs h).2.2.1))
      have P_a := hideS (G.out.psrc P_8.out (fun h h' => ((gs h).2.2.2.1 (by rw [← HL2.out]; exact h')).1))
      have Q_a := hideS (G.out.psrc Q_8.out (fun h h' => ((gs h).2.2.2.1 (by rw [← HL2.out]; exact h')).2.1))
      have Y_a := hideS (G.out.psrc Y_8.out (fun h h' => ((gs h).2.2.2.1 (by rw [← HL2.out]; exact h')).2.2))
      have X_a := hideS (G.out.isrc X_8.out (fun h _ => (gs h).2.2.2.2))
      have FP_a : Hid (0 < n2 → ∀ j, wa.frozen? ⟨g5, j, none⟩ = false) := fun h j => by
        by_cases h0 : n1 = 0
        · rw [G.out.zero h0]; exact FP_8.out h j
        · exact (World.frozen?_of_block (w := w8) (G.out.other g5 ((gs (by omega)).2.2.2.1 h).1)).trans (FP_8.out h j)
      clear G gs HB8 HR_8 B_8 P_8 Q_8 Y_8 X_8 FP_8 FA_8 A_8
      have O2 := hideS (OnlyB.first (g := g5) (m := n2 * 5) (w5 := wa) (fun j hj => psrc_cells P_a.out j (by rw [HL2.out]; exact hj)) (fun h => FP_a.out (by omega)))
      go_wp2_with fail
      go_loopw [17] (fun t wr => ∃ (k : Nat), k ≤ n2 ∧ t = .int .i64 (k : Int) ∧ Hid (OnlyB g5 (n2 * 5) wa wr)) (fun t _ => n2 - (intOf t).toNat)
      case atStart => exact ⟨0, by omega, rfl, O2⟩
      case round =>
        clear O2
        obtain ⟨k, hk, rfl, G⟩ := hrel
        by_cases hlt : k < n2
        · have hq := P_a.out.at_ (by rw [HL2.out]; omega)
          subst hq
          have fz := G.out.frz (by omega)
          obtain ⟨u0, z0⟩ := G.out.cell (k * 5) (by omega)
          obtain ⟨u1, z1⟩ := G.out.cell (k * 5 + 1) (by omega)
          obtain ⟨u2, z2⟩ := G.out.cell (k * 5 + 2) (by omega)
          obtain ⟨u3, z3⟩ := G.out.cell (k * 5 + 3) (by omega)
          obtain ⟨u4, z4⟩ := G.out.cell (k * 5 + 4) (by omega)
          have G9 := hideS (((((G.out.set (by omega) (k * 5) (.int .i64 (-5))).set (by omega) (k * 5 + 1) (.int .i64 0)).set (by omega) (k * 5 + 2) (.int .i64 0)).set (by omega) (k * 5 + 3) (.int .i64 0)).set (by omega) (k * 5 + 4) (.int .i64 0))
          go_wp2_with fail
          go_roundw
          case rel => exact ⟨k + 1, by omega, by go_num, G9⟩
          case measure => simp [intOf]; omega
        · have hge : ¬ (k : Int) < n2 := by omega
          obtain ⟨wb, rfl⟩ : ∃ wb, wb = wr := ⟨wr, rfl⟩
          have gs := HGs.out.2
          have HBb : Hid (SBox w ⟨st, en, n, unit, stub, roll, conv, lag⟩ W (.slice p Nr c) wb) := G.out.below HBa.out (fun h => (gs (by omega)).1)
          have HR_b := hideS (G.out.rsrc HR_a.out (fun h h' => (gs (by omega)).2.1 (by rw [← HNr.out]; exact h')))
          have B_b := hideS (G.out.isrc B_a.out (fun h h' => ((gs (by omega)).2.2.1 (by rw [← HL1.out]; exact h')).1))
          have X_b := hideS (G.out.isrc X_a.out (fun h h' => ((gs (by omega)).2.2.1 (by rw [← HL1.out]; exact h')).2))
          have Q_b := hideS (G.out.psrc Q_a.out (fun h _ => (gs (by omega)).2.2.2.1))
          have Y_b := hideS (G.out.psrc Y_a.out (fun h _ => (gs (by omega)).2.2.2.2))
          have I_b := hideS (HRs.out.below HBb.out.below)
          clear G gs HBa HR_a B_a P_a Q_a Y_a X_a FP_a
          go_wp2_with fail
          go_loopw [18] (fun t wr => ∃ (k : Nat), k ≤ Nr ∧ t = .int .i64 (k : Int) ∧ Hid (∃ q, wr = wb.drewN q)) (fun t _ => Nr - (intOf t).toNat)
          case atStart => exact ⟨0, by omega, rfl, ⟨0, rfl⟩⟩
          case round =>
            obtain ⟨k, hk, rfl, G⟩ := hrel
            have hdr : Below wb.heap.size wb wr := by
              obtain ⟨q, rfl⟩ := G.out
              exact ⟨rfl, rfl, rfl, Nat.le_refl _, fun _ _ => rfl⟩
            have HBr := hideS (HBb.out.step hdr)
            by_cases hlt : k < Nr
            · have hq := I_b.out.at_ (by rw [HNr.out]; omega)
              subst hq
              have hq2 := HR_b.out.at_ (by rw [HNr.out]; omega)
              subst hq2
              obtain ⟨a0, a1, a2, a3, a4, a5, a6, a7, a8⟩ := (I_b.out.below hdr).cell k (by rw [HNr.out]; exact hlt)
              obtain ⟨e0, e1, e2, e3, e4, e5, e6, e7, e8⟩ := (HR_b.out.below hdr).cell k (by rw [HNr.out]; exact hlt)
              generalize rs.getD k rul0 = r at *
              rw [Nat.zero_add] at e0 e1 e2 e3 e4 e5 e6 e7 e8
              have hi4 : (k : Int) < (Nr : Int) := by omega
              have c9 := HBr.out.cells.c9
              try dsimp only at c9
              clear hdr
              obtain ⟨ra, rb, rc, rd, re, rf, rg, rh, ri⟩ := r
              try dsimp only at *
              go_wp2_with fail
              go_quiet (fail)
              have G2 : Hid (∃ q, wr.drewN nq = wb.drewN q) := by
                obtain ⟨q, e⟩ := G.out
                exact ⟨q + nq, by rw [e, World.drewN_drewN]⟩
              go_wp2_with fail
              go_roundw
              case rel => exact ⟨k + 1, by omega, by go_num, G2⟩
              case measure => simp [intOf]; omega
            · have hge : ¬ (k : Int) < Nr := by omega
              have B_r := hideS (B_b.out.below hdr)
              have X_r := hideS (X_b.out.below hdr)
              have Q_r := hideS (Q_b.out.below hdr)
              have Y_r := hideS (Y_b.out.below hdr)
              clear hdr G
              go_wp2_with fail
              refine (HSi.out _ _ g4 _ g7 _ _ B_r.out X_r.out).mono ?_
              rintro e w10 ⟨rfl, hb10⟩
              have HB10 := hideS (HBr.out.step hb10)
              have Q_t := hideS (Q_r.out.below hb10)
              have Y_t := hideS (Y_r.out.below hb10)
              clear hb10
              go_wp2_with fail
              refine (HSp.out _ _ g6 _ g8 _ _ Q_t.out Y_t.out).mono ?_
              rintro e w11 ⟨rfl, hb11⟩
              have HB11 := hideS (HB10.out.step hb11)
              clear hb11
              go_wp2_with (go_at_call 7; refine (awake8 _).mono ?_; rintro e w9 ⟨rfl, hb9⟩)
              go_ret
              exact ⟨rfl, (HB11.out.step hb9).below⟩

theorem schedLent_walk (s : Spc) (W : Int) (p : Option Addr) (b off c : Nat) (rs : List Rul) (w : World) (hs : RSrc w p b off rs) (hl : rs.length ≤ 9223372036854775807) (hI : SpcI s) (_ : I64 W) (_ : ∀ r ∈ rs, RulI r) (hnil : p = none → rs.length = 0 ∧ c = 0) :
    Calls Try.prog 5 #[.agg #[.int .i64 s.st, .int .i64 s.en, .int .i64 s.n, .int .i64 s.unit, .int .i64 s.stub, .int .i64 s.roll, .int .i64 s.conv, .int .i64 s.lag, .int .i64 W, .slice p rs.length c]] w fun e w' => e = .returned (.bool true) ∧ Below w.heap.size w w' := by
  by_cases h8 : rs.length ≤ 8
  · obtain ⟨xs, E, hx, h1, h2⟩ := dates_three s W p b off c rs w hs (by omega)
    obtain ⟨ps, F, hp, h3, h4⟩ := periods_three s W p b off c rs w hs (by omega)
    exact schedLent_go s W E F p b off rs.length c _ _ rs xs ps w rfl h8 hs hnil rfl rfl hx hp (fun wx _ => small_few s W p rs.length c wx h8 hI.n.2) h1 h2 h3 h4
  · exact schedLent_great s W p rs.length c w (by omega) hl
end Go.Proofs.Ytelghkhcplmnmaa
