/- The walk of CountTurns: turned round the sign is turned; the year is of the fraction's sign. -/
import Derived.Test.YtcbbbkngjdlcjaaHbu
import Derived.Test.YtcbbbkngjdlcjaaWCountAdds
namespace Go.Proofs.Ytcbbbkngjdlcjaa
open Go.RowKit

theorem run_neg7 (P : Program) (w : World) (x : Nat) : (Op.unary .neg (.float .f64 x)).run P w = .ok (.float .f64 (Op.negFloat .f64 x)) w := rfl

set_option maxHeartbeats 6400000 in
theorem countTurns_err (kind W x y E1 E2 E3 P3 Q3 : Int) (p : Option Addr) (N c : Nat) (w : World) (hE1 : (E1 != 0) = true) (hE2 : (E2 != 0) = true)
    (T1 : Hid (ShortH kind W x y (.slice p N c) true))
    (H1 : Hid (FracH w kind W x y 0 0 E1 (.slice p N c))) (H2 : Hid (FracH w kind W y x 0 0 E2 (.slice p N c))) (H3 : Hid (FracH w kind W x x P3 Q3 E3 (.slice p N c))) (Y1 : Hid (YearH w kind W x y 0 E1 (.slice p N c))) (Y2 : Hid (YearH w kind W y x 0 E2 (.slice p N c))) :
    Calls Try.prog 6 #[.int .i64 kind, .agg #[.int .i64 W, .slice p N c], .int .i64 x, .int .i64 y] w fun e w' => e = .returned (.bool true) ∧ Below w.heap.size w w' := by
  unfold ShortH at T1
  unfold FracH at H1 H2 H3
  unfold YearH at Y1 Y2
  go_enter Try.func6, Try.ntmps6
  go_wp2_with fail
  refine (T1.out _).mono ?_
  rintro e w1 ⟨rfl, hb1⟩
  have X1 := hideS (CBoxP.first hb1)
  clear hb1 T1
  obtain ⟨c0, c1⟩ := X1.out.cells
  go_wp2_with fail
  refine (H1.out _ X1.out.below).mono ?_
  rintro e w2 ⟨rfl, hb2⟩
  have X2 := hideS (X1.out.step hb2)
  clear hb2 H1 c0 c1 X1
  obtain ⟨c0, c1⟩ := X2.out.cells
  go_wp2_with fail
  refine (H2.out _ X2.out.below).mono ?_
  rintro e w3 ⟨rfl, hb3⟩
  have X3 := hideS (X2.out.step hb3)
  clear hb3 H2 c0 c1 X2
  obtain ⟨c0, c1⟩ := X3.out.cells
  go_wp2_with fail
  refine (H3.out _ X3.out.below).mono ?_
  rintro e w4 ⟨rfl, hb4⟩
  have X4 := hideS (X3.out.step hb4)
  clear hb4 H3 c0 c1 X3
  obtain ⟨c0, c1⟩ := X4.out.cells
  go_wp2_with fail
  refine (Y1.out _ X4.out.below).mono ?_
  rintro e w5 ⟨rfl, hb5⟩
  have X5 := hideS (X4.out.step hb5)
  clear hb5 Y1 c0 c1 X4
  obtain ⟨c0, c1⟩ := X5.out.cells
  go_wp2_with fail
  refine (Y2.out _ X5.out.below).mono ?_
  rintro e w6 ⟨rfl, hb6⟩
  have X6 := hideS (X5.out.step hb6)
  clear hb6 Y2 c0 c1 X5
  go_wp2_with (go_at_call 9; refine (awake7 _).mono ?_; rintro e w7 ⟨rfl, hb7⟩)
  go_ret
  exact ⟨rfl, (X6.out.step hb7).below⟩
set_option maxHeartbeats 6400000 in
theorem countTurns_not (kind W x y : Int) (p : Option Addr) (N c : Nat) (w : World) (T1 : Hid (ShortH kind W x y (.slice p N c) false)) :
    Calls Try.prog 6 #[.int .i64 kind, .agg #[.int .i64 W, .slice p N c], .int .i64 x, .int .i64 y] w fun e w' => e = .returned (.bool true) ∧ Below w.heap.size w w' := by
  unfold ShortH at T1
  go_enter Try.func6, Try.ntmps6
  go_wp2_with fail
  refine (T1.out _).mono ?_
  rintro e w1 ⟨rfl, hb1⟩
  have X1 := hideS (CBoxP.first hb1)
  clear hb1 T1
  go_wp2_with (go_at_call 9; refine (awake7 _).mono ?_; rintro e w2 ⟨rfl, hb2⟩)
  go_ret
  exact ⟨rfl, (X1.out.step hb2).below⟩
set_option maxHeartbeats 6400000 in
theorem countTurns_ok (kind W x y P Q P2 : Int) (V U NU : Nat) (gt lt : Bool) (p : Option Addr) (N c : Nat) (w : World) (h1 : -1000000000 ≤ P2) (h2 : P2 ≤ 1000000000) (hP3 : Hid (-P2 = P)) (hU : Op.negFloat .f64 U = NU)
    (o1 : (FloatKind.f64.format.order V NU == some .eq) = true) (o2 : (FloatKind.f64.format.order V 0 == some .gt) = gt) (o3 : (FloatKind.f64.format.order V 0 == some .lt) = lt) (hg : Hid ((gt = true ∧ lt = false ∧ 0 < P) ∨ (gt = false ∧ lt = true ∧ P < 0) ∨ (gt = false ∧ lt = false ∧ P = 0)))
    (T1 : Hid (ShortH kind W x y (.slice p N c) true))
    (H1 : Hid (FracH w kind W x y P Q 0 (.slice p N c))) (H2 : Hid (FracH w kind W y x P2 Q 0 (.slice p N c))) (H3 : Hid (FracH w kind W x x 0 Q 0 (.slice p N c))) (Y1 : Hid (YearH w kind W x y V 0 (.slice p N c))) (Y2 : Hid (YearH w kind W y x U 0 (.slice p N c))) :
    Calls Try.prog 6 #[.int .i64 kind, .agg #[.int .i64 W, .slice p N c], .int .i64 x, .int .i64 y] w fun e w' => e = .returned (.bool true) ∧ Below w.heap.size w w' := by
  have n1 : ∀ w, (Op.unary .neg (.float .f64 U)).run Try.prog w = .ok (.float .f64 NU) w := fun w => by rw [run_neg7, hU]
  unfold ShortH at T1
  unfold FracH at H1 H2 H3
  unfold YearH at Y1 Y2
  clear hU
  go_enter Try.func6, Try.ntmps6
  go_wp2_with fail
  refine (T1.out _).mono ?_
  rintro e w1 ⟨rfl, hb1⟩
  have X1 := hideS (CBoxP.first hb1)
  clear hb1 T1
  obtain ⟨c0, c1⟩ := X1.out.cells
  go_wp2_with fail
  refine (H1.out _ X1.out.below).mono ?_
  rintro e w2 ⟨rfl, hb2⟩
  have X2 := hideS (X1.out.step hb2)
  clear hb2 H1 c0 c1 X1
  obtain ⟨c0, c1⟩ := X2.out.cells
  go_wp2_with fail
  refine (H2.out _ X2.out.below).mono ?_
  rintro e w3 ⟨rfl, hb3⟩
  have X3 := hideS (X2.out.step hb3)
  clear hb3 H2 c0 c1 X2
  obtain ⟨c0, c1⟩ := X3.out.cells
  go_wp2_with fail
  refine (H3.out _ X3.out.below).mono ?_
  rintro e w4 ⟨rfl, hb4⟩
  have X4 := hideS (X3.out.step hb4)
  clear hb4 H3 c0 c1 X3
  obtain ⟨c0, c1⟩ := X4.out.cells
  go_wp2_with fail
  refine (Y1.out _ X4.out.below).mono ?_
  rintro e w5 ⟨rfl, hb5⟩
  have X5 := hideS (X4.out.step hb5)
  clear hb5 Y1 c0 c1 X4
  obtain ⟨c0, c1⟩ := X5.out.cells
  go_wp2_with fail
  refine (Y2.out _ X5.out.below).mono ?_
  rintro e w6 ⟨rfl, hb6⟩
  have X6 := hideS (X5.out.step hb6)
  clear hb6 Y2 c0 c1 X5
  have hq := hP3.out
  rcases hg.out with ⟨rfl, rfl, hp⟩ | ⟨rfl, rfl, hp⟩ | ⟨rfl, rfl, rfl⟩
  · have hp' : ¬ P < 0 := by omega
    go_wp2_with (go_at_call 9; refine (awake7 _).mono ?_; rintro e w7 ⟨rfl, hb7⟩)
    go_ret
    exact ⟨congrArg (fun s => Ending.returned (Value.bool s)) (show (!decide (P < 0)) = true by simp; omega), (X6.out.step hb7).below⟩
  · have hp' : ¬ 0 < P := by omega
    go_wp2_with (go_at_call 9; refine (awake7 _).mono ?_; rintro e w7 ⟨rfl, hb7⟩)
    go_ret
    exact ⟨congrArg (fun s => Ending.returned (Value.bool s)) (show (!decide (0 < P)) = true by simp; omega), (X6.out.step hb7).below⟩
  · obtain rfl : P2 = 0 := by omega
    clear hq
    go_wp2_with (go_at_call 9; refine (awake7 _).mono ?_; rintro e w7 ⟨rfl, hb7⟩)
    go_ret
    exact ⟨rfl, (X6.out.step hb7).below⟩
theorem FracR.swap {kind W a b P Q E : Int} {rs : List Rul} (h : FracR kind W a b rs P Q E) : FracR kind W b a rs (-P) Q E := by
  cases h with
  | fine hk hk' ha hb h6 => rw [← fracS_turn (opB W rs) ha]; exact .fine hk hk' hb ha h6
  | kind h => exact .kind h
  | cal A B h6 h hA => exact .cal E B h6 h hA
  | day hk hk' h h6 => exact .day hk hk' (fun c => h ⟨c.2, c.1⟩) h6
theorem FracR.same {kind W a b P Q : Int} {rs : List Rul} (h : FracR kind W a b rs P Q 0) : FracR kind W a a rs 0 Q 0 := by
  generalize hE : (0 : Int) = E at h
  cases h with
  | fine hk hk' ha hb h6 =>
    have e : fracS (opB W rs) kind a a = 0 := by unfold fracS; rw [if_neg (by omega), fracP_self _ ha]
    have := FracR.fine (rs := rs) (W := W) hk hk' ha ha h6
    rw [e] at this; exact this
  | kind h => cases hE
  | cal A B h6 h hA => exact absurd hE.symm hA
  | day hk hk' h h6 => cases hE
theorem countTurns_walk (kind W x y : Int) (p : Option Addr) (bb off c : Nat) (rs : List Rul) (w : World) (hs : RSrc w p bb off rs) (hl : rs.length ≤ 9223372036854775807) (_ : I64 kind) (_ : I64 W) (_ : ∀ r ∈ rs, RulI r) (_ : I64 x) (_ : I64 y) :
    Calls Try.prog 6 #[.int .i64 kind, .agg #[.int .i64 W, .slice p rs.length c], .int .i64 x, .int .i64 y] w fun e w' => e = .returned (.bool true) ∧ Below w.heap.size w w' := by
  obtain ⟨S1, hS1⟩ := short_any kind W x y p rs.length c hl
  cases S1
  · exact countTurns_not kind W x y p rs.length c w hS1
  · obtain ⟨P, Q, E, h⟩ := fracR_ex kind W x y rs
    obtain ⟨b1, b2, b3, b4⟩ := h.bd
    by_cases hE : E = 0
    · subst hE
      obtain ⟨q1, q2⟩ := b3 rfl
      obtain ⟨u1, n1, r1⟩ := yW_rank Q b1 b2
      obtain ⟨u2, n2, r2⟩ := yW_rank (P := -P) Q (by omega) (by omega)
      obtain ⟨u3, n3, r3⟩ := negF_rank u2 n2
      have u0 : U64 ((0 : Nat) : Int) := by unfold U64; decide
      have n0 : nanB ((0 : Nat) : Int) = false := by decide
      have r0 : rankI ((0 : Nat) : Int) = 0 := by decide
      have sg := yRk_pos (P := P) q1 q2
      refine countTurns_ok kind W x y P Q (-P) (yW P Q) (yW (-P) Q) _ (decide (0 < P)) (decide (P < 0)) p rs.length c w (by omega) (by omega) (show -(-P) = P by omega) rfl ?_ ?_ ?_ (show _ from ?_) hS1 (h.prog p bb off c w hs hl) (h.swap.prog p bb off c w hs hl) (h.same.prog p bb off c w hs hl) (h.year p bb off c w hs hl) (h.swap.year p bb off c w hs hl)
      · rw [eq_rank u1 u3 n1 n3, r1, r3, r2, yRk_neg]
        exact decide_eq_true (by omega)
      · rw [gt_rank7 u1 u0 n1 n0, r0, r1]
        exact decide_eq_decide.2 sg.1
      · rw [lt_rank u1 u0 n1 n0, r0, r1]
        exact decide_eq_decide.2 sg.2
      · show (_ ∧ _) ∨ _
        rcases Int.lt_trichotomy P 0 with a | a | a
        · exact Or.inr (Or.inl ⟨decide_eq_false (by omega), decide_eq_true a, a⟩)
        · exact Or.inr (Or.inr ⟨decide_eq_false (by omega), decide_eq_false (by omega), a⟩)
        · exact Or.inl ⟨decide_eq_true a, decide_eq_false (by omega), a⟩
    · obtain ⟨rfl, rfl⟩ := b4 hE
      obtain ⟨P3, Q3, E3, h3⟩ := fracR_ex kind W x x rs
      have hy := h.year p bb off c w hs hl
      have hy' := h.swap.year p bb off c w hs hl
      have hp' := h.swap.prog p bb off c w hs hl
      rw [show (-0 : Int) = 0 from rfl] at hy' hp'
      rw [show yW 0 0 = 0 from rfl] at hy hy'
      exact countTurns_err kind W x y E E E3 P3 Q3 p rs.length c w (bne_iff_ne.2 hE) (bne_iff_ne.2 hE) hS1 (h.prog p bb off c w hs hl) hp' (h3.prog p bb off c w hs hl) hy hy'
end Go.Proofs.Ytcbbbkngjdlcjaa
