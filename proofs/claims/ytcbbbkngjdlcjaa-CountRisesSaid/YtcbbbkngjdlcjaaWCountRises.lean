/- The walk of CountRises: it does not fall where the second day rises. -/
import Derived.Test.YtcbbbkngjdlcjaaHbu
import Derived.Test.YtcbbbkngjdlcjaaWCountAdds
namespace Go.Proofs.Ytcbbbkngjdlcjaa
open Go.RowKit

set_option maxHeartbeats 1600000 in
theorem countRises_none (kind W x y z : Int) (p : Option Addr) (N c : Nat) (w : World) (h1 : z < y) :
    Calls Try.prog 7 #[.int .i64 kind, .agg #[.int .i64 W, .slice p N c], .int .i64 x, .int .i64 y, .int .i64 z] w fun e w' => e = .returned (.bool true) ∧ Below w.heap.size w w' := by
  have HB := hideS (cbox_first w W (.slice p N c))
  go_enter Try.func7, Try.ntmps7
  go_wp2_with (go_at_call 9; refine (awake7 _).mono ?_; rintro e w1 ⟨rfl, hb1⟩)
  go_ret
  exact ⟨rfl, HB.out.trans (hb1.mono HB.out.size)⟩
/-- What the four calls tell. -/
def RisesO (P1 E1 P2 E2 : Int) (V U : Nat) : Prop := ((E1 != 0) = true) ∨ ((E1 = 0 ∧ (E2 != 0) = true)) ∨ (E1 = 0 ∧ E2 = 0 ∧ P1 ≤ P2 ∧ ∃ l q, (FloatKind.f64.format.order V U == some .lt) = l ∧ (FloatKind.f64.format.order V U == some .eq) = q ∧ (l || q) = true)
set_option maxHeartbeats 6400000 in
theorem countRises_go (kind W x y z P1 Q1 E1 P2 Q2 E2 : Int) (V U : Nat) (p : Option Addr) (N c : Nat) (S1 S2 : Bool) (w : World) (hyz : ¬ z < y)
    (T1 : Hid (ShortH kind W x y (.slice p N c) S1)) (T2 : Hid (ShortH kind W x z (.slice p N c) S2))
    (H1 : Hid (FracH w kind W x y P1 Q1 E1 (.slice p N c))) (H2 : Hid (FracH w kind W x z P2 Q2 E2 (.slice p N c))) (Y1 : Hid (YearH w kind W x y V E1 (.slice p N c))) (Y2 : Hid (YearH w kind W x z U E2 (.slice p N c))) (HO : Hid (RisesO P1 E1 P2 E2 V U)) :
    Calls Try.prog 7 #[.int .i64 kind, .agg #[.int .i64 W, .slice p N c], .int .i64 x, .int .i64 y, .int .i64 z] w fun e w' => e = .returned (.bool true) ∧ Below w.heap.size w w' := by
  unfold ShortH at T1 T2
  unfold FracH at H1 H2
  unfold YearH at Y1 Y2
  go_enter Try.func7, Try.ntmps7
  go_wp2_with fail
  refine (T1.out _).mono ?_
  rintro e w1 ⟨rfl, hb1⟩
  have X1 := hideS (CBoxP.first hb1)
  clear hb1 T1
  cases S1
  · go_wp2_with (go_at_call 9; refine (awake7 _).mono ?_; rintro e w2 ⟨rfl, hb2⟩)
    go_ret
    exact ⟨rfl, (X1.out.step hb2).below⟩
  obtain ⟨c0, c1⟩ := X1.out.cells
  go_wp2_with fail
  refine (T2.out _).mono ?_
  rintro e w2 ⟨rfl, hb2⟩
  have X2 := hideS (X1.out.step hb2)
  clear hb2 T2 c0 c1 X1
  cases S2
  · go_wp2_with (go_at_call 9; refine (awake7 _).mono ?_; rintro e w3 ⟨rfl, hb3⟩)
    go_ret
    exact ⟨rfl, (X2.out.step hb3).below⟩
  obtain ⟨c0, c1⟩ := X2.out.cells
  go_wp2_with fail
  refine (H1.out _ X2.out.below).mono ?_
  rintro e w3 ⟨rfl, hb3⟩
  have X3 := hideS (X2.out.step hb3)
  clear hb3 H1 c0 c1 X2
  obtain ⟨c0, c1⟩ := X3.out.cells
  go_wp2_with fail
  refine (H2.out _ X3.out.below).mono ?_
  rintro e w4 ⟨rfl, hb4⟩
  have X4 := hideS (X3.out.step hb4)
  clear hb4 H2 c0 c1 X3
  obtain ⟨c0, c1⟩ := X4.out.cells
  go_wp2_with fail
  refine (Y1.out _ X4.out.below).mono ?_
  rintro e w5 ⟨rfl, hb5⟩
  have X5 := hideS (X4.out.step hb5)
  clear hb5 Y1 c0 c1 X4
  obtain ⟨c0, c1⟩ := X5.out.cells
  go_wp2_with fail
  refine (Y2.out _ X5.out.below).mono ?_
  rintro e w6 ⟨rfl, hb6⟩
  have X6 := hideS (X5.out.step hb6)
  clear hb6 Y2 c0 c1 X5
  rcases HO.out with h | ⟨rfl, h⟩ | ⟨rfl, rfl, h5, l, q, o1, o2, o3⟩
  · go_wp2_with (go_at_call 9; refine (awake7 _).mono ?_; rintro e w7 ⟨rfl, hb7⟩)
    go_ret
    exact ⟨rfl, (X6.out.step hb7).below⟩
  · go_wp2_with (go_at_call 9; refine (awake7 _).mono ?_; rintro e w7 ⟨rfl, hb7⟩)
    go_ret
    exact ⟨rfl, (X6.out.step hb7).below⟩
  · cases l <;> cases q <;> first | (cases o3; done) | skip
    all_goals
      clear o3
      go_wp2_with (go_at_call 9; refine (awake7 _).mono ?_; rintro e w7 ⟨rfl, hb7⟩)
      go_ret
      exact ⟨rfl, (X6.out.step hb7).below⟩
theorem rises_of {kind W x y z P1 Q1 E1 P2 Q2 E2 : Int} {rs : List Rul} (hyz : y ≤ z) (h1 : FracR kind W x y rs P1 Q1 E1) (h2 : FracR kind W x z rs P2 Q2 E2) : RisesO P1 E1 P2 E2 (yW P1 Q1) (yW P2 Q2) := by
  unfold RisesO
  by_cases e1 : E1 = 0
  · by_cases e2 : E2 = 0
    · refine Or.inr (Or.inr ⟨e1, e2, ?_⟩)
      have bd1 := h1.bd
      have bd2 := h2.bd
      have key : P1 ≤ P2 ∧ Q1 = Q2 := by
        cases h1 with
        | kind h => cases e1
        | cal A B h6 h hA => exact absurd e1 hA
        | day hk hk' h h6 => cases e1
        | fine hk hk' hx hy h6 =>
          cases h2 with
          | kind h => cases e2
          | cal A B h6 h hA => exact absurd e2 hA
          | day hk hk' h h6 => cases e2
          | fine _ _ _ hz _ => exact ⟨fracS_rise (opB W rs) hk hk' hx hy hz hyz, rfl⟩
      obtain ⟨hP, rfl⟩ := key
      obtain ⟨q1, q2⟩ := bd1.2.2.1 e1
      obtain ⟨u1, n1, r1⟩ := yW_rank Q1 bd1.1 bd1.2.1
      obtain ⟨u2, n2, r2⟩ := yW_rank Q1 bd2.1 bd2.2.1
      refine ⟨hP, _, _, rfl, rfl, ?_⟩
      have hm := yRk_mono hP q1 q2
      rw [lt_rank u1 u2 n1 n2, eq_rank u1 u2 n1 n2, r1, r2, ← Bool.decide_or]
      exact decide_eq_true (by omega)
    · exact Or.inr (Or.inl ⟨e1, bne_iff_ne.2 e2⟩)
  · exact Or.inl (bne_iff_ne.2 e1)
theorem countRises_walk (kind W x y z : Int) (p : Option Addr) (bb off c : Nat) (rs : List Rul) (w : World) (hs : RSrc w p bb off rs) (hl : rs.length ≤ 9223372036854775807) (_ : I64 kind) (_ : I64 W) (_ : ∀ r ∈ rs, RulI r) (_ : I64 x) (_ : I64 y) (_ : I64 z) :
    Calls Try.prog 7 #[.int .i64 kind, .agg #[.int .i64 W, .slice p rs.length c], .int .i64 x, .int .i64 y, .int .i64 z] w fun e w' => e = .returned (.bool true) ∧ Below w.heap.size w w' := by
  by_cases hg : z < y
  · exact countRises_none kind W x y z p rs.length c w hg
  · obtain ⟨P1, Q1, E1, h1⟩ := fracR_ex kind W x y rs
    obtain ⟨P2, Q2, E2, h2⟩ := fracR_ex kind W x z rs
    obtain ⟨S1, hS1⟩ := short_any kind W x y p rs.length c hl
    obtain ⟨S2, hS2⟩ := short_any kind W x z p rs.length c hl
    exact countRises_go kind W x y z P1 Q1 E1 P2 Q2 E2 (yW P1 Q1) (yW P2 Q2) p rs.length c S1 S2 w hg hS1 hS2 (h1.prog p bb off c w hs hl) (h2.prog p bb off c w hs hl) (h1.year p bb off c w hs hl) (h2.year p bb off c w hs hl) (rises_of (by omega) h1 h2)
end Go.Proofs.Ytcbbbkngjdlcjaa
