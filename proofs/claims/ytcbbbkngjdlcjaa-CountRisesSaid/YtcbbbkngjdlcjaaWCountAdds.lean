/- The walk of CountAdds: D360, D365, DAct and DOpen add up. -/
import Derived.Test.YtcbbbkngjdlcjaaNShort
import Derived.Test.YtcbbbkngjdlcjaaFCal
namespace Go.Proofs.Ytcbbbkngjdlcjaa
open Go.RowKit

set_option maxHeartbeats 1600000 in
theorem countAdds_none (kind W x y z : Int) (p : Option Addr) (N c : Nat) (w : World) (h1 : kind = 4 ∨ kind = 5) :
    Calls Try.prog 5 #[.int .i64 kind, .agg #[.int .i64 W, .slice p N c], .int .i64 x, .int .i64 y, .int .i64 z] w fun e w' => e = .returned (.bool true) ∧ Below w.heap.size w w' := by
  have HB := hideS (cbox_first w W (.slice p N c))
  rcases h1 with rfl | rfl
  all_goals
    go_enter Try.func5, Try.ntmps5
    go_wp2_with (go_at_call 9; refine (awake7 _).mono ?_; rintro e w1 ⟨rfl, hb1⟩)
    go_ret
    exact ⟨rfl, HB.out.trans (hb1.mono HB.out.size)⟩

/-- What the three calls tell. -/
def AddsO (P1 Q1 E1 P2 Q2 E2 P3 Q3 E3 : Int) : Prop := ((E1 != 0) = true) ∨ ((E1 = 0 ∧ (E2 != 0) = true)) ∨ (E1 = 0 ∧ E2 = 0 ∧ (E3 != 0) = true) ∨ (E1 = 0 ∧ E2 = 0 ∧ E3 = 0 ∧ P1 + P2 = P3 ∧ Q1 = Q2 ∧ Q2 = Q3 ∧ 0 < Q1)
/-- What short tells of three pairs. -/
def ShortH (kind W a b : Int) (v : Value) (S : Bool) : Prop := ∀ w, Calls Try.prog 8 #[.int .i64 kind, .agg #[.int .i64 W, v], .int .i64 a, .int .i64 b] w fun e w' => e = .returned (.bool S) ∧ Below w.heap.size w w'
set_option maxHeartbeats 6400000 in
theorem countAdds_go (kind W x y z P1 Q1 E1 P2 Q2 E2 P3 Q3 E3 : Int) (p : Option Addr) (N c : Nat) (S1 S2 S3 : Bool) (w : World) (k4 : (kind == 4) = false) (k5 : (kind == 5) = false) (h1 : -1000000000 ≤ P1) (h2 : P1 ≤ 1000000000) (h3 : -1000000000 ≤ P2) (h4 : P2 ≤ 1000000000)
    (T1 : Hid (ShortH kind W x y (.slice p N c) S1)) (T2 : Hid (ShortH kind W y z (.slice p N c) S2)) (T3 : Hid (ShortH kind W x z (.slice p N c) S3))
    (H1 : Hid (FracH w kind W x y P1 Q1 E1 (.slice p N c))) (H2 : Hid (FracH w kind W y z P2 Q2 E2 (.slice p N c))) (H3 : Hid (FracH w kind W x z P3 Q3 E3 (.slice p N c))) (HO : AddsO P1 Q1 E1 P2 Q2 E2 P3 Q3 E3) :
    Calls Try.prog 5 #[.int .i64 kind, .agg #[.int .i64 W, .slice p N c], .int .i64 x, .int .i64 y, .int .i64 z] w fun e w' => e = .returned (.bool true) ∧ Below w.heap.size w w' := by
  unfold ShortH at T1 T2 T3
  unfold FracH at H1 H2 H3
  unfold AddsO at HO
  go_enter Try.func5, Try.ntmps5
  go_wp2_with fail
  refine (T1.out _).mono ?_
  rintro e w1 ⟨rfl, hb1⟩
  have X1 := hideS (CBoxP.first hb1)
  clear hb1 T1
  cases S1
  · clear HO
    go_wp2_with (go_at_call 9; refine (awake7 _).mono ?_; rintro e w2 ⟨rfl, hb2⟩)
    go_ret
    exact ⟨rfl, (X1.out.step hb2).below⟩
  obtain ⟨c0, c1⟩ := X1.out.cells
  go_wp2_with fail
  refine (T2.out _).mono ?_
  rintro e w2 ⟨rfl, hb2⟩
  have X2 := hideS (X1.out.step hb2)
  clear hb2 T2 c0 c1 X1
  cases S2
  · clear HO
    go_wp2_with (go_at_call 9; refine (awake7 _).mono ?_; rintro e w3 ⟨rfl, hb3⟩)
    go_ret
    exact ⟨rfl, (X2.out.step hb3).below⟩
  obtain ⟨c0, c1⟩ := X2.out.cells
  go_wp2_with fail
  refine (T3.out _).mono ?_
  rintro e w3 ⟨rfl, hb3⟩
  have X3 := hideS (X2.out.step hb3)
  clear hb3 T3 c0 c1 X2
  cases S3
  · clear HO
    go_wp2_with (go_at_call 9; refine (awake7 _).mono ?_; rintro e w4 ⟨rfl, hb4⟩)
    go_ret
    exact ⟨rfl, (X3.out.step hb4).below⟩
  obtain ⟨c0, c1⟩ := X3.out.cells
  go_wp2_with fail
  refine (H1.out _ X3.out.below).mono ?_
  rintro e w4 ⟨rfl, hb4⟩
  have X4 := hideS (X3.out.step hb4)
  clear hb4 H1 c0 c1 X3
  obtain ⟨c0, c1⟩ := X4.out.cells
  go_wp2_with fail
  refine (H2.out _ X4.out.below).mono ?_
  rintro e w5 ⟨rfl, hb5⟩
  have X5 := hideS (X4.out.step hb5)
  clear hb5 H2 c0 c1 X4
  obtain ⟨c0, c1⟩ := X5.out.cells
  go_wp2_with fail
  refine (H3.out _ X5.out.below).mono ?_
  rintro e w6 ⟨rfl, hb6⟩
  have X6 := hideS (X5.out.step hb6)
  clear hb6 H3 c0 c1 X5
  rcases HO with h | ⟨rfl, h⟩ | ⟨rfl, rfl, h⟩ | ⟨rfl, rfl, rfl, h5, rfl, rfl, h6⟩
  all_goals
    go_wp2_with (go_at_call 9; refine (awake7 _).mono ?_; rintro e w7 ⟨rfl, hb7⟩)
    go_ret
    exact ⟨rfl, (X6.out.step hb7).below⟩
theorem adds_of {kind W x y z P1 Q1 E1 P2 Q2 E2 P3 Q3 E3 : Int} {rs : List Rul} (h4 : ¬ (kind = 4 ∨ kind = 5)) (h1 : FracR kind W x y rs P1 Q1 E1) (h2 : FracR kind W y z rs P2 Q2 E2) (h3 : FracR kind W x z rs P3 Q3 E3) : AddsO P1 Q1 E1 P2 Q2 E2 P3 Q3 E3 := by
  unfold AddsO
  by_cases e1 : E1 = 0
  · by_cases e2 : E2 = 0
    · by_cases e3 : E3 = 0
      · refine Or.inr (Or.inr (Or.inr ⟨e1, e2, e3, ?_⟩))
        cases h1 with
        | kind h => cases e1
        | cal A B h6 h hA => exact absurd e1 hA
        | day hk hk' h h6 => cases e1
        | fine hk hk' hx hy h6 =>
          cases h2 with
          | kind h => cases e2
          | cal A B h6 h hA => exact absurd e2 hA
          | day hk hk' h h6 => cases e2
          | fine _ _ _ hz _ =>
            cases h3 with
            | kind h => cases e3
            | cal A B h6 h hA => exact absurd e3 hA
            | day hk hk' h h6 => cases e3
            | fine _ _ _ _ _ => exact ⟨fracS_add (opB W rs) (by omega) hx hy hz, rfl, rfl, fracQ_bd.1⟩
      · exact Or.inr (Or.inr (Or.inl ⟨e1, e2, bne_iff_ne.2 e3⟩))
    · exact Or.inr (Or.inl ⟨e1, bne_iff_ne.2 e2⟩)
  · exact Or.inl (bne_iff_ne.2 e1)
theorem countAdds_walk (kind W x y z : Int) (p : Option Addr) (bb off c : Nat) (rs : List Rul) (w : World) (hs : RSrc w p bb off rs) (hl : rs.length ≤ 9223372036854775807) (_ : I64 kind) (_ : I64 W) (_ : ∀ r ∈ rs, RulI r) (_ : I64 x) (_ : I64 y) (_ : I64 z) :
    Calls Try.prog 5 #[.int .i64 kind, .agg #[.int .i64 W, .slice p rs.length c], .int .i64 x, .int .i64 y, .int .i64 z] w fun e w' => e = .returned (.bool true) ∧ Below w.heap.size w w' := by
  by_cases hg : kind = 4 ∨ kind = 5
  · exact countAdds_none kind W x y z p rs.length c w hg
  · obtain ⟨P1, Q1, E1, h1⟩ := fracR_ex kind W x y rs
    obtain ⟨P2, Q2, E2, h2⟩ := fracR_ex kind W y z rs
    obtain ⟨P3, Q3, E3, h3⟩ := fracR_ex kind W x z rs
    obtain ⟨S1, hS1⟩ := short_any kind W x y p rs.length c hl
    obtain ⟨S2, hS2⟩ := short_any kind W y z p rs.length c hl
    obtain ⟨S3, hS3⟩ := short_any kind W x z p rs.length c hl
    exact countAdds_go kind W x y z P1 Q1 E1 P2 Q2 E2 P3 Q3 E3 p rs.length c S1 S2 S3 w (beq_false_of_ne (by omega)) (beq_false_of_ne (by omega)) h1.bd.1 h1.bd.2.1 h2.bd.1 h2.bd.2.1 hS1 hS2 hS3 (h1.prog p bb off c w hs hl) (h2.prog p bb off c w hs hl) (h3.prog p bb off c w hs hl) (adds_of hg h1 h2 h3)
end Go.Proofs.Ytcbbbkngjdlcjaa
