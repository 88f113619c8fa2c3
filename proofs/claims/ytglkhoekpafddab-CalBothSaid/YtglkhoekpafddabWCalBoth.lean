/- The walk of CalBoth: the joined calendar is open where both are. -/
import Derived.Test.YtglkhoekpafddabQJoinE
import Derived.Test.YtglkhoekpafddabQAwake
import Derived.Test.YtglkhoekpafddabFCal
namespace Go.Proofs.Ytglkhoekpafddab
open Go.RowKit

/-- A box with a calendar in it. -/
structure BBox (bw : Nat) (W : Int) (v : Value) (wr : World) : Prop where
  c0 : wr.cell? ⟨bw, 0, none⟩ = some (.int .i64 W)
  c1 : wr.cell? ⟨bw, 1, none⟩ = some v
  lt : bw < wr.heap.size
theorem BBox.step {bw : Nat} {W : Int} {v : Value} {wr w' : World} (h : BBox bw W v wr) (hb : Below wr.heap.size wr w') : BBox bw W v w' :=
  ⟨(hb.cell (p := ⟨bw, 0, none⟩) h.lt).trans h.c0, (hb.cell (p := ⟨bw, 1, none⟩) h.lt).trans h.c1, Nat.lt_of_lt_of_le h.lt hb.size⟩
theorem BBox.first (wr : World) (W : Int) (v : Value) : BBox wr.heap.size W v (wr.alloc (.cells #[.int .i64 W, v] 24)) := ⟨by simp, by simp, by simp⟩

set_option maxHeartbeats 1600000 in
theorem calBoth_err (W W' n E : Int) (p p' : Option Addr) (c c' N N' : Nat) (w : World) (hN : N ≤ 9223372036854775807) (hN' : N' ≤ 9223372036854775807) (hE : E ≠ 0)
    (HJ : Hid (∀ wx, Below w.heap.size w wx → Calls Try.prog 12 #[.agg #[.int .i64 W, .slice p N c], .agg #[.int .i64 W', .slice p' N' c']] wx fun e w' => e = .returned (.tuple #[.agg #[.int .i64 0, .slice none 0 0], .int .i64 E]) ∧ Below wx.heap.size wx w')) :
    Calls Try.prog 5 #[.agg #[.int .i64 W, .slice p N c], .agg #[.int .i64 W', .slice p' N' c'], .int .i64 n] w fun e w' => e = .returned (.bool true) ∧ Below w.heap.size w w' := by
  have HB0 := hideS (CBox2.first w W (.slice p N c) W' (.slice p' N' c'))
  have hE' : (E != 0) = true := bne_iff_ne.2 hE
  have hc : (64 : Int) < N ∨ (¬ (64 : Int) < N ∧ (64 : Int) < N') ∨ (¬ (64 : Int) < N ∧ ¬ (64 : Int) < N') := by omega
  clear hE
  rcases hc with a | ⟨a, a2⟩ | ⟨a, a2⟩
  all_goals
    go_enter Try.func5, Try.ntmps5
    go_wp2_with fail
    refine (HJ.out _ HB0.out.bl).mono ?_
    rintro e w1 ⟨rfl, hb1⟩
    have X1 := hideS (HB0.out.step hb1)
    clear hb1
    have XA := hideS (X1.out.step ((Below.refl _ w1).alloc (Nat.le_refl _) (.cells #[.int .i64 0, .slice none 0 0] 24)))
    have a0 := XA.out.a0
    have a1 := XA.out.a1
    have b0 := XA.out.b0
    have b1 := XA.out.b1
    go_wp2_with (go_at_call 8; refine (awake6 _).mono ?_; rintro e w2 ⟨rfl, hb2⟩)
    go_ret
    exact ⟨rfl, (XA.out.step hb2).bl⟩

set_option maxHeartbeats 3200000 in
theorem calBoth_fine (W W' n O E : Int) (p p' : Option Addr) (c c' N N' : Nat) (rs2 : List Rul) (B1 B2 B3 : Bool) (w : World) (hN : N ≤ 64) (hN' : N' ≤ 64) (hB : B3 = (B1 && B2))
    (HJ : Hid (∀ wx, Below w.heap.size w wx → Calls Try.prog 12 #[.agg #[.int .i64 W, .slice p N c], .agg #[.int .i64 W', .slice p' N' c']] wx fun e w' => ∃ q g k, e = .returned (.tuple #[.agg #[.int .i64 O, .slice q (N + N') k], .int .i64 0]) ∧ RSrcW w' q g 0 rs2 ∧ wx.heap.size ≤ g ∧ Below wx.heap.size wx w'))
    (H1 : Hid (∀ wx, Below w.heap.size w wx → Calls Try.prog 6 #[.agg #[.int .i64 W, .slice p N c], .int .i64 n] wx fun e w' => e = .returned (.tuple #[.bool B1, .int .i64 E]) ∧ Below wx.heap.size wx w'))
    (H2 : Hid (∀ wx, Below w.heap.size w wx → Calls Try.prog 6 #[.agg #[.int .i64 W', .slice p' N' c'], .int .i64 n] wx fun e w' => e = .returned (.tuple #[.bool B2, .int .i64 E]) ∧ Below wx.heap.size wx w'))
    (H3 : Hid (∀ wx q g k, RSrc wx q g 0 rs2 → Calls Try.prog 6 #[.agg #[.int .i64 O, .slice q (N + N') k], .int .i64 n] wx fun e w' => e = .returned (.tuple #[.bool B3, .int .i64 E]) ∧ Below wx.heap.size wx w')) :
    Calls Try.prog 5 #[.agg #[.int .i64 W, .slice p N c], .agg #[.int .i64 W', .slice p' N' c'], .int .i64 n] w fun e w' => e = .returned (.bool true) ∧ Below w.heap.size w w' := by
  have HB0 := hideS (CBox2.first w W (.slice p N c) W' (.slice p' N' c'))
  have a : ¬ (64 : Int) < N := by omega
  have a2 : ¬ (64 : Int) < N' := by omega
  subst hB
  cases B1
  all_goals
    go_enter Try.func5, Try.ntmps5
    go_wp2_with fail
    refine (HJ.out _ HB0.out.bl).mono ?_
    rintro e w1 ⟨q, g, k, rfl, hsr, hg, hb1⟩
    have X1 := hideS (HB0.out.step hb1)
    have XA := hideS (X1.out.step ((Below.refl _ w1).alloc (Nat.le_refl _) (.cells #[.int .i64 O, .slice q (N + N') k] 24)))
    have FA := hideS (BBox.first w1 O (.slice q (N + N') k))
    have SA := hideS (hsr.src.below ((Below.refl _ w1).alloc (Nat.le_refl _) (.cells #[.int .i64 O, .slice q (N + N') k] 24)))
    clear hb1 hsr hg X1
    have a0 := XA.out.a0
    have a1 := XA.out.a1
    have b0 := XA.out.b0
    have b1 := XA.out.b1
    go_wp2_with fail
    refine (H1.out _ XA.out.bl).mono ?_
    rintro e w2 ⟨rfl, hb2⟩
    have X2 := hideS (XA.out.step hb2)
    have F2 := hideS (FA.out.step hb2)
    have S2 := hideS (SA.out.below hb2)
    clear hb2 XA FA SA a0 a1 b0 b1
    generalize w1.heap.size = bc at *
    have b0 := X2.out.b0
    have b1 := X2.out.b1
    go_wp2_with fail
    refine (H2.out _ X2.out.bl).mono ?_
    rintro e w3 ⟨rfl, hb3⟩
    have X3 := hideS (X2.out.step hb3)
    have F3 := hideS (F2.out.step hb3)
    have S3 := hideS (S2.out.below hb3)
    clear hb3 X2 F2 S2 b0 b1
    have b0 := F3.out.c0
    have b1 := F3.out.c1
    go_wp2_with fail
    refine (H3.out _ q g k S3.out).mono ?_
    rintro e w4 ⟨rfl, hb4⟩
    have X4 := hideS (X3.out.step hb4)
    clear hb4 X3 F3 S3 b0 b1
    go_wp2_with (go_at_call 8; refine (awake6 _).mono ?_; rintro e w5 ⟨rfl, hb5⟩)
    go_ret
    exact ⟨rfl, (X4.out.step hb5).bl⟩

theorem calBoth_walk (W W' n : Int) (p : Option Addr) (b off c : Nat) (rs : List Rul) (p' : Option Addr) (b' off' c' : Nat) (rs' : List Rul) (w : World) (hs : RSrc w p b off rs) (hl : rs.length ≤ 9223372036854775807) (hs' : RSrc w p' b' off' rs') (hl' : rs'.length ≤ 9223372036854775807) (_ : I64 W) (_ : ∀ r ∈ rs, RulI r) (_ : I64 W') (_ : ∀ r ∈ rs', RulI r) (_ : I64 n) (hnil : p = none → rs.length = 0 ∧ c = 0) (hnil' : p' = none → rs'.length = 0 ∧ c' = 0) :
    Calls Try.prog 5 #[.agg #[.int .i64 W, .slice p rs.length c], .agg #[.int .i64 W', .slice p' rs'.length c'], .int .i64 n] w fun e w' => e = .returned (.bool true) ∧ Below w.heap.size w w' := by
  obtain ⟨E, h⟩ := joinC_ex W W' rs rs'
  by_cases hE : E = 0
  · subst hE
    obtain ⟨h1, h2, _, h3⟩ := joinC_ok h
    have HJ := fun wx hb => joinP_fine W W' p p' b off c b' off' c' rs rs' wx h (hs.below hb) (hs'.below hb) hnil hnil'
    have hlen : (rs ++ rs').length = rs.length + rs'.length := List.length_append
    have l1 := h1.len
    have l2 := h2.len
    by_cases hn : isDayP n
    · refine calBoth_fine W W' n (orI W W') 0 p p' c c' _ _ (rs ++ rs') _ _ _ w l1 l2 (op_join (n := n) h) HJ (fun wx hb => openP_ok W n p b off c rs wx h1 (hs.below hb) hn) (fun wx hb => openP_ok W' n p' b' off' c' rs' wx h2 (hs'.below hb) hn) (fun wx q g k hq => ?_)
      have := openP_ok (orI W W') n q g 0 k (rs ++ rs') wx h3 hq hn
      rw [hlen] at this
      exact this
    · refine calBoth_fine W W' n (orI W W') 51 p p' c c' _ _ (rs ++ rs') false false false w l1 l2 rfl HJ (fun wx hb => openP_bad W n p b off c rs 0 0 wx (.ok h1) (hs.below hb) hl (Or.inr hn)) (fun wx hb => openP_bad W' n p' b' off' c' rs' 0 0 wx (.ok h2) (hs'.below hb) hl' (Or.inr hn)) (fun wx q g k hq => ?_)
      have := openP_bad (orI W W') n q g 0 k (rs ++ rs') 0 0 wx (.ok h3) hq (by rw [hlen]; omega) (Or.inr hn)
      rw [hlen] at this
      exact this
  · exact calBoth_err W W' n E p p' c c' _ _ w hl hl' hE (fun wx hb => joinP_err W W' E p p' b off c b' off' c' rs rs' wx h hE (hs.below hb) (hs'.below hb) hl hl' hnil hnil')
end Go.Proofs.Ytglkhoekpafddab
