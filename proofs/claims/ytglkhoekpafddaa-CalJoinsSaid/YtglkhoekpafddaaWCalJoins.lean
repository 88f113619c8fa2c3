/- The walk of CalJoins: any two calendars; what is told shares nothing. -/
import Derived.Test.YtglkhoekpafddaaQJoinE
import Derived.Test.YtglkhoekpafddaaQAwake
import Derived.Test.YtglkhoekpafddaaFCal
namespace Go.Proofs.Ytglkhoekpafddaa
open Go.RowKit

theorem refJ_err (W W' E : Int) (p p' : Option Addr) (b off c b' off' c' : Nat) (rs rs' : List Rul) (w : World) (h : JoinC W W' rs rs' E) (hE : E ≠ 0) (hs : RSrc w p b off rs) (hs' : RSrc w p' b' off' rs') (hl : rs.length ≤ 1000000) (hl' : rs'.length ≤ 1000000) (hnil : p = none → rs.length = 0 ∧ c = 0) (hnil' : p' = none → rs'.length = 0 ∧ c' = 0) :
    Calls Try.prog 25 #[.agg #[.int .i64 W, .slice p rs.length c], .agg #[.int .i64 W', .slice p' rs'.length c']] w fun e w' => e = .returned (.tuple #[.agg #[.int .i64 0, .slice none 0 0], .int .i64 E]) ∧ Below w.heap.size w w' := by
  cases h with
  | a A B h hA => exact refJoin_a W W' p p' b off c _ c' rs E B w h hA hs hl
  | b A B hok h' hA => exact refJoin_b W W' p p' b off c b' off' c' rs rs' E B w hok h' hA hs hs' hl'
  | mov h1 h2 hW hm => exact refJoin_mov W W' p p' c c' _ _ rs rs' w (joinH_of W W' p p' b off c b' off' c' rs rs' w h1 h2 hs hs') hW hm
  | on A B h1 h2 hf hc =>
    refine (refJoin_on W W' p p' b off c b' off' c' _ _ rs rs' E B w (joinH_of W W' p p' b off c b' off' c' rs rs' w h1 h2 hs hs') hf rfl rfl h1.len h2.len hs hs' hnil hnil' hc).mono ?_
    rintro e w' ⟨hb, ho⟩
    rcases ho with ⟨_, he⟩ | ⟨a, _⟩
    · exact ⟨he, hb⟩
    · exact absurd a hE
theorem refJ_fine (W W' : Int) (p p' : Option Addr) (b off c b' off' c' : Nat) (rs rs' : List Rul) (w : World) (h : JoinC W W' rs rs' 0) (hs : RSrc w p b off rs) (hs' : RSrc w p' b' off' rs') (hnil : p = none → rs.length = 0 ∧ c = 0) (hnil' : p' = none → rs'.length = 0 ∧ c' = 0) :
    Calls Try.prog 25 #[.agg #[.int .i64 W, .slice p rs.length c], .agg #[.int .i64 W', .slice p' rs'.length c']] w fun e w' => ∃ q g k, e = .returned (.tuple #[.agg #[.int .i64 (orI W W'), .slice q (rs.length + rs'.length) k], .int .i64 0]) ∧ RSrc w' q g 0 (rs ++ rs') ∧ w.heap.size ≤ g ∧ Below w.heap.size w w' := by
  generalize hE : (0 : Int) = E at h
  cases h with
  | a A B _ hA => exact absurd hE.symm hA
  | b A B _ _ hA => exact absurd hE.symm hA
  | mov => exact absurd hE (by decide)
  | on A B h1 h2 hf hc =>
    subst hE
    refine (refJoin_on W W' p p' b off c b' off' c' _ _ rs rs' 0 B w (joinH_of W W' p p' b off c b' off' c' rs rs' w h1 h2 hs hs') hf rfl rfl h1.len h2.len hs hs' hnil hnil' hc).mono ?_
    rintro e w' ⟨hb, ho⟩
    rcases ho with ⟨a, _⟩ | ⟨_, q, g, k, he, hsr, hg⟩
    · exact absurd rfl a
    · exact ⟨q, g, k, he, hsr, hg, hb⟩

/-- What both Joins tell. -/
structure JTwo (w : World) (W W' : Int) (p p' : Option Addr) (c c' N N' : Nat) (O E : Int) (n : Nat) (rs2 : List Rul) : Prop where
  prog : ∀ wx, Below w.heap.size w wx → Calls Try.prog 17 #[.agg #[.int .i64 W, .slice p N c], .agg #[.int .i64 W', .slice p' N' c']] wx fun e w' => ∃ q g k, e = .returned (.tuple #[.agg #[.int .i64 O, .slice q n k], .int .i64 E]) ∧ RSrcW w' q g 0 rs2 ∧ wx.heap.size ≤ g ∧ Below wx.heap.size wx w'
  ref : ∀ wx, Below w.heap.size w wx → Calls Try.prog 25 #[.agg #[.int .i64 W, .slice p N c], .agg #[.int .i64 W', .slice p' N' c']] wx fun e w' => ∃ q g k, e = .returned (.tuple #[.agg #[.int .i64 O, .slice q n k], .int .i64 E]) ∧ RSrc w' q g 0 rs2 ∧ wx.heap.size ≤ g ∧ Below wx.heap.size wx w'
  len : rs2.length = n
  le : n ≤ 200
theorem jTwo_of (w : World) (W W' : Int) (p p' : Option Addr) (b off c b' off' c' : Nat) (rs rs' : List Rul) (hs : RSrc w p b off rs) (hs' : RSrc w p' b' off' rs') (hl : rs.length ≤ 100) (hl' : rs'.length ≤ 100) (hnil : p = none → rs.length = 0 ∧ c = 0) (hnil' : p' = none → rs'.length = 0 ∧ c' = 0) : ∃ O E n rs2, JTwo w W W' p p' c c' rs.length rs'.length O E n rs2 := by
  obtain ⟨E, h⟩ := joinC_ex W W' rs rs'
  by_cases hE : E = 0
  · subst hE
    exact ⟨orI W W', 0, rs.length + rs'.length, rs ++ rs', fun wx hb => joinP_fine W W' p p' b off c b' off' c' rs rs' wx h (hs.below hb) (hs'.below hb) hnil hnil', fun wx hb => refJ_fine W W' p p' b off c b' off' c' rs rs' wx h (hs.below hb) (hs'.below hb) hnil hnil', List.length_append, by omega⟩
  · have nilG : ∀ (wx w' : World), RSrcW w' none wx.heap.size 0 [] := fun wx w' => ⟨⟨fun h => absurd h (by simp), fun h => absurd h (by simp), fun i hi => absurd hi (by simp)⟩, fun h => absurd h (by simp)⟩
    exact ⟨0, E, 0, [], fun wx hb => (joinP_err W W' E p p' b off c b' off' c' rs rs' wx h hE (hs.below hb) (hs'.below hb) (by omega) (by omega) hnil hnil').mono fun e w' ⟨he, hb2⟩ => ⟨none, wx.heap.size, 0, he, nilG wx w', Nat.le_refl _, hb2⟩,
      fun wx hb => (refJ_err W W' E p p' b off c b' off' c' rs rs' wx h hE (hs.below hb) (hs'.below hb) (by omega) (by omega) hnil hnil').mono fun e w' ⟨he, hb2⟩ => ⟨none, wx.heap.size, 0, he, (nilG wx w').src, Nat.le_refl _, hb2⟩, rfl, by omega⟩

/-- Only the block g has been written. -/
structure OnlyG (g n : Nat) (w5 wr : World) : Prop where
  os : wr.os = w5.os
  tape : wr.tape = w5.tape
  output : wr.output = w5.output
  size : wr.heap.size = w5.heap.size
  other : ∀ k, k ≠ g → wr.heap[k]? = w5.heap[k]?
  cell : ∀ j < n * 9, ∃ v, wr.cell? ⟨g, j, none⟩ = some v
  frz : 0 < n → ∀ j, wr.frozen? ⟨g, j, none⟩ = false
theorem OnlyG.cellEq {g n : Nat} {w5 wr : World} (h : OnlyG g n w5 wr) {k : Nat} (hk : k ≠ g) (o : Nat) : wr.cell? ⟨k, o, none⟩ = w5.cell? ⟨k, o, none⟩ := World.cell?_of_block (w := w5) (h.other k hk)
theorem OnlyG.first {g n : Nat} {w5 : World} {q : Option Addr} {rs : List Rul} (h : RSrcW w5 q g 0 rs) (hn : rs.length = n) : OnlyG g n w5 w5 := by
  refine ⟨rfl, rfl, rfl, rfl, fun _ _ => rfl, fun j hj => ?_, fun h0 => h.frz (by omega)⟩
  have hi : j / 9 < rs.length := by omega
  have hc := h.src.cell (j / 9) hi
  generalize rs.getD (j / 9) rul0 = r at hc
  rcases (show j = 0 + j / 9 * 9 ∨ j = 0 + j / 9 * 9 + 1 ∨ j = 0 + j / 9 * 9 + 2 ∨ j = 0 + j / 9 * 9 + 3 ∨ j = 0 + j / 9 * 9 + 4 ∨ j = 0 + j / 9 * 9 + 5 ∨ j = 0 + j / 9 * 9 + 6 ∨ j = 0 + j / 9 * 9 + 7 ∨ j = 0 + j / 9 * 9 + 8 by omega) with e | e | e | e | e | e | e | e | e
  all_goals rw [e]
  · exact ⟨_, hc.c0⟩
  · exact ⟨_, hc.c1⟩
  · exact ⟨_, hc.c2⟩
  · exact ⟨_, hc.c3⟩
  · exact ⟨_, hc.c4⟩
  · exact ⟨_, hc.c5⟩
  · exact ⟨_, hc.c6⟩
  · exact ⟨_, hc.c7⟩
  · exact ⟨_, hc.c8⟩
theorem OnlyG.set {g n : Nat} {w5 wr : World} (h : OnlyG g n w5 wr) (j : Nat) (x : Value) : OnlyG g n w5 (wr.setCell ⟨g, j, none⟩ x) :=
  ⟨h.os, h.tape, h.output, by simpa using h.size, fun k hk => (Below.heap_setCell wr ⟨g, j, none⟩ x k hk).trans (h.other k hk), fun i hi => by
    obtain ⟨v, hv⟩ := h.cell i hi
    exact cell?_setCell_some hv, fun h0 i => by rw [World.frozen?_setCell]; exact h.frz h0 i⟩
theorem OnlyG.src {g n : Nat} {w5 wr : World} (h : OnlyG g n w5 wr) {q : Option Addr} {b off : Nat} {rs : List Rul} (hs : RSrc w5 q b off rs) (hb : 0 < rs.length → b ≠ g) : RSrc wr q b off rs :=
  ⟨hs.at_, fun hx => by rw [h.size]; exact hs.lt hx, fun i hi => by
    have hg := hb (by omega)
    obtain ⟨c0, c1, c2, c3, c4, c5, c6, c7, c8⟩ := hs.cell i hi
    exact ⟨(h.cellEq hg _).trans c0, (h.cellEq hg _).trans c1, (h.cellEq hg _).trans c2, (h.cellEq hg _).trans c3, (h.cellEq hg _).trans c4, (h.cellEq hg _).trans c5, (h.cellEq hg _).trans c6, (h.cellEq hg _).trans c7, (h.cellEq hg _).trans c8⟩⟩
/-- A box with a calendar in it. -/
structure EBox (bw : Nat) (W : Int) (v : Value) (wr : World) : Prop where
  c0 : wr.cell? ⟨bw, 0, none⟩ = some (.int .i64 W)
  c1 : wr.cell? ⟨bw, 1, none⟩ = some v
  lt : bw < wr.heap.size
theorem EBox.step {bw : Nat} {W : Int} {v : Value} {wr w' : World} (h : EBox bw W v wr) (hb : Below wr.heap.size wr w') : EBox bw W v w' :=
  ⟨(hb.cell (p := ⟨bw, 0, none⟩) h.lt).trans h.c0, (hb.cell (p := ⟨bw, 1, none⟩) h.lt).trans h.c1, Nat.lt_of_lt_of_le h.lt hb.size⟩
theorem EBox.first (wr : World) (W : Int) (v : Value) : EBox wr.heap.size W v (wr.alloc (.cells #[.int .i64 W, v] 24)) := ⟨by simp, by simp, by simp⟩
theorem EBox.only {bw g n : Nat} {W : Int} {v : Value} {w5 wr : World} (h : EBox bw W v w5) (ho : OnlyG g n w5 wr) (hne : bw ≠ g) : EBox bw W v wr :=
  ⟨(ho.cellEq hne _).trans h.c0, (ho.cellEq hne _).trans h.c1, by rw [ho.size]; exact h.lt⟩
theorem CBox2.only {w w5 wr : World} {W W' : Int} {v v' : Value} {g n : Nat} (h : CBox2 w W v W' v' w5) (ho : OnlyG g n w5 wr) (hg : w.heap.size + 2 ≤ g) : CBox2 w W v W' v' wr :=
  ⟨(ho.cellEq (by omega) _).trans h.a0, (ho.cellEq (by omega) _).trans h.a1, (ho.cellEq (by omega) _).trans h.b0, (ho.cellEq (by omega) _).trans h.b1, ⟨ho.os.trans h.bl.os, ho.tape.trans h.bl.tape, ho.output.trans h.bl.output, by rw [ho.size]; exact h.bl.size, fun k hk => (ho.other k (by omega)).trans (h.bl.block k hk)⟩, by rw [ho.size]; exact h.sz⟩

set_option maxHeartbeats 1600000 in
theorem calJoins_great (W W' : Int) (p p' : Option Addr) (c c' N N' : Nat) (w : World) (_hN : N ≤ 9223372036854775807) (_hN' : N' ≤ 9223372036854775807) (h : (100 : Int) < N ∨ (¬ (100 : Int) < N ∧ (100 : Int) < N')) :
    Calls Try.prog 8 #[.agg #[.int .i64 W, .slice p N c], .agg #[.int .i64 W', .slice p' N' c']] w fun e w' => e = .returned (.bool true) ∧ Below w.heap.size w w' := by
  have HB0 := hideS (CBox2.first w W (.slice p N c) W' (.slice p' N' c'))
  rcases h with a | ⟨a, a2⟩
  all_goals
    go_enter Try.func8, Try.ntmps8
    go_wp2_with (go_at_call 9; refine (awake6 _).mono ?_; rintro e w2 ⟨rfl, hb2⟩)
    go_ret
    exact ⟨rfl, (HB0.out.step hb2).bl⟩

set_option maxRecDepth 10000 in
set_option maxHeartbeats 6400000 in
theorem calJoins_small (W W' O E : Int) (p p' : Option Addr) (c c' N N' n : Nat) (rs2 : List Rul) (w : World) (hN : N ≤ 100) (hN' : N' ≤ 100) (H : Hid (JTwo w W W' p p' c c' N N' O E n rs2)) :
    Calls Try.prog 8 #[.agg #[.int .i64 W, .slice p N c], .agg #[.int .i64 W', .slice p' N' c']] w fun e w' => e = .returned (.bool true) ∧ Below w.heap.size w w' := by
  have HB0 := hideS (CBox2.first w W (.slice p N c) W' (.slice p' N' c'))
  have HSm : Hid (∀ wx q g k q' g' k', RSrc wx q g 0 rs2 → RSrc wx q' g' 0 rs2 → Calls Try.prog 18 #[.agg #[.int .i64 O, .slice q n k], .agg #[.int .i64 O, .slice q' n k']] wx fun e w' => e = .returned (.bool true) ∧ Below wx.heap.size wx w') := fun wx q g k q' g' k' h h' => by
    have := refSame_any O O q q' g 0 k g' 0 k' rs2 rs2 wx h h' (by rw [H.out.len]; have := H.out.le; omega) (by rw [H.out.len]; have := H.out.le; omega)
    rw [H.out.len, decide_eq_true ⟨rfl, rfl⟩] at this
    exact this
  have hn := H.out.le
  have HLn := hideS H.out.len
  have a : ¬ (100 : Int) < N := by omega
  have a2 : ¬ (100 : Int) < N' := by omega
  go_enter Try.func8, Try.ntmps8
  go_wp2_with fail
  refine (H.out.prog _ HB0.out.bl).mono ?_
  rintro e w1 ⟨q1, g1, k1, rfl, hs1, hg1, hb1⟩
  have hz1 : w.heap.size + 2 ≤ g1 := Nat.le_trans HB0.out.sz hg1
  have hal1 := (Below.refl _ w1).alloc (Nat.le_refl _) (.cells #[.int .i64 O, .slice q1 n k1] 24)
  have X1 := hideS ((HB0.out.step hb1).step hal1)
  have C1 := hideS (EBox.first w1 O (.slice q1 n k1))
  have S1 := hideS (hs1.below hal1)
  have L1 : Hid (0 < n → g1 < w1.heap.size) := fun h => hs1.src.lt (by rw [HLn.out]; exact h)
  have Z1 : Hid (w1.heap.size + 1 = (w1.alloc (.cells #[.int .i64 O, .slice q1 n k1] 24)).heap.size) := by show _ = _; simp
  clear hb1 hs1 hg1 hal1 HB0
  have a0 := X1.out.a0
  have a1 := X1.out.a1
  have b0 := X1.out.b0
  have b1 := X1.out.b1
  go_wp2_with fail
  refine (H.out.prog _ X1.out.bl).mono ?_
  rintro e w2 ⟨q2, g2, k2, rfl, hs2, hg2, hb2⟩
  have hz2 : w1.heap.size < g2 := by have := Z1.out; omega
  have hal2 := (Below.refl _ w2).alloc (Nat.le_refl _) (.cells #[.int .i64 O, .slice q2 n k2] 24)
  have hbd : w1.heap.size < w2.heap.size := by have := hb2.size; have := Z1.out; omega
  have X2 := hideS ((X1.out.step hb2).step hal2)
  have C2 := hideS ((C1.out.step hb2).step hal2)
  have S12 := hideS ((S1.out.below hb2).below hal2)
  have D2 := hideS (EBox.first w2 O (.slice q2 n k2))
  have S2 := hideS (hs2.src.below hal2)
  have Z2 : Hid (w2.heap.size + 1 = (w2.alloc (.cells #[.int .i64 O, .slice q2 n k2] 24)).heap.size) := by show _ = _; simp
  clear hb2 hs2 hg2 hal2 X1 C1 S1 Z1 a0 a1 b0 b1
  generalize w1.heap.size = bc at *
  have a0 := X2.out.a0
  have a1 := X2.out.a1
  have b0 := X2.out.b0
  have b1 := X2.out.b1
  go_wp2_with fail
  refine (H.out.ref _ X2.out.bl).mono ?_
  rintro e w3 ⟨q3, g3, k3, rfl, hs3, hg3, hb3⟩
  have hz3 : bc < g3 := by have := Z2.out; omega
  have hal3 := (Below.refl _ w3).alloc (Nat.le_refl _) (.cells #[.int .i64 O, .slice q3 n k3] 24)
  have hbw : bc < w3.heap.size := by have := hb3.size; have := Z2.out; omega
  have X3 := hideS ((X2.out.step hb3).step hal3)
  have C3 := hideS ((C2.out.step hb3).step hal3)
  have S13 := hideS ((S12.out.below hb3).below hal3)
  have D3 := hideS ((D2.out.step hb3).step hal3)
  have S23 := hideS ((S2.out.below hb3).below hal3)
  have V3 := hideS (EBox.first w3 O (.slice q3 n k3))
  have S3 := hideS (hs3.below hal3)
  clear hb3 hs3 hg3 hal3 X2 C2 S12 D2 S2 Z2 a0 a1 b0 b1
  generalize w2.heap.size = bd at *
  have c0 := C3.out.c0
  have c1 := C3.out.c1
  have v0 := V3.out.c0
  have v1 := V3.out.c1
  go_wp2_with fail
  refine (HSm.out _ q1 g1 k1 q3 g3 k3 S13.out.src S3.out).mono ?_
  rintro e w4 ⟨rfl, hb4⟩
  have X4 := hideS (X3.out.step hb4)
  have C4 := hideS (C3.out.step hb4)
  have S14 := hideS (S13.out.below hb4)
  have D4 := hideS (D3.out.step hb4)
  have S24 := hideS (S23.out.below hb4)
  have V4 := hideS (V3.out.step hb4)
  have S34 := hideS (S3.out.below hb4)
  clear hb4 X3 C3 S13 D3 S23 V3 S3 c0 c1 v0 v1
  generalize w3.heap.size = bw at *
  have d0 := D4.out.c0
  have d1 := D4.out.c1
  have v0 := V4.out.c0
  have v1 := V4.out.c1
  go_wp2_with fail
  refine (HSm.out _ q2 g2 k2 q3 g3 k3 S24.out S34.out).mono ?_
  rintro e w5 ⟨rfl, hb5⟩
  have X5 := hideS (X4.out.step hb5)
  have C5 := hideS (C4.out.step hb5)
  have S15 := hideS (S14.out.below hb5)
  have D5 := hideS (D4.out.step hb5)
  have S25 := hideS (S24.out.below hb5)
  have V5 := hideS (V4.out.step hb5)
  have S35 := hideS (S34.out.below hb5)
  clear hb5 X4 C4 S14 D4 S24 V4 S34 d0 d1 v0 v1
  have G0 := hideS (OnlyG.first S15.out HLn.out)
  go_wp2_with fail
  go_loopw [11] (fun i wr => ∃ (k : Nat), k ≤ n ∧ i = .int .i64 k ∧ Hid (n = 0 → wr = w5) ∧ Hid (OnlyG g1 n w5 wr)) (fun i _ => n - (intOf i).toNat)
  case atStart => exact ⟨0, by omega, rfl, fun _ => rfl, G0⟩
  case round =>
    clear G0
    obtain ⟨k, hk, rfl, GZ, G⟩ := hrel
    by_cases hlt : k < n
    · have hq := S15.out.src.at_ (by rw [HLn.out]; omega)
      subst hq
      have hgc := L1.out (by omega)
      have CR := hideS (C5.out.only G.out (by omega))
      have c0 := CR.out.c0
      have c1 := CR.out.c1
      have fz := G.out.frz (by omega)
      obtain ⟨u0, z0⟩ := G.out.cell (k * 9) (by omega)
      obtain ⟨u1, z1⟩ := G.out.cell (k * 9 + 1) (by omega)
      obtain ⟨u2, z2⟩ := G.out.cell (k * 9 + 2) (by omega)
      obtain ⟨u3, z3⟩ := G.out.cell (k * 9 + 3) (by omega)
      obtain ⟨u4, z4⟩ := G.out.cell (k * 9 + 4) (by omega)
      obtain ⟨u5, z5⟩ := G.out.cell (k * 9 + 5) (by omega)
      obtain ⟨u6, z6⟩ := G.out.cell (k * 9 + 6) (by omega)
      obtain ⟨u7, z7⟩ := G.out.cell (k * 9 + 7) (by omega)
      obtain ⟨u8, z8⟩ := G.out.cell (k * 9 + 8) (by omega)
      have G9 := hideS (((((((((G.out.set (k * 9) (.int .i64 77)).set (k * 9 + 1) (.int .i64 0)).set (k * 9 + 2) (.int .i64 0)).set (k * 9 + 3) (.int .i64 k)).set (k * 9 + 4) (.int .i64 0)).set (k * 9 + 5) (.int .i64 0)).set (k * 9 + 6) (.int .i64 0)).set (k * 9 + 7) (.int .i64 0)).set (k * 9 + 8) (.int .i64 0))
      go_wp2_with fail
      go_roundw
      case rel => exact ⟨k + 1, by omega, by go_num, fun h => by omega, G9⟩
      case measure => simp [intOf]; omega
    · have hge : ¬ (k : Int) < n := by omega
      have XR := hideS (X5.out.only G.out hz1)
      have CRr : Hid (wr.cell? ⟨bc, 1, none⟩ = some (.slice q1 n k1)) := by
        by_cases h0 : n = 0
        · rw [GZ.out h0]; exact C5.out.c1
        · have := L1.out (by omega)
          exact (C5.out.only G.out (by omega)).c1
      have DR : Hid (EBox bd O (.slice q2 n k2) wr) := by
        by_cases h0 : n = 0
        · rw [GZ.out h0]; exact D5.out
        · have := L1.out (by omega)
          exact D5.out.only G.out (by omega)
      have VR : Hid (EBox bw O (.slice q3 n k3) wr) := by
        by_cases h0 : n = 0
        · rw [GZ.out h0]; exact V5.out
        · have := L1.out (by omega)
          exact V5.out.only G.out (by omega)
      have SR2 := hideS (G.out.src S25.out (fun h => by have := L1.out (by rw [← HLn.out]; exact h); omega))
      have SR3 := hideS (G.out.src S35.out (fun h => by have := L1.out (by rw [← HLn.out]; exact h); omega))
      clear G GZ L1 S15 S25 S35 X5 C5 D5 V5
      have a0 := XR.out.a0
      have a1 := XR.out.a1
      have b0 := XR.out.b0
      have b1 := XR.out.b1
      have c1 : wr.cell? ⟨bc, 1, none⟩ = some (.slice q1 n k1) := CRr.out
      go_wp2_with fail
      refine (H.out.prog _ XR.out.bl).mono ?_
      rintro e w6 ⟨q6, g6, k6, rfl, hs6, hg6, hb6⟩
      have hal6 := (Below.refl _ w6).alloc (Nat.le_refl _) (.cells #[.int .i64 O, .slice q6 n k6] 24)
      have X6 := hideS ((XR.out.step hb6).step hal6)
      have D6 := hideS ((DR.out.step hb6).step hal6)
      have V6 := hideS ((VR.out.step hb6).step hal6)
      have S26 := hideS ((SR2.out.below hb6).below hal6)
      have S36 := hideS ((SR3.out.below hb6).below hal6)
      have U6 := hideS (EBox.first w6 O (.slice q6 n k6))
      have S66 := hideS (hs6.src.below hal6)
      clear hb6 hs6 hg6 hal6 XR DR VR SR2 SR3 a0 a1 b0 b1 c1
      have d0 := D6.out.c0
      have d1 := D6.out.c1
      have v0 := V6.out.c0
      have v1 := V6.out.c1
      go_wp2_with fail
      refine (HSm.out _ q2 g2 k2 q3 g3 k3 S26.out S36.out).mono ?_
      rintro e w7 ⟨rfl, hb7⟩
      have X7 := hideS (X6.out.step hb7)
      have V7 := hideS (V6.out.step hb7)
      have U7 := hideS (U6.out.step hb7)
      have S37 := hideS (S36.out.below hb7)
      have S67 := hideS (S66.out.below hb7)
      clear hb7 X6 V6 U6 S36 S66 D6 S26 d0 d1 v0 v1
      generalize w6.heap.size = bu at *
      have d0 := U7.out.c0
      have d1 := U7.out.c1
      have v0 := V7.out.c0
      have v1 := V7.out.c1
      go_wp2_with fail
      refine (HSm.out _ q6 g6 k6 q3 g3 k3 S67.out S37.out).mono ?_
      rintro e w8 ⟨rfl, hb8⟩
      have X8 := hideS (X7.out.step hb8)
      clear hb8 X7 V7 U7 S37 S67 d0 d1 v0 v1
      go_wp2_with (go_at_call 9; refine (awake6 _).mono ?_; rintro e w9 ⟨rfl, hb9⟩)
      go_ret
      exact ⟨rfl, (X8.out.step hb9).bl⟩

theorem calJoins_walk (W W' : Int) (p : Option Addr) (b off c : Nat) (rs : List Rul) (p' : Option Addr) (b' off' c' : Nat) (rs' : List Rul) (w : World) (hs : RSrc w p b off rs) (hl : rs.length ≤ 9223372036854775807) (hs' : RSrc w p' b' off' rs') (hl' : rs'.length ≤ 9223372036854775807) (_ : I64 W) (_ : ∀ r ∈ rs, RulI r) (_ : I64 W') (_ : ∀ r ∈ rs', RulI r) (hnil : p = none → rs.length = 0 ∧ c = 0) (hnil' : p' = none → rs'.length = 0 ∧ c' = 0) :
    Calls Try.prog 8 #[.agg #[.int .i64 W, .slice p rs.length c], .agg #[.int .i64 W', .slice p' rs'.length c']] w fun e w' => e = .returned (.bool true) ∧ Below w.heap.size w w' := by
  by_cases h : rs.length ≤ 100 ∧ rs'.length ≤ 100
  · obtain ⟨O, E, n, rs2, H⟩ := jTwo_of w W W' p p' b off c b' off' c' rs rs' hs hs' h.1 h.2 hnil hnil'
    exact calJoins_small W W' O E p p' c c' _ _ n rs2 w h.1 h.2 H
  · exact calJoins_great W W' p p' c c' _ _ w hl hl' (by omega)
end Go.Proofs.Ytglkhoekpafddaa
