/- The contract of the document's Join. -/
import Derived.Test.YtglkhoekpafddaaCRefL
import Derived.Test.YtglkhoekpafddaaCRow
namespace Go.Proofs.Ytglkhoekpafddaa
open Go.RowKit

theorem grown_refl' (W : World) (r : Option Nat) : W.grownBy W r := ⟨rfl, rfl, rfl, Nat.le_refl _, fun _ _ _ => rfl⟩
/-- An append of rules that came in to a row of one's own. -/
theorem wpList_append_rules (w : World) {ops : Array Oper} {rest : List Oper} {o : Oper} {a : Act} {Q : Exit → Act → World → Prop} (hgd : o.guard = none) (s x : Operand)
    (ho : o.op = .call { callee := .builtin .append, args := #[s, x], argTypes := #[22, 22] })
    (base : Nat) (v : Value) (n : Nat) (rs0 : List Rul) (hs : a.eval s = v) (hown : w.ownsRow base 47 9 v n (rowC rs0))
    (p : Option Addr) (b off c m : Nat) (rs : List Rul) (hx : a.eval x = .slice p m c) (hm : rs.length = m) (hsrc : RSrc w p b off rs) (hnil : p = none → m = 0 ∧ c = 0) (hn : n ≤ 100000) (hm2 : m ≤ 100000) (hbase : base ≤ w.heap.size)
    (h : ∀ v' w', w'.ownsRow base 47 9 v' (n + m) (rowC (rs0 ++ rs)) → w.grownBy w' v.ownBlock → wpList Try.prog ops Q rest (a.put o.dst v') w') : wpList Try.prog ops Q (o :: rest) a w := by
  obtain ⟨i0, hi, hz0, hz1, hz2⟩ := info_parts info_rule
  cases p with
  | none =>
    obtain ⟨rfl, rfl⟩ := hnil rfl
    refine wpList_append_own_none hgd s x 22 ho base 47 i0 9 Try.underlying22 hi v n (rowC rs0) hs hown hx (h v w ?_ (grown_refl' _ _))
    rw [List.length_eq_zero_iff.1 hm, List.append_nil]; exact hown
  | some ad =>
    refine wpList_append_own w hgd s x 22 ho base 47 i0 (.agg #[.int .i64 0, .int .i64 0, .int .i64 0, .int .i64 0, .int .i64 0, .int .i64 0, .int .i64 0, .int .i64 0, .int .i64 0]) 9 72 Try.underlying22 hi hz0 hz1 hz2 rfl (by decide) v n (rowC rs0) hs hown ad m c (rowC rs) hx (by rw [rowC_len, hm]) ?_ (rowC_one rs) (by unfold maxLen; omega) (by omega) hbase ?_
    · by_cases h0 : 0 < rs.length
      · have e := hsrc.at_ h0
        obtain rfl := Option.some.inj e
        exact src_news hsrc
      · rw [List.length_eq_zero_iff.1 (show rs.length = 0 by omega)]
        intro j u hj
        cases hj
    · intro v' w' h1 h2 _
      refine h v' w' ?_ h2
      rw [rowC_append]; exact h1

/-- Join's boxes: the two calendars', and the result's. -/
structure CBox3 (w : World) (W : Int) (v : Value) (W' : Int) (v' : Value) (wr : World) : Prop where
  two : CBox2 w W v W' v' wr
  d0 : wr.cell? ⟨w.heap.size + 1 + 1, 0, none⟩ = some (.int .i64 0)
  d1 : wr.cell? ⟨w.heap.size + 1 + 1, 1, none⟩ = some (.slice none 0 0)
  f0 : wr.frozen? ⟨w.heap.size + 1 + 1, 0, none⟩ = false
  f1 : wr.frozen? ⟨w.heap.size + 1 + 1, 1, none⟩ = false
  sz : w.heap.size + 3 ≤ wr.heap.size
theorem CBox3.step {w wr w' : World} {W W' : Int} {v v' : Value} (h : CBox3 w W v W' v' wr) (hb : Below wr.heap.size wr w') : CBox3 w W v W' v' w' :=
  ⟨h.two.step hb, (hb.cell (p := ⟨w.heap.size + 1 + 1, 0, none⟩) (by have := h.sz; show w.heap.size + 1 + 1 < _; omega)).trans h.d0, (hb.cell (p := ⟨w.heap.size + 1 + 1, 1, none⟩) (by have := h.sz; show w.heap.size + 1 + 1 < _; omega)).trans h.d1,
    (hb.frozen (p := ⟨w.heap.size + 1 + 1, 0, none⟩) (by have := h.sz; show w.heap.size + 1 + 1 < _; omega)).trans h.f0, (hb.frozen (p := ⟨w.heap.size + 1 + 1, 1, none⟩) (by have := h.sz; show w.heap.size + 1 + 1 < _; omega)).trans h.f1, Nat.le_trans h.sz hb.size⟩
theorem CBox3.first (w : World) (W : Int) (v : Value) (W' : Int) (v' : Value) : CBox3 w W v W' v' (((w.alloc (.cells #[.int .i64 W, v] 24)).alloc (.cells #[.int .i64 W', v'] 24)).alloc (.cells #[.int .i64 0, .slice none 0 0] 24)) := by
  have h2 := (CBox2.first w W v W' v').step ((Below.refl _ _).alloc (Nat.le_refl _) (.cells #[.int .i64 0, .slice none 0 0] 24))
  have fr : ∀ k, (((w.alloc (.cells #[.int .i64 W, v] 24)).alloc (.cells #[.int .i64 W', v'] 24)).alloc (.cells #[.int .i64 0, .slice none 0 0] 24)).frozen? ⟨w.heap.size + 1 + 1, k, none⟩ = false := fun k => by
    rw [show w.heap.size + 1 + 1 = ((w.alloc (.cells #[.int .i64 W, v] 24)).alloc (.cells #[.int .i64 W', v'] 24)).heap.size by simp]
    exact World.frozen?_alloc_new _ _ _ _
  exact ⟨h2, new_cell2 _ _ _ _ (by simp), new_cell2 _ _ _ _ (by simp), fr 0, fr 1, by simp⟩

theorem put2 {w : World} {b : Nat} {x y u v : Value} (d0 : w.cell? ⟨b, 0, none⟩ = some u) (d1 : w.cell? ⟨b, 1, none⟩ = some v) :
    ((w.setCell ⟨b, 0, none⟩ x).setCell ⟨b, 1, none⟩ y).cell? ⟨b, 0, none⟩ = some x ∧ ((w.setCell ⟨b, 0, none⟩ x).setCell ⟨b, 1, none⟩ y).cell? ⟨b, 1, none⟩ = some y := by
  constructor
  · simp [d0, go_sem]
  · simp [d1, go_sem]

theorem put2_below {w w1 : World} {x y : Value} (h : Below w.heap.size w w1) : Below w.heap.size w ((w1.setCell ⟨w.heap.size + 1 + 1, 0, none⟩ x).setCell ⟨w.heap.size + 1 + 1, 1, none⟩ y) :=
  (h.setCell (p := ⟨w.heap.size + 1 + 1, 0, none⟩) (by show w.heap.size ≤ w.heap.size + 1 + 1; omega) x).setCell (p := ⟨w.heap.size + 1 + 1, 1, none⟩) (by show w.heap.size ≤ w.heap.size + 1 + 1; omega) y

set_option maxHeartbeats 1600000 in
theorem refJoin_a (W W' : Int) (p p' : Option Addr) (b off c N' c' : Nat) (rs : List Rul) (A B : Int) (w : World) (h : ChkR W rs A B) (hA : A ≠ 0) (hs : RSrc w p b off rs) (hl : rs.length ≤ 1000000) :
    Calls Try.prog 25 #[.agg #[.int .i64 W, .slice p rs.length c], .agg #[.int .i64 W', .slice p' N' c']] w fun e w' => e = .returned (.tuple #[.agg #[.int .i64 0, .slice none 0 0], .int .i64 A]) ∧ Below w.heap.size w w' := by
  have HC : Hid (∀ wx, Below w.heap.size w wx → Calls Try.prog 11 #[.agg #[.int .i64 W, .slice p rs.length c]] wx fun e w' => e = .returned (.tuple #[.int .i64 A, .int .i64 B]) ∧ Below wx.heap.size wx w') := fun wx hb => refCheck_any W p b off c rs A B wx h (hs.below hb) hl
  generalize rs.length = N at *
  have hA' : (A != 0) = true := bne_iff_ne.2 hA
  clear h hs hl hA
  have HB0 := hideS (CBox3.first w W (.slice p N c) W' (.slice p' N' c'))
  go_enter Try.func25, Try.ntmps25
  go_wp2_with fail
  refine (HC.out _ HB0.out.two.bl).mono ?_
  rintro e w1 ⟨rfl, hb1⟩
  have HB1 := hideS (HB0.out.step hb1)
  clear hb1
  obtain ⟨_, d0, d1, f0, f1, _⟩ := HB1.out
  go_wp2_with fail
  obtain ⟨x0, x1⟩ := put2 (x := .int .i64 0) (y := .slice none 0 0) d0 d1
  exact bodyPost_ret (v := .tuple #[.agg #[.int .i64 0, .slice none 0 0], .int .i64 A]) (by simp [results, Try.results25, go_sem, x0, x1]) rfl ⟨rfl, put2_below HB1.out.two.bl⟩

set_option maxHeartbeats 1600000 in
theorem refJoin_b (W W' : Int) (p p' : Option Addr) (b off c b' off' c' : Nat) (rs rs' : List Rul) (A B : Int) (w : World) (h : OkC W rs) (h' : ChkR W' rs' A B) (hA : A ≠ 0) (hs : RSrc w p b off rs) (hs' : RSrc w p' b' off' rs') (hl' : rs'.length ≤ 1000000) :
    Calls Try.prog 25 #[.agg #[.int .i64 W, .slice p rs.length c], .agg #[.int .i64 W', .slice p' rs'.length c']] w fun e w' => e = .returned (.tuple #[.agg #[.int .i64 0, .slice none 0 0], .int .i64 A]) ∧ Below w.heap.size w w' := by
  have HC : Hid (∀ wx, Below w.heap.size w wx → Calls Try.prog 11 #[.agg #[.int .i64 W, .slice p rs.length c]] wx fun e w' => e = .returned (.tuple #[.int .i64 0, .int .i64 0]) ∧ Below wx.heap.size wx w') := fun wx hb => refCheck_any W p b off c rs 0 0 wx (.ok h) (hs.below hb) (by have := h.len; omega)
  have HC' : Hid (∀ wx, Below w.heap.size w wx → Calls Try.prog 11 #[.agg #[.int .i64 W', .slice p' rs'.length c']] wx fun e w' => e = .returned (.tuple #[.int .i64 A, .int .i64 B]) ∧ Below wx.heap.size wx w') := fun wx hb => refCheck_any W' p' b' off' c' rs' A B wx h' (hs'.below hb) hl'
  generalize rs.length = N at *
  generalize rs'.length = N' at *
  have hA' : (A != 0) = true := bne_iff_ne.2 hA
  clear h hs hA h' hs' hl'
  have HB0 := hideS (CBox3.first w W (.slice p N c) W' (.slice p' N' c'))
  go_enter Try.func25, Try.ntmps25
  go_wp2_with fail
  refine (HC.out _ HB0.out.two.bl).mono ?_
  rintro e w1 ⟨rfl, hb1⟩
  have HB1 := hideS (HB0.out.step hb1)
  clear hb1
  have b0 := HB1.out.two.b0
  have b1 := HB1.out.two.b1
  go_wp2_with fail
  refine (HC'.out _ HB1.out.two.bl).mono ?_
  rintro e w2 ⟨rfl, hb2⟩
  have HB2 := hideS (HB1.out.step hb2)
  clear hb2 b0 b1
  obtain ⟨_, d0, d1, f0, f1, _⟩ := HB2.out
  go_wp2_with fail
  obtain ⟨x0, x1⟩ := put2 (x := .int .i64 0) (y := .slice none 0 0) d0 d1
  exact bodyPost_ret (v := .tuple #[.agg #[.int .i64 0, .slice none 0 0], .int .i64 A]) (by simp [results, Try.results25, go_sem, x0, x1]) rfl ⟨rfl, put2_below HB2.out.two.bl⟩

/-- Both calendars may be: what Join has at hand. -/
structure JoinH (w : World) (W W' : Int) (p p' : Option Addr) (c c' : Nat) (rs rs' : List Rul) (N N' : Nat) : Prop where
  chk : ∀ wx, Below w.heap.size w wx → Calls Try.prog 11 #[.agg #[.int .i64 W, .slice p N c]] wx fun e w' => e = .returned (.tuple #[.int .i64 0, .int .i64 0]) ∧ Below wx.heap.size wx w'
  chk' : ∀ wx, Below w.heap.size w wx → Calls Try.prog 11 #[.agg #[.int .i64 W', .slice p' N' c']] wx fun e w' => e = .returned (.tuple #[.int .i64 0, .int .i64 0]) ∧ Below wx.heap.size wx w'
  mov : ∀ wx, Below w.heap.size w wx → Calls Try.prog 45 #[.agg #[.int .i64 W, .slice p N c]] wx fun e w' => e = .returned (.bool (movesB rs)) ∧ Below wx.heap.size wx w'
  mov' : ∀ wx, Below w.heap.size w wx → Calls Try.prog 45 #[.agg #[.int .i64 W', .slice p' N' c']] wx fun e w' => e = .returned (.bool (movesB rs')) ∧ Below wx.heap.size wx w'
theorem joinH_of (W W' : Int) (p p' : Option Addr) (b off c b' off' c' : Nat) (rs rs' : List Rul) (w : World) (h : OkC W rs) (h' : OkC W' rs') (hs : RSrc w p b off rs) (hs' : RSrc w p' b' off' rs') : JoinH w W W' p p' c c' rs rs' rs.length rs'.length := by
  have l := h.len
  have l' := h'.len
  exact ⟨fun wx hb => refCheck_any W p b off c rs 0 0 wx (.ok h) (hs.below hb) (by omega), fun wx hb => refCheck_any W' p' b' off' c' rs' 0 0 wx (.ok h') (hs'.below hb) (by omega), fun wx hb => refMoves_any W p b off c rs wx (hs.below hb) (by omega), fun wx hb => refMoves_any W' p' b' off' c' rs' wx (hs'.below hb) (by omega)⟩

set_option maxHeartbeats 3200000 in
theorem refJoin_mov (W W' : Int) (p p' : Option Addr) (c c' N N' : Nat) (rs rs' : List Rul) (w : World) (H : Hid (JoinH w W W' p p' c c' rs rs' N N')) (hW : W ≠ W') (hm : movesB rs = true ∨ movesB rs' = true) :
    Calls Try.prog 25 #[.agg #[.int .i64 W, .slice p N c], .agg #[.int .i64 W', .slice p' N' c']] w fun e w' => e = .returned (.tuple #[.agg #[.int .i64 0, .slice none 0 0], .int .i64 60]) ∧ Below w.heap.size w w' := by
  have HC := hideS H.out.chk
  have HC' := hideS H.out.chk'
  have HM := hideS H.out.mov
  have HM' := hideS H.out.mov'
  have hW' : (W != W') = true := bne_iff_ne.2 hW
  clear hW H
  generalize movesB rs = M at *
  generalize movesB rs' = M' at *
  have HB0 := hideS (CBox3.first w W (.slice p N c) W' (.slice p' N' c'))
  go_enter Try.func25, Try.ntmps25
  go_wp2_with fail
  refine (HC.out _ HB0.out.two.bl).mono ?_
  rintro e w1 ⟨rfl, hb1⟩
  have HB1 := hideS (HB0.out.step hb1)
  clear hb1
  have b0 := HB1.out.two.b0
  have b1 := HB1.out.two.b1
  go_wp2_with fail
  refine (HC'.out _ HB1.out.two.bl).mono ?_
  rintro e w2 ⟨rfl, hb2⟩
  have HB2 := hideS (HB1.out.step hb2)
  clear hb2 b0 b1
  have a0 := HB2.out.two.a0
  have a1 := HB2.out.two.a1
  have b0 := HB2.out.two.b0
  have b1 := HB2.out.two.b1
  go_wp2_with fail
  refine (HM.out _ HB2.out.two.bl).mono ?_
  rintro e w3 ⟨rfl, hb3⟩
  have HB3 := hideS (HB2.out.step hb3)
  clear hb3 a0 a1 b0 b1
  cases M
  · obtain rfl : M' = true := by simpa using hm
    have b0 := HB3.out.two.b0
    have b1 := HB3.out.two.b1
    go_wp2_with fail
    refine (HM'.out _ HB3.out.two.bl).mono ?_
    rintro e w4 ⟨rfl, hb4⟩
    have HB4 := hideS (HB3.out.step hb4)
    clear hb4 b0 b1
    obtain ⟨_, d0, d1, f0, f1, _⟩ := HB4.out
    go_wp2_with fail
    obtain ⟨x0, x1⟩ := put2 (x := .int .i64 0) (y := .slice none 0 0) d0 d1
    exact bodyPost_ret (v := .tuple #[.agg #[.int .i64 0, .slice none 0 0], .int .i64 60]) (by simp [results, Try.results25, go_sem, x0, x1]) rfl ⟨rfl, put2_below HB4.out.two.bl⟩
  · obtain ⟨_, d0, d1, f0, f1, _⟩ := HB3.out
    go_wp2_with fail
    obtain ⟨x0, x1⟩ := put2 (x := .int .i64 0) (y := .slice none 0 0) d0 d1
    exact bodyPost_ret (v := .tuple #[.agg #[.int .i64 0, .slice none 0 0], .int .i64 60]) (by simp [results, Try.results25, go_sem, x0, x1]) rfl ⟨rfl, put2_below HB3.out.two.bl⟩
end Go.Proofs.Ytglkhoekpafddaa
