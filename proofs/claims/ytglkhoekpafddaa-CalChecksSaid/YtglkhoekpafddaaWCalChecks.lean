/- The walk of CalChecks: any calendar: what is wrong first; all calls answer it. -/
import Derived.Test.YtglkhoekpafddaaQJoinB
import Derived.Test.YtglkhoekpafddaaQFew
import Derived.Test.YtglkhoekpafddaaCRefL
namespace Go.Proofs.Ytglkhoekpafddaa
open Go.RowKit

theorem nil_src (w : World) : RSrc w none 0 0 [] := ⟨fun h => absurd h (by simp), fun h => absurd h (by simp), fun i hi => absurd hi (by simp)⟩

set_option maxHeartbeats 1600000 in
theorem calChecks_great (W n k : Int) (p : Option Addr) (N c : Nat) (w : World) (h1 : 100 < N) (h2 : N ≤ 9223372036854775807) :
    Calls Try.prog 3 #[.agg #[.int .i64 W, .slice p N c], .int .i64 n, .int .i64 k] w fun e w' => e = .returned (.bool true) ∧ Below w.heap.size w w' := by
  have HB0 : Hid (Below w.heap.size w (w.alloc (.cells #[.int .i64 W, .slice p N c] 24))) := (Below.refl w.heap.size w).alloc (Nat.le_refl _) _
  go_enter Try.func3, Try.ntmps3
  go_wp2_with (go_at_call 9; refine (awake6 _).mono ?_; rintro e w1 ⟨rfl, hb1⟩)
  go_ret
  exact ⟨rfl, HB0.out.trans (hb1.mono HB0.out.size)⟩

/-- What all calls tell of a calendar that may not be. -/
structure BadH (w : World) (W n k : Int) (p : Option Addr) (c N : Nat) (A : Int) : Prop where
  opn : ∀ wx, Below w.heap.size w wx → Calls Try.prog 12 #[.agg #[.int .i64 W, .slice p N c], .int .i64 n] wx fun e w' => e = .returned (.tuple #[.bool false, .int .i64 A]) ∧ Below wx.heap.size wx w'
  hol : ∀ wx, Below w.heap.size w wx → Calls Try.prog 13 #[.agg #[.int .i64 W, .slice p N c], .int .i64 n] wx fun e w' => e = .returned (.tuple #[.bool false, .int .i64 A]) ∧ Below wx.heap.size wx w'
  adj : ∀ wx, Below w.heap.size w wx → Calls Try.prog 14 #[.agg #[.int .i64 W, .slice p N c], .int .i64 n, .int .i64 k] wx fun e w' => e = .returned (.tuple #[.int .i64 0, .int .i64 A]) ∧ Below wx.heap.size wx w'
  add : ∀ wx, Below w.heap.size w wx → Calls Try.prog 15 #[.agg #[.int .i64 W, .slice p N c], .int .i64 n, .int .i64 k] wx fun e w' => e = .returned (.tuple #[.int .i64 0, .int .i64 A]) ∧ Below wx.heap.size wx w'
  cnt : ∀ wx, Below w.heap.size w wx → Calls Try.prog 16 #[.agg #[.int .i64 W, .slice p N c], .int .i64 n, .int .i64 k] wx fun e w' => e = .returned (.tuple #[.int .i64 0, .int .i64 A]) ∧ Below wx.heap.size wx w'
  jna : ∀ wx, Below w.heap.size w wx → Calls Try.prog 17 #[.agg #[.int .i64 W, .slice p N c], .agg #[.int .i64 0, .slice none 0 0]] wx fun e w' => e = .returned (.tuple #[.agg #[.int .i64 0, .slice none 0 0], .int .i64 A]) ∧ Below wx.heap.size wx w'
  jnb : ∀ wx, Below w.heap.size w wx → Calls Try.prog 17 #[.agg #[.int .i64 0, .slice none 0 0], .agg #[.int .i64 W, .slice p N c]] wx fun e w' => e = .returned (.tuple #[.agg #[.int .i64 0, .slice none 0 0], .int .i64 A]) ∧ Below wx.heap.size wx w'
theorem nil_ok : OkC 0 [] := ⟨by simp, by decide, by decide, fun r hr => by simp at hr⟩
theorem badH_of (w : World) (W n k : Int) (p : Option Addr) (b off c : Nat) (rs : List Rul) (A B : Int) (h : ChkR W rs A B) (hA : A ≠ 0) (hs : RSrc w p b off rs) (hl : rs.length ≤ 1000000) : BadH w W n k p c rs.length A where
  opn wx hb := by have := openP_bad W n p b off c rs A B wx h (hs.below hb) (by omega) (Or.inl hA); rw [if_pos hA] at this; exact this
  hol wx hb := by have := holP_bad W n p b off c rs A B wx h (hs.below hb) (by omega) (Or.inl hA); rw [if_pos hA] at this; exact this
  adj wx hb := adjP_bad W n k p b off c rs A B A wx h (hs.below hb) (by omega) (Or.inl ⟨hA, rfl⟩)
  add wx hb := by
    by_cases hk : k = 0
    · subst hk
      exact addP_zero W n _ 0 A wx (fun wy hb2 => adjP_bad W n 1 p b off c rs A B A wy h ((hs.below hb).below hb2) (by omega) (Or.inl ⟨hA, rfl⟩))
    · have := addP_bad W n k p b off c rs A B wx h (hs.below hb) (by omega) hk (Or.inl hA); rw [if_pos hA] at this; exact this
  cnt wx hb := cntP_bad W n k p b off c rs A B A wx h (hs.below hb) (by omega) (Or.inl ⟨hA, rfl⟩)
  jna wx hb := joinP_bad W 0 p none c 0 rs.length 0 A B 0 0 A wx ⟨fun wy hb2 => check_any W p b off c rs A B wy h ((hs.below hb).below hb2) (by omega), fun wy _ => check_any 0 none 0 0 0 [] 0 0 wy (.ok nil_ok) (nil_src wy) (by simp)⟩ (Or.inl ⟨bne_iff_ne.2 hA, rfl⟩)
  jnb wx hb := joinP_bad 0 W none p 0 c 0 rs.length 0 0 A B A wx ⟨fun wy _ => check_any 0 none 0 0 0 [] 0 0 wy (.ok nil_ok) (nil_src wy) (by simp), fun wy hb2 => check_any W p b off c rs A B wy h ((hs.below hb).below hb2) (by omega)⟩ (Or.inr ⟨rfl, bne_iff_ne.2 hA, rfl⟩)

/-- A box with a calendar in it. -/
structure ABox (bw : Nat) (W : Int) (v : Value) (wr : World) : Prop where
  c0 : wr.cell? ⟨bw, 0, none⟩ = some (.int .i64 W)
  c1 : wr.cell? ⟨bw, 1, none⟩ = some v
  lt : bw < wr.heap.size
theorem ABox.step {bw : Nat} {W : Int} {v : Value} {wr w' : World} (h : ABox bw W v wr) (hb : Below wr.heap.size wr w') : ABox bw W v w' :=
  ⟨(hb.cell (p := ⟨bw, 0, none⟩) h.lt).trans h.c0, (hb.cell (p := ⟨bw, 1, none⟩) h.lt).trans h.c1, Nat.lt_of_lt_of_le h.lt hb.size⟩
theorem ABox.first (wr : World) (W : Int) (v : Value) : ABox wr.heap.size W v (wr.alloc (.cells #[.int .i64 W, v] 24)) := ⟨by simp, by simp, by simp⟩

set_option maxHeartbeats 1600000 in
theorem calChecks_fine (W n k : Int) (p : Option Addr) (N c : Nat) (w : World) (hN : N ≤ 100)
    (HP : Hid (∀ wx, Below w.heap.size w wx → Calls Try.prog 10 #[.agg #[.int .i64 W, .slice p N c]] wx fun e w' => e = .returned (.tuple #[.int .i64 0, .int .i64 0]) ∧ Below wx.heap.size wx w'))
    (HR : Hid (∀ wx, Below w.heap.size w wx → Calls Try.prog 11 #[.agg #[.int .i64 W, .slice p N c]] wx fun e w' => e = .returned (.tuple #[.int .i64 0, .int .i64 0]) ∧ Below wx.heap.size wx w')) :
    Calls Try.prog 3 #[.agg #[.int .i64 W, .slice p N c], .int .i64 n, .int .i64 k] w fun e w' => e = .returned (.bool true) ∧ Below w.heap.size w w' := by
  have HB0 : Hid (Below w.heap.size w (w.alloc (.cells #[.int .i64 W, .slice p N c] 24))) := (Below.refl w.heap.size w).alloc (Nat.le_refl _) _
  have hl' : ¬ (100 : Int) < N := by omega
  go_enter Try.func3, Try.ntmps3
  go_wp2_with fail
  refine (HP.out _ HB0.out).mono ?_
  rintro e w1 ⟨rfl, hb1⟩
  have X1 := hideS (CBoxP.first hb1)
  clear hb1
  obtain ⟨c0, c1⟩ := X1.out.cells
  go_wp2_with fail
  refine (HR.out _ X1.out.below).mono ?_
  rintro e w2 ⟨rfl, hb2⟩
  have X2 := hideS (X1.out.step hb2)
  clear hb2 X1 c0 c1
  go_wp2_with (go_at_call 9; refine (awake6 _).mono ?_; rintro e w5 ⟨rfl, hb5⟩)
  go_ret
  exact ⟨rfl, (X2.out.step hb5).below⟩

set_option maxRecDepth 10000 in
set_option maxHeartbeats 6400000 in
theorem calChecks_bad (W n k A B : Int) (p : Option Addr) (N c : Nat) (w : World) (hN : N ≤ 100) (hA : A ≠ 0)
    (HP : Hid (∀ wx, Below w.heap.size w wx → Calls Try.prog 10 #[.agg #[.int .i64 W, .slice p N c]] wx fun e w' => e = .returned (.tuple #[.int .i64 A, .int .i64 B]) ∧ Below wx.heap.size wx w'))
    (HR : Hid (∀ wx, Below w.heap.size w wx → Calls Try.prog 11 #[.agg #[.int .i64 W, .slice p N c]] wx fun e w' => e = .returned (.tuple #[.int .i64 A, .int .i64 B]) ∧ Below wx.heap.size wx w'))
    (H : Hid (BadH w W n k p c N A)) :
    Calls Try.prog 3 #[.agg #[.int .i64 W, .slice p N c], .int .i64 n, .int .i64 k] w fun e w' => e = .returned (.bool true) ∧ Below w.heap.size w w' := by
  have HB0 : Hid (Below w.heap.size w (w.alloc (.cells #[.int .i64 W, .slice p N c] 24))) := (Below.refl w.heap.size w).alloc (Nat.le_refl _) _
  have HSm : Hid (∀ wx, Calls Try.prog 18 #[.agg #[.int .i64 0, .slice none 0 0], .agg #[.int .i64 0, .slice none 0 0]] wx fun e w' => e = .returned (.bool true) ∧ Below wx.heap.size wx w') := fun wx => by
    have := refSame_any 0 0 none none 0 0 0 0 0 0 [] [] wx (nil_src wx) (nil_src wx) (by simp) (by simp)
    rw [decide_eq_true ⟨rfl, rfl⟩] at this
    exact this
  have hl' : ¬ (100 : Int) < N := by omega
  have hA' : (A == 0) = false := beq_eq_false_iff_ne.2 hA
  clear hA
  go_enter Try.func3, Try.ntmps3
  go_wp2_with fail
  refine (HP.out _ HB0.out).mono ?_
  rintro e w1 ⟨rfl, hb1⟩
  have X1 := hideS (CBoxP.first hb1)
  clear hb1
  obtain ⟨c0, c1⟩ := X1.out.cells
  go_wp2_with fail
  refine (HR.out _ X1.out.below).mono ?_
  rintro e w2 ⟨rfl, hb2⟩
  have X2 := hideS (X1.out.step hb2)
  clear hb2 X1 c0 c1
  obtain ⟨c0, c1⟩ := X2.out.cells
  go_wp2_with fail
  refine (H.out.opn _ X2.out.below).mono ?_
  rintro e w3 ⟨rfl, hb3⟩
  have X3 := hideS (X2.out.step hb3)
  clear hb3 X2 c0 c1
  obtain ⟨c0, c1⟩ := X3.out.cells
  go_wp2_with fail
  refine (H.out.hol _ X3.out.below).mono ?_
  rintro e w4 ⟨rfl, hb4⟩
  have X4 := hideS (X3.out.step hb4)
  clear hb4 X3 c0 c1
  obtain ⟨c0, c1⟩ := X4.out.cells
  go_wp2_with fail
  refine (H.out.adj _ X4.out.below).mono ?_
  rintro e w5 ⟨rfl, hb5⟩
  have X5 := hideS (X4.out.step hb5)
  clear hb5 X4 c0 c1
  obtain ⟨c0, c1⟩ := X5.out.cells
  go_wp2_with fail
  refine (H.out.add _ X5.out.below).mono ?_
  rintro e w6 ⟨rfl, hb6⟩
  have X6 := hideS (X5.out.step hb6)
  clear hb6 X5 c0 c1
  obtain ⟨c0, c1⟩ := X6.out.cells
  go_wp2_with fail
  refine (H.out.cnt _ X6.out.below).mono ?_
  rintro e w7 ⟨rfl, hb7⟩
  have X7 := hideS (X6.out.step hb7)
  clear hb7 X6 c0 c1
  obtain ⟨c0, c1⟩ := X7.out.cells
  go_wp2_with fail
  refine (H.out.jna _ X7.out.below).mono ?_
  rintro e w8 ⟨rfl, hb8⟩
  have X8 := hideS (X7.out.step hb8)
  clear hb8 X7 c0 c1
  have XA := hideS (X8.out.step ((Below.refl _ w8).alloc (Nat.le_refl _) (.cells #[.int .i64 0, .slice none 0 0] 24)))
  have FA := hideS (ABox.first w8 0 (.slice none 0 0))
  obtain ⟨c0, c1⟩ := XA.out.cells
  go_wp2_with fail
  refine (H.out.jnb _ XA.out.below).mono ?_
  rintro e w9 ⟨rfl, hb9⟩
  have X9 := hideS (XA.out.step hb9)
  have FA9 := hideS (FA.out.step hb9)
  clear hb9 XA FA X8 c0 c1
  generalize w8.heap.size = ba at *
  have XB := hideS (X9.out.step ((Below.refl _ w9).alloc (Nat.le_refl _) (.cells #[.int .i64 0, .slice none 0 0] 24)))
  have FAB := hideS (FA9.out.step ((Below.refl _ w9).alloc (Nat.le_refl _) (.cells #[.int .i64 0, .slice none 0 0] 24)))
  have FB := hideS (ABox.first w9 0 (.slice none 0 0))
  have g0 := FAB.out.c0
  have g1 := FAB.out.c1
  go_wp2_with fail
  refine (HSm.out _).mono ?_
  rintro e w10 ⟨rfl, hb10⟩
  have X10 := hideS (XB.out.step hb10)
  have FB10 := hideS (FB.out.step hb10)
  clear hb10 XB FB g0 g1 X9 FA9 FAB
  generalize w9.heap.size = bb at *
  have g0 := FB10.out.c0
  have g1 := FB10.out.c1
  go_wp2_with fail
  refine (HSm.out _).mono ?_
  rintro e w11 ⟨rfl, hb11⟩
  have X11 := hideS (X10.out.step hb11)
  clear hb11 g0 g1 X10 FB10
  go_wp2_with (go_at_call 9; refine (awake6 _).mono ?_; rintro e w12 ⟨rfl, hb12⟩)
  go_ret
  exact ⟨rfl, (X11.out.step hb12).below⟩

theorem calChecks_walk (W n k : Int) (p : Option Addr) (b off c : Nat) (rs : List Rul) (w : World) (hs : RSrc w p b off rs) (hl : rs.length ≤ 9223372036854775807) (_ : I64 W) (_ : ∀ r ∈ rs, RulI r) (_ : I64 n) (_ : I64 k) :
    Calls Try.prog 3 #[.agg #[.int .i64 W, .slice p rs.length c], .int .i64 n, .int .i64 k] w fun e w' => e = .returned (.bool true) ∧ Below w.heap.size w w' := by
  by_cases h100 : rs.length ≤ 100
  · obtain ⟨A, B, h⟩ := chk_ex W rs
    have HP : ∀ wx, Below w.heap.size w wx → Calls Try.prog 10 #[.agg #[.int .i64 W, .slice p rs.length c]] wx fun e w' => e = .returned (.tuple #[.int .i64 A, .int .i64 B]) ∧ Below wx.heap.size wx w' := fun wx hb => check_any W p b off c rs A B wx h (hs.below hb) hl
    have HR : ∀ wx, Below w.heap.size w wx → Calls Try.prog 11 #[.agg #[.int .i64 W, .slice p rs.length c]] wx fun e w' => e = .returned (.tuple #[.int .i64 A, .int .i64 B]) ∧ Below wx.heap.size wx w' := fun wx hb => refCheck_any W p b off c rs A B wx h (hs.below hb) (by omega)
    by_cases hA : A = 0
    · subst hA
      obtain ⟨_, rfl⟩ := chk_ok h
      exact calChecks_fine W n k p rs.length c w h100 HP HR
    · exact calChecks_bad W n k A B p rs.length c w h100 hA HP HR (badH_of w W n k p b off c rs A B h hA hs (by omega))
  · exact calChecks_great W n k p rs.length c w (by omega) hl
end Go.Proofs.Ytglkhoekpafddaa
