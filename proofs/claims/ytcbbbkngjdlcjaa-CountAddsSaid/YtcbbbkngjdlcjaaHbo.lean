/- The document's Fraction turned round. The document's Fraction at any days. -/
import Derived.Test.YtcbbbkngjdlcjaaHbn
namespace Go.Proofs.Ytcbbbkngjdlcjaa
open Go.RowKit

set_option maxHeartbeats 1600000 in
theorem refFrac_turn (kind W a b P Q : Int) (v : Value) (w : World) (hk : 1 ≤ kind) (hk' : kind ≤ 5) (ha : isDayP a) (hb : isDayP b) (hab : b < a) (hP : -1000000000 ≤ P) (hP' : P ≤ 1000000000)
    (HF : Hid (∀ wx, Below w.heap.size w wx → Calls Try.prog 11 #[.int .i64 kind, .agg #[.int .i64 W, v], .int .i64 b, .int .i64 a] wx fun e w' => e = .returned (.tuple #[.agg #[.int .i64 P, .int .i64 Q], .int .i64 0]) ∧ Below wx.heap.size wx w')) :
    Calls Try.prog 11 #[.int .i64 kind, .agg #[.int .i64 W, v], .int .i64 a, .int .i64 b] w fun e w' => e = .returned (.tuple #[.agg #[.int .i64 (-P), .int .i64 Q], .int .i64 0]) ∧ Below w.heap.size w w' := by
  obtain ⟨a0, a1⟩ := ha
  obtain ⟨b0, b1⟩ := hb
  have HB0 := hideS (PBox.first w W v)
  go_enter Try.func11, Try.ntmps11
  go_wp2_with fail
  refine (HF.out _ HB0.out.bl).mono ?_
  rintro e w1 ⟨rfl, hb1⟩
  have HB1 := hideS (HB0.out.step hb1)
  clear hb1
  have HB2 := hideS (HB1.out.step ((Below.refl w1.heap.size w1).alloc (Nat.le_refl _) (.cells #[.int .i64 P, .int .i64 Q] 31)))
  obtain ⟨_, _, d0, d1, f0, f1, _, _⟩ := HB2.out
  go_wp2_with fail
  obtain ⟨x0, x1⟩ := put2P (x := .int .i64 (-P)) (y := .int .i64 Q) d0 d1
  exact bodyPost_ret (v := .tuple #[.agg #[.int .i64 (-P), .int .i64 Q], .int .i64 0]) (by simp [results, Try.results11, go_sem, x0, x1]) rfl ⟨rfl, put2P_below HB2.out.bl⟩

set_option maxHeartbeats 1600000 in
theorem refFrac_turn6 (W a b P Q : Int) (p : Option Addr) (bb off c : Nat) (rs : List Rul) (w : World) (h : OkC W rs) (hs : RSrc w p bb off rs) (ha : isDayP a) (hb : isDayP b) (hab : b < a) (hP : -1000000000 ≤ P) (hP' : P ≤ 1000000000)
    (HF : Hid (∀ wx, Below w.heap.size w wx → Calls Try.prog 11 #[.int .i64 6, .agg #[.int .i64 W, .slice p rs.length c], .int .i64 b, .int .i64 a] wx fun e w' => e = .returned (.tuple #[.agg #[.int .i64 P, .int .i64 Q], .int .i64 0]) ∧ Below wx.heap.size wx w')) :
    Calls Try.prog 11 #[.int .i64 6, .agg #[.int .i64 W, .slice p rs.length c], .int .i64 a, .int .i64 b] w fun e w' => e = .returned (.tuple #[.agg #[.int .i64 (-P), .int .i64 Q], .int .i64 0]) ∧ Below w.heap.size w w' := by
  have HC : Hid (∀ wx, Below w.heap.size w wx → Calls Try.prog 16 #[.agg #[.int .i64 W, .slice p rs.length c]] wx fun e w' => e = .returned (.tuple #[.int .i64 0, .int .i64 0]) ∧ Below wx.heap.size wx w') := fun wx hbx => refCheck_any W p bb off c rs 0 0 wx (.ok h) (hs.below hbx) (by have := h.len; omega)
  obtain ⟨a0, a1⟩ := ha
  obtain ⟨b0, b1⟩ := hb
  clear h hs
  generalize rs.length = N at *
  have HB0 := hideS (PBox.first w W (.slice p N c))
  go_enter Try.func11, Try.ntmps11
  go_wp2_with fail
  refine (HC.out _ HB0.out.bl).mono ?_
  rintro e w0 ⟨rfl, hb0⟩
  have HB0' := hideS (HB0.out.step hb0)
  clear hb0
  have g0 := HB0'.out.a0
  have g1 := HB0'.out.a1
  go_wp2_with fail
  refine (HF.out _ HB0'.out.bl).mono ?_
  rintro e w1 ⟨rfl, hb1⟩
  have HB1 := hideS (HB0'.out.step hb1)
  clear hb1 g0 g1
  have HB2 := hideS (HB1.out.step ((Below.refl w1.heap.size w1).alloc (Nat.le_refl _) (.cells #[.int .i64 P, .int .i64 Q] 31)))
  obtain ⟨_, _, d0, d1, f0, f1, _, _⟩ := HB2.out
  go_wp2_with fail
  obtain ⟨x0, x1⟩ := put2P (x := .int .i64 (-P)) (y := .int .i64 Q) d0 d1
  exact bodyPost_ret (v := .tuple #[.agg #[.int .i64 (-P), .int .i64 Q], .int .i64 0]) (by simp [results, Try.results11, go_sem, x0, x1]) rfl ⟨rfl, put2P_below HB2.out.bl⟩
end Go.Proofs.Ytcbbbkngjdlcjaa
namespace Go.Proofs.Ytcbbbkngjdlcjaa
open Go.RowKit

theorem fracP_bd (op : Int → Bool) {kind a b : Int} (ha : isDayP a) (hb : isDayP b) (hab : a ≤ b) : -1000000000 ≤ fracP op kind a b ∧ fracP op kind a b ≤ 1000000000 := by
  obtain ⟨ya, ma, da, hA⟩ := isD_ex ha.1 ha.2
  obtain ⟨yb, mb, db, hB⟩ := isD_ex hb.1 hb.2
  obtain ⟨e1, e2, e3⟩ := date_of hA
  obtain ⟨f1, f2, f3⟩ := date_of hB
  unfold fracP
  rw [e1, e2, e3, f1, f2, f3]
  have ra := hA.year
  have rb := hB.year
  obtain ⟨⟨a1, a2, a3, a4, a5, a6⟩, _⟩ := hA
  obtain ⟨⟨b1, b2, b3, b4, b5, b6⟩, _⟩ := hB
  have la := len_hi ya ma
  have lb := len_hi yb mb
  have c := cnt_le op a (b - a).toNat
  have xa := acc_bd (y := ya) (n := a) a1 (by omega) ra.1 (by omega)
  have xb := acc_bd (y := yb) (n := b) b1 (by omega) rb.1 (by omega)
  obtain ⟨a7, a8⟩ := ha
  obtain ⟨b7, b8⟩ := hb
  split
  · omega
  · split
    · omega
    · split
      · omega
      · unfold thirI
        split <;> omega
/-- The fraction's upper number, of any day to any day. -/
noncomputable def fracS (op : Int → Bool) (kind a b : Int) : Int := if b < a then -fracP op kind b a else fracP op kind a b
theorem fracS_bd (op : Int → Bool) {kind a b : Int} (ha : isDayP a) (hb : isDayP b) : -1000000000 ≤ fracS op kind a b ∧ fracS op kind a b ≤ 1000000000 := by
  unfold fracS
  split
  · have := fracP_bd op (kind := kind) hb ha (by omega); omega
  · exact fracP_bd op ha hb (by omega)
theorem fracP_op (op op' : Int → Bool) {kind a b : Int} (h : kind ≠ 6) : fracP op kind a b = fracP op' kind a b := by
  unfold fracP
  rw [if_neg h, if_neg h]
theorem refFrac_le (op : Int → Bool) (kind W a b : Int) (v : Value) (w : World) (hk : 1 ≤ kind) (hk' : kind ≤ 5) (ha : isDayP a) (hb : isDayP b) (hab : a ≤ b) :
    Calls Try.prog 11 #[.int .i64 kind, .agg #[.int .i64 W, v], .int .i64 a, .int .i64 b] w fun e w' => e = .returned (.tuple #[.agg #[.int .i64 (fracP op kind a b), .int .i64 (fracQ kind)], .int .i64 0]) ∧ Below w.heap.size w w' := by
  by_cases h : kind = 1 ∨ kind = 2
  · have := refFrac_plain kind W a b v w h ha hb hab
    unfold fracP
    rw [if_pos h]
    exact this
  · exact refFrac_call kind W a b v w (by omega) ha hb hab op
theorem refFrac_ok (op : Int → Bool) (kind W a b : Int) (v : Value) (w : World) (hk : 1 ≤ kind) (hk' : kind ≤ 5) (ha : isDayP a) (hb : isDayP b) :
    Calls Try.prog 11 #[.int .i64 kind, .agg #[.int .i64 W, v], .int .i64 a, .int .i64 b] w fun e w' => e = .returned (.tuple #[.agg #[.int .i64 (fracS op kind a b), .int .i64 (fracQ kind)], .int .i64 0]) ∧ Below w.heap.size w w' := by
  unfold fracS
  by_cases h : b < a
  · rw [if_pos h]
    have hP := fracP_bd op (kind := kind) hb ha (by omega)
    exact refFrac_turn kind W a b _ _ v w hk hk' ha hb h hP.1 hP.2 (fun wx _ => refFrac_le op kind W b a v wx hk hk' hb ha (by omega))
  · rw [if_neg h]
    exact refFrac_le op kind W a b v w hk hk' ha hb (by omega)
theorem refFrac_six (W a b : Int) (p : Option Addr) (bb off c : Nat) (rs : List Rul) (w : World) (h : OkC W rs) (hs : RSrc w p bb off rs) (ha : isDayP a) (hb : isDayP b) :
    Calls Try.prog 11 #[.int .i64 6, .agg #[.int .i64 W, .slice p rs.length c], .int .i64 a, .int .i64 b] w fun e w' => e = .returned (.tuple #[.agg #[.int .i64 (fracS (opB W rs) 6 a b), .int .i64 (fracQ 6)], .int .i64 0]) ∧ Below w.heap.size w w' := by
  unfold fracS
  by_cases hl : b < a
  · rw [if_pos hl]
    have hP := fracP_bd (opB W rs) (kind := 6) hb ha (by omega)
    exact refFrac_turn6 W a b _ _ p bb off c rs w h hs ha hb hl hP.1 hP.2 (fun wx hbx => refFrac_open W b a p bb off c rs wx h (hs.below hbx) hb ha (by omega))
  · rw [if_neg hl]
    exact refFrac_open W a b p bb off c rs w h hs ha hb (by omega)
end Go.Proofs.Ytcbbbkngjdlcjaa
