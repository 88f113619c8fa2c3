/- The contract of Year: one rounding of a quotient of whole numbers. The years of fractions are compared as the fractions are. -/
import Derived.Test.YtcbbbkngjdlcjaaHbt
namespace Go.Proofs.Ytcbbbkngjdlcjaa
open Go.RowKit

theorem floatOf_fi7 (m : Int) : floatOfInt .f64 m = fi m := by
  show Ieee.double.nearest (decide (m < 0)) m.natAbs 0 = _
  unfold fi joinN
  by_cases h0 : m = 0
  · subst h0; rfl
  · rw [if_neg h0, nearest_eq _ (by omega)]
    by_cases hn : m < 0
    · simp only [hn, decide_true, if_true]; rw [word_true]
    · simp only [hn, decide_false, if_false]; rw [word_false]
theorem aV_fi7 {m : Int} {K : Nat} (hK : K = 1074) (h1 : -1000000000 ≤ m) (h2 : m ≤ 1000000000) : NumB (fi m) ∧ aV (fi m) = m.natAbs * 2 ^ K ∧ sB (fi m) = decide (m < 0) ∧ fi m < 18446744073709551616 := by
  obtain ⟨a, b, c, d⟩ := vI_fi (m := m) hK (by omega) (by omega)
  refine ⟨b, ?_, c, d⟩
  unfold aV
  have hn : (vI (fi m)).natAbs = V (fi m % 9223372036854775808) := by
    unfold vI
    split <;> simp
  rw [← hn, a, Int.natAbs_mul, Int.natAbs_natCast]
/-- The bits of Year. -/
def yW (P Q : Int) : Nat := if P = 0 then 0 else wrd (decide (P < 0)) (yearR P.natAbs Q.natAbs)
theorem quo_year {P Q : Int} (h1 : -1000000000 ≤ P) (h2 : P ≤ 1000000000) (h3 : 0 < Q) (h4 : Q ≤ 1000000000) : floatBits .quo .f64 (fi P) (fi Q) = some (yW P Q) := by
  obtain ⟨K, hK⟩ : ∃ K : Nat, K = 1074 := ⟨_, rfl⟩
  obtain ⟨a1, a2, a3, _⟩ := aV_fi7 (m := P) hK h1 h2
  obtain ⟨b1, b2, b3, _⟩ := aV_fi7 (m := Q) hK (by omega) h4
  have hs : decide (Q < 0) = false := decide_eq_false (by omega)
  have hp := Nat.two_pow_pos K
  unfold yW
  by_cases h0 : P = 0
  · rw [if_pos h0]
    subst h0
    have hq : fi Q % 9223372036854775808 ≠ 0 := fun e => by
      unfold aV at b2
      rw [e, V_zero] at b2
      have := Nat.mul_pos (show 0 < Q.natAbs by omega) hp
      omega
    rw [show fi 0 = 0 from fi_zero, quo_zero (by rfl) b1 hq, b3, hs]
    rfl
  · rw [if_neg h0]
    subst hK
    rw [quo_whole a1 b1 a2 b2 (by omega) (by omega) (by omega), a3, b3, hs]
    simp
theorem yW_val {P Q : Int} (hQ : 0 < Q) (hQ' : Q ≤ 1000000000) : yearB P Q = (yW P Q : Int) := by
  unfold yW
  by_cases h0 : P = 0
  · rw [if_pos h0]; unfold yearB; rw [if_pos h0]; rfl
  · rw [if_neg h0, year_val h0 hQ hQ']
    unfold sbit wrd
    by_cases hn : P < 0
    · simp [hn]
    · simp [hn]
theorem yW_lt {P Q : Int} (h1 : -1000000000 ≤ P) (h2 : P ≤ 1000000000) : yW P Q < 18446744073709551616 := by
  unfold yW
  have := yearR_fin (X := P.natAbs) (Y := Q.natAbs) (by omega)
  split
  · decide
  · unfold wrd; split <;> omega

set_option maxHeartbeats 800000 in
theorem yearP_ok (kind W a b P Q : Int) (v : Value) (w : World) (h1 : -1000000000 ≤ P) (h2 : P ≤ 1000000000) (h3 : 0 < Q) (h4 : Q ≤ 1000000000) (H : Hid (FracH w kind W a b P Q 0 v)) :
    Calls Try.prog 12 #[.int .i64 kind, .agg #[.int .i64 W, v], .int .i64 a, .int .i64 b] w fun e w' => e = .returned (.tuple #[.float .f64 (yW P Q), .int .i64 0]) ∧ Below w.heap.size w w' := by
  have HB := hideS (cbox_first w W v)
  have f1 := floatOf_fi7 P
  have f2 := floatOf_fi7 Q
  have hq := quo_year h1 h2 h3 h4
  unfold FracH at H
  clear h1 h2 h3 h4
  generalize yW P Q = R at *
  generalize fi P = X at *
  generalize fi Q = Y at *
  have hr := fun wx => run_float_arith (P := Try.prog) wx .quo 34 .f64 X Y R hq
  clear hq
  go_enter Try.func12, Try.ntmps12
  go_wp2_with (go_at_call 10; refine (H.out _ HB.out).mono ?_; rintro e w1 ⟨rfl, hb⟩)
  go_ret2
  exact ⟨rfl, HB.out.trans (hb.mono HB.out.size)⟩
set_option maxHeartbeats 800000 in
theorem yearP_err (kind W a b E : Int) (v : Value) (w : World) (hE : E ≠ 0) (H : Hid (FracH w kind W a b 0 0 E v)) :
    Calls Try.prog 12 #[.int .i64 kind, .agg #[.int .i64 W, v], .int .i64 a, .int .i64 b] w fun e w' => e = .returned (.tuple #[.float .f64 0, .int .i64 E]) ∧ Below w.heap.size w w' := by
  have HB := hideS (cbox_first w W v)
  have hE' : (E != 0) = true := bne_iff_ne.2 hE
  unfold FracH at H
  clear hE
  go_enter Try.func12, Try.ntmps12
  go_wp2_with (go_at_call 10; refine (H.out _ HB.out).mono ?_; rintro e w1 ⟨rfl, hb⟩)
  go_ret2
  exact ⟨rfl, HB.out.trans (hb.mono HB.out.size)⟩
/-- What Year tells. -/
def YearH (w : World) (kind W a b : Int) (R : Nat) (E : Int) (v : Value) : Prop := ∀ wx, Below w.heap.size w wx → Calls Try.prog 12 #[.int .i64 kind, .agg #[.int .i64 W, v], .int .i64 a, .int .i64 b] wx fun e w' => e = .returned (.tuple #[.float .f64 R, .int .i64 E]) ∧ Below wx.heap.size wx w'
theorem FracH.later {w wx : World} {kind W a b P Q E : Int} {v : Value} (h : FracH w kind W a b P Q E v) (hb : Below w.heap.size w wx) : FracH wx kind W a b P Q E v := fun wy hy => h wy (hb.trans (hy.mono hb.size))
theorem fracQ_bd {kind : Int} : 0 < fracQ kind ∧ fracQ kind ≤ 1000000000 := by
  unfold fracQ
  split
  · decide
  · split
    · decide
    · split <;> decide
theorem FracR.bd {kind W a b P Q E : Int} {rs : List Rul} (h : FracR kind W a b rs P Q E) : -1000000000 ≤ P ∧ P ≤ 1000000000 ∧ (E = 0 → 0 < Q ∧ Q ≤ 1000000000) ∧ (E ≠ 0 → P = 0 ∧ Q = 0) := by
  cases h with
  | fine hk hk' ha hb h6 =>
    have := fracS_bd (opB W rs) (kind := kind) ha hb
    exact ⟨this.1, this.2, fun _ => fracQ_bd, fun c => absurd rfl c⟩
  | kind h => exact ⟨by decide, by decide, fun c => absurd c (by decide), fun _ => ⟨rfl, rfl⟩⟩
  | cal A B h6 h hA => exact ⟨by decide, by decide, fun c => absurd c hA, fun _ => ⟨rfl, rfl⟩⟩
  | day hk hk' h h6 => exact ⟨by decide, by decide, fun c => absurd c (by decide), fun _ => ⟨rfl, rfl⟩⟩
theorem FracR.year {kind W a b P Q E : Int} {rs : List Rul} (h : FracR kind W a b rs P Q E) (p : Option Addr) (bb off c : Nat) (w : World) (hs : RSrc w p bb off rs) (hl : rs.length ≤ 9223372036854775807) : YearH w kind W a b (yW P Q) E (.slice p rs.length c) := fun wx hbx => by
  have hp := (h.prog p bb off c w hs hl).later hbx
  obtain ⟨b1, b2, b3, b4⟩ := h.bd
  by_cases hE : E = 0
  · subst hE
    exact yearP_ok kind W a b P Q _ wx b1 b2 (b3 rfl).1 (b3 rfl).2 hp
  · obtain ⟨rfl, rfl⟩ := b4 hE
    exact yearP_err kind W a b E _ wx hE hp
/-- What the document's Year tells. -/
def RefYH (w : World) (kind W a b R E : Int) (v : Value) : Prop := ∀ wx, Below w.heap.size w wx → Calls Try.prog 13 #[.int .i64 kind, .agg #[.int .i64 W, v], .int .i64 a, .int .i64 b] wx fun e w' => e = .returned (.tuple #[.int .u64 R, .int .i64 E]) ∧ Below wx.heap.size wx w'
theorem FracR.err {kind W a b P Q E : Int} {rs : List Rul} (h : FracR kind W a b rs P Q E) : 0 ≤ E ∧ E ≤ 100 := by
  cases h with
  | fine hk hk' ha hb h6 => exact ⟨by decide, by decide⟩
  | kind h => exact ⟨by decide, by decide⟩
  | cal A B h6 h hA => cases h <;> exact ⟨by decide, by decide⟩
  | day hk hk' h h6 => exact ⟨by decide, by decide⟩
theorem FracR.refY {kind W a b P Q E : Int} {rs : List Rul} (h : FracR kind W a b rs P Q E) (p : Option Addr) (bb off c : Nat) (w : World) (hs : RSrc w p bb off rs) (hl : rs.length ≤ 1000000) : RefYH w kind W a b (yW P Q : Int) E (.slice p rs.length c) := fun wx hbx => by
  have hp : RefFH wx kind W a b P Q E (.slice p rs.length c) := h.ref p bb off c wx (hs.below hbx) hl
  obtain ⟨b1, b2, b3, b4⟩ := h.bd
  obtain ⟨e1, e2⟩ := h.err
  by_cases hE : E = 0
  · subst hE
    rw [← yW_val (b3 rfl).1 (b3 rfl).2]
    exact refYear_ok kind W a b P Q _ wx b1 b2 (b3 rfl).1 (b3 rfl).2 hp
  · obtain ⟨rfl, rfl⟩ := b4 hE
    exact refYear_bad kind W a b E _ wx (by omega) e2 hp
end Go.Proofs.Ytcbbbkngjdlcjaa
namespace Go.Proofs.Ytcbbbkngjdlcjaa
open Go.RowKit

/-- The rank of a year. -/
def yRk (P Q : Int) : Int := if P = 0 then 0 else if P < 0 then -(yearR P.natAbs Q.natAbs : Int) else (yearR P.natAbs Q.natAbs : Int)
theorem rank_wrd (s : Bool) {r : Nat} (h : r < 9218868437227405312) : U64 (wrd s r : Nat) ∧ nanB (wrd s r : Nat) = false ∧ rankI (wrd s r : Nat) = if s then -(r : Int) else (r : Int) := by
  have hn : nanB (wrd s r : Nat) = false := by
    unfold nanB szI wrd
    rw [decide_eq_false_iff_not]
    cases s <;> simp <;> omega
  refine ⟨by unfold U64 wrd; cases s <;> simp <;> omega, hn, ?_⟩
  unfold rankI
  rw [hn, if_neg (by decide)]
  unfold sgB szI wrd
  cases s
  · have : ¬ (9223372036854775808 : Int) ≤ (r : Int) := by omega
    simp [this]
    omega
  · simp
    omega
theorem yW_rank {P : Int} (Q : Int) (h1 : -1000000000 ≤ P) (h2 : P ≤ 1000000000) : U64 (yW P Q : Nat) ∧ nanB (yW P Q : Nat) = false ∧ rankI (yW P Q : Nat) = yRk P Q := by
  unfold yW yRk
  by_cases h0 : P = 0
  · rw [if_pos h0, if_pos h0]
    exact ⟨by unfold U64; decide, by decide, by decide⟩
  · rw [if_neg h0, if_neg h0]
    have hf := yearR_fin (X := P.natAbs) (Y := Q.natAbs) (by omega)
    obtain ⟨a, b, c⟩ := rank_wrd (decide (P < 0)) hf
    refine ⟨a, b, ?_⟩
    rw [c]
    by_cases hn : P < 0 <;> simp [hn]
theorem yRk_pos {P Q : Int} (h3 : 0 < Q) (h4 : Q ≤ 1000000000) : (0 < yRk P Q ↔ 0 < P) ∧ (yRk P Q < 0 ↔ P < 0) := by
  unfold yRk
  by_cases h0 : P = 0
  · rw [if_pos h0]; omega
  · rw [if_neg h0]
    have := yearR_pos (X := P.natAbs) (Y := Q.natAbs) (by omega) (by omega) (by omega)
    split <;> omega
theorem yRk_mono {P P' Q : Int} (h : P ≤ P') (h3 : 0 < Q) (h4 : Q ≤ 1000000000) : yRk P Q ≤ yRk P' Q := by
  have a := yRk_pos (P := P) h3 h4
  have b := yRk_pos (P := P') h3 h4
  by_cases hn : P' < 0
  · have := yearR_mono (X := P'.natAbs) (X' := P.natAbs) (Y := Q.natAbs) (by omega)
    unfold yRk
    rw [if_neg (by omega), if_pos (by omega), if_neg (by omega), if_pos hn]
    omega
  · by_cases hp : 0 < P
    · have := yearR_mono (X := P.natAbs) (X' := P'.natAbs) (Y := Q.natAbs) (by omega)
      unfold yRk
      rw [if_neg (by omega), if_neg (by omega), if_neg (by omega), if_neg (by omega)]
      omega
    · omega
theorem yRk_neg (P Q : Int) : yRk (-P) Q = -yRk P Q := by
  unfold yRk
  by_cases h0 : P = 0
  · rw [if_pos h0, if_pos (by omega)]; rfl
  · rw [if_neg h0, if_neg (by omega), Int.natAbs_neg]
    by_cases hn : P < 0
    · rw [if_pos hn, if_neg (by omega)]; omega
    · rw [if_neg hn, if_pos (by omega)]
theorem xor_low7 {c : Nat} (h : c < 9223372036854775808) : c ^^^ 9223372036854775808 = 9223372036854775808 + c := by
  rw [show (9223372036854775808 : Nat) = 2 ^ 63 from rfl] at *
  apply Nat.eq_of_testBit_eq
  intro i
  rw [Nat.testBit_xor, Nat.testBit_two_pow]
  by_cases h1 : i = 63
  · subst h1
    rw [Nat.testBit_two_pow_add_eq]
    simp
  · by_cases h2 : i < 63
    · have e : decide (63 = i) = false := by rw [decide_eq_false_iff_not]; omega
      rw [Nat.testBit_two_pow_add_gt h2, e, Bool.xor_false]
    · have h3 : c.testBit i = false := Nat.testBit_lt_two_pow (Nat.lt_of_lt_of_le h (Nat.pow_le_pow_right (by decide) (by omega)))
      have h4 : (2 ^ 63 + c).testBit i = false := Nat.testBit_lt_two_pow (Nat.lt_of_lt_of_le (show 2 ^ 63 + c < 2 ^ 64 by omega) (Nat.pow_le_pow_right (by decide) (by omega)))
      have e : decide (63 = i) = false := by rw [decide_eq_false_iff_not]; omega
      rw [h3, h4, e]; rfl
theorem negF_rank {b : Nat} (h : U64 (b : Nat)) (hn : nanB (b : Nat) = false) : U64 (Op.negFloat .f64 b : Nat) ∧ nanB (Op.negFloat .f64 b : Nat) = false ∧ rankI (Op.negFloat .f64 b : Nat) = -rankI (b : Nat) := by
  have hb : b < 18446744073709551616 := by have := h.2; omega
  have e : Op.negFloat .f64 b = if b < 9223372036854775808 then 9223372036854775808 + b else b - 9223372036854775808 := by
    show b ^^^ 9223372036854775808 = _
    by_cases h1 : b < 9223372036854775808
    · rw [if_pos h1, xor_low7 h1]
    · rw [if_neg h1]
      obtain ⟨c, rfl⟩ : ∃ c, b = 9223372036854775808 + c := ⟨b - 9223372036854775808, by omega⟩
      rw [← xor_low7 (c := c) (by omega), Nat.xor_assoc, Nat.xor_self, Nat.xor_zero]
      have := xor_low7 (c := c) (by omega)
      omega
  have hm : (Op.negFloat .f64 b) % 9223372036854775808 = b % 9223372036854775808 := by rw [e]; split <;> omega
  have hlt : Op.negFloat .f64 b < 18446744073709551616 := by rw [e]; split <;> omega
  have hn' : nanB (Op.negFloat .f64 b : Nat) = false := by
    unfold nanB szI at hn ⊢
    rw [decide_eq_false_iff_not] at hn ⊢
    omega
  refine ⟨⟨by omega, by omega⟩, hn', ?_⟩
  unfold rankI
  simp only [hn', hn, Bool.false_eq_true, if_false]
  by_cases hc : b < 9223372036854775808
  · rw [if_pos hc] at e
    have s1 : sgB (Op.negFloat .f64 b : Nat) = true := decide_eq_true (by omega)
    have s2 : sgB (b : Nat) = false := decide_eq_false (by omega)
    rw [s1, s2]
    simp only [if_true, Bool.false_eq_true, if_false]
    unfold szI
    omega
  · rw [if_neg hc] at e
    have s1 : sgB (Op.negFloat .f64 b : Nat) = false := decide_eq_false (by omega)
    have s2 : sgB (b : Nat) = true := decide_eq_true (by omega)
    rw [s1, s2]
    simp only [if_true, Bool.false_eq_true, if_false]
    unfold szI
    omega
theorem compare_gt_iff7 (x y : Int) : (compare x y == .gt) = decide (y < x) := by
  show (compareOfLessAndEq x y == .gt) = _
  unfold compareOfLessAndEq
  by_cases a : x < y
  · have : ¬ y < x := by omega
    simp [a, this]
  · by_cases b : x = y
    · simp [b]
    · have : y < x := by omega
      simp [a, b, this]
theorem gt_rank7 {a b : Nat} (ha : U64 a) (hb : U64 b) (hna : nanB a = false) (hnb : nanB b = false) : (FloatKind.f64.format.order a b == some .gt) = decide (rankI b < rankI a) := by
  rw [order_rank (by have := ha.2; omega) (by have := hb.2; omega) hna hnb, ← compare_gt_iff7]; rfl
end Go.Proofs.Ytcbbbkngjdlcjaa
