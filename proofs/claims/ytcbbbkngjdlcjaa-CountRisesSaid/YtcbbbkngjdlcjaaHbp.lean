/- What day counts keep: they add up, turn round and rise. No word of the program. The document's Year where it refuses. -/
import Derived.Test.YtcbbbkngjdlcjaaHbo
namespace Go.Proofs.Ytcbbbkngjdlcjaa
open Go.RowKit

theorem IsD.lex {a b ya ma da yb mb db : Int} (hA : IsD a ya ma da) (hB : IsD b yb mb db) (h : a ≤ b) : ya < yb ∨ (ya = yb ∧ (ma < mb ∨ (ma = mb ∧ da ≤ db))) := by
  have ra := hA.year
  have rb := hB.year
  have sa := hA.month
  have sb := hB.month
  obtain ⟨⟨a1, a2, a3, a4, a5, a6⟩, ea⟩ := hA
  obtain ⟨⟨b1, b2, b3, b4, b5, b6⟩, eb⟩ := hB
  rcases Int.lt_trichotomy ya yb with hy | hy | hy
  · exact .inl hy
  · subst hy
    refine .inr ⟨rfl, ?_⟩
    rcases Int.lt_trichotomy ma mb with hm | hm | hm
    · exact .inl hm
    · subst hm
      refine .inr ⟨rfl, ?_⟩
      unfold dayI at ea eb
      omega
    · have := cum_mono (y := ya) (m := mb + 1) (k := ma) (by omega) (by omega) (by omega)
      omega
  · have := ny_mono (y := yb + 1) (z := ya) (by omega) (by omega)
    omega
theorem acc_mono {a b ya ma da yb mb db : Int} (hA : IsD a ya ma da) (hB : IsD b yb mb db) (h : a ≤ b) : accI ya a ≤ accI yb b := by
  have hl := hA.lex hB h
  have ra := hA.year
  have rb := hB.year
  have a1 := hA.1.1
  have b1 := hB.1.1
  by_cases hy : ya = yb
  · subst hy
    unfold accI
    rcases lp_cases ya with e | e <;> rw [e] <;> omega
  · have hlt : ya < yb := by omega
    have h1 : accI ya a ≤ accI ya (nyI (ya + 1)) := by
      unfold accI
      rcases lp_cases ya with e | e <;> rw [e] <;> omega
    rw [acc_turn a1] at h1
    have h2 : accI (ya + 1) (nyI (ya + 1)) = 133590 * (ya + 1 - 1900) := by unfold accI; omega
    have h3 : 133590 * (yb - 1900) ≤ accI yb b := by
      unfold accI
      rcases lp_cases yb with e | e <;> rw [e] <;> omega
    omega
/-- What the days up to n count. -/
noncomputable def accD (n : Int) : Int := accI (yrI n) n
theorem accD_mono {a b : Int} (ha : isDayP a) (hb : isDayP b) (h : a ≤ b) : accD a ≤ accD b := by
  obtain ⟨ya, ma, da, hA⟩ := isD_ex ha.1 ha.2
  obtain ⟨yb, mb, db, hB⟩ := isD_ex hb.1 hb.2
  unfold accD
  rw [yr_eq hA, yr_eq hB]
  exact acc_mono hA hB h
theorem cnt_add (op : Int → Bool) (a : Int) (m n : Nat) : cntN op a (m + n) = cntN op a m + cntN op (a + m) n := by
  induction n with
  | zero => rfl
  | succ n ih =>
    show cntN op a (m + n) + (if op (a + ((m + n : Nat) : Int)) then 1 else 0) = _
    rw [ih, show a + ((m + n : Nat) : Int) = a + (m : Int) + (n : Int) by omega]
    show _ = cntN op a m + (cntN op (a + m) n + (if op (a + m + n) then 1 else 0))
    omega
/-- The open days from 0 up to n. -/
def cntD (op : Int → Bool) (n : Int) : Int := (cntN op 0 n.toNat : Nat)
theorem cntD_sub (op : Int → Bool) {a b : Int} (ha : 0 ≤ a) (h : a ≤ b) : ((cntN op a (b - a).toNat : Nat) : Int) = cntD op b - cntD op a := by
  have := cnt_add op 0 a.toNat (b - a).toNat
  rw [show a.toNat + (b - a).toNat = b.toNat by omega, show (0 : Int) + (a.toNat : Int) = a by omega] at this
  unfold cntD
  omega
theorem cntD_mono (op : Int → Bool) {a b : Int} (ha : 0 ≤ a) (h : a ≤ b) : cntD op a ≤ cntD op b := by
  have := cntD_sub op ha h
  omega
/-- What the days up to n count, of the kinds that add up. -/
noncomputable def potI (op : Int → Bool) (kind n : Int) : Int := if kind = 1 ∨ kind = 2 then n else if kind = 3 then accD n else cntD op n
theorem fracS_pot (op : Int → Bool) {kind a b : Int} (hk : kind = 1 ∨ kind = 2 ∨ kind = 3 ∨ kind = 6) (ha : isDayP a) (hb : isDayP b) : fracS op kind a b = potI op kind b - potI op kind a := by
  have h6 : ∀ x y, isDayP x → x ≤ y → ((cntN op x (y - x).toNat : Nat) : Int) = cntD op y - cntD op x := fun x y hx hy => cntD_sub op hx.1 hy
  unfold fracS fracP potI
  by_cases hl : b < a
  · rw [if_pos hl]
    have := h6 b a hb (by omega)
    rcases hk with rfl | rfl | rfl | rfl
    · simp; omega
    · simp; omega
    · simp [accD]; omega
    · simp [this]; omega
  · rw [if_neg hl]
    have := h6 a b ha (by omega)
    rcases hk with rfl | rfl | rfl | rfl
    · simp
    · simp
    · simp [accD]
    · simp [this]
theorem fracS_add (op : Int → Bool) {kind a b c : Int} (hk : kind = 1 ∨ kind = 2 ∨ kind = 3 ∨ kind = 6) (ha : isDayP a) (hb : isDayP b) (hc : isDayP c) : fracS op kind a b + fracS op kind b c = fracS op kind a c := by
  rw [fracS_pot op hk ha hb, fracS_pot op hk hb hc, fracS_pot op hk ha hc]
  omega
theorem thir_self (kind y m d : Int) (h : d ≤ 31) : thirI kind y m d y m d = 0 := by
  unfold thirI
  split <;> omega
theorem fracP_self (op : Int → Bool) {kind a : Int} (ha : isDayP a) : fracP op kind a a = 0 := by
  obtain ⟨y, m, d, hA⟩ := isD_ex ha.1 ha.2
  obtain ⟨e1, e2, e3⟩ := date_of hA
  have hd := hA.1.2.2.2.2.2
  have := len_hi y m
  unfold fracP
  rw [e1, e2, e3, thir_self _ _ _ _ (by omega)]
  split
  · omega
  · split
    · omega
    · split
      · rw [show (a - a).toNat = 0 by omega]; rfl
      · rfl
theorem fracS_turn (op : Int → Bool) {kind a b : Int} (ha : isDayP a) : fracS op kind b a = -fracS op kind a b := by
  unfold fracS
  rcases Int.lt_trichotomy a b with h | h | h
  · rw [if_pos h, if_neg (by omega)]
  · subst h
    rw [if_neg (by omega), fracP_self op ha]
    rfl
  · rw [if_neg (by omega), if_pos h]
    omega
theorem thir_rise {kind : Int} {x y z yx mx dx yy my dy yz mz dz : Int} (hX : IsD x yx mx dx) (hY : IsD y yy my dy) (hZ : IsD z yz mz dz) (hyz : y ≤ z) :
    thirI kind yx mx dx yy my dy ≤ thirI kind yx mx dx yz mz dz ∧ thirI kind yz mz dz yx mx dx ≤ thirI kind yy my dy yx mx dx := by
  have hl := hY.lex hZ hyz
  obtain ⟨⟨a1, a2, a3, a4, a5, a6⟩, _⟩ := hX
  obtain ⟨⟨b1, b2, b3, b4, b5, b6⟩, _⟩ := hY
  obtain ⟨⟨c1, c2, c3, c4, c5, c6⟩, _⟩ := hZ
  have l1 := len_hi yx mx
  have l2 := len_hi yy my
  have l3 := len_hi yz mz
  unfold thirI
  constructor
  · split <;> omega
  · split <;> split <;> omega
theorem thir_pos {kind : Int} {a b ya ma da yb mb db : Int} (hA : IsD a ya ma da) (hB : IsD b yb mb db) (h : a ≤ b) : 0 ≤ thirI kind ya ma da yb mb db := by
  have := (thir_rise (kind := kind) hA hA hB h).1
  have hd := hA.1.2.2.2.2.2
  have := len_hi ya ma
  rw [thir_self _ _ _ _ (by omega)] at *
  omega
theorem fracP_pos (op : Int → Bool) {kind a b : Int} (ha : isDayP a) (hb : isDayP b) (h : a ≤ b) : 0 ≤ fracP op kind a b := by
  obtain ⟨ya, ma, da, hA⟩ := isD_ex ha.1 ha.2
  obtain ⟨yb, mb, db, hB⟩ := isD_ex hb.1 hb.2
  obtain ⟨e1, e2, e3⟩ := date_of hA
  obtain ⟨f1, f2, f3⟩ := date_of hB
  have h1 := thir_pos (kind := kind) hA hB h
  have h2 := acc_mono hA hB h
  unfold fracP
  rw [e1, e2, e3, f1, f2, f3]
  split
  · omega
  · split
    · omega
    · split
      · omega
      · exact h1
theorem fracS_rise (op : Int → Bool) {kind x y z : Int} (hk : 1 ≤ kind) (hk' : kind ≤ 6) (hx : isDayP x) (hy : isDayP y) (hz : isDayP z) (h : y ≤ z) : fracS op kind x y ≤ fracS op kind x z := by
  by_cases h4 : kind = 4 ∨ kind = 5
  · obtain ⟨yx, mx, dx, hX⟩ := isD_ex hx.1 hx.2
    obtain ⟨yy, my, dy, hY⟩ := isD_ex hy.1 hy.2
    obtain ⟨yz, mz, dz, hZ⟩ := isD_ex hz.1 hz.2
    have hr := thir_rise (kind := kind) hX hY hZ h
    by_cases h1 : y < x
    · by_cases h2 : z < x
      · unfold fracS fracP
        obtain ⟨e1, e2, e3⟩ := date_of hX
        obtain ⟨f1, f2, f3⟩ := date_of hY
        obtain ⟨g1, g2, g3⟩ := date_of hZ
        rw [if_pos h1, if_pos h2, if_neg (by omega), if_neg (by omega), if_neg (by omega), if_neg (by omega), if_neg (by omega), if_neg (by omega), e1, e2, e3, f1, f2, f3, g1, g2, g3]
        omega
      · have p1 := fracP_pos op (kind := kind) hy hx (by omega)
        have p2 := fracP_pos op (kind := kind) hx hz (by omega)
        unfold fracS
        rw [if_pos h1, if_neg h2]
        omega
    · unfold fracS fracP
      obtain ⟨e1, e2, e3⟩ := date_of hX
      obtain ⟨f1, f2, f3⟩ := date_of hY
      obtain ⟨g1, g2, g3⟩ := date_of hZ
      rw [if_neg h1, if_neg (by omega), if_neg (by omega), if_neg (by omega), if_neg (by omega), if_neg (by omega), if_neg (by omega), if_neg (by omega), e1, e2, e3, f1, f2, f3, g1, g2, g3]
      exact hr.1
  · have hk6 : kind = 1 ∨ kind = 2 ∨ kind = 3 ∨ kind = 6 := by omega
    rw [fracS_pot op hk6 hx hy, fracS_pot op hk6 hx hz]
    have : potI op kind y ≤ potI op kind z := by
      unfold potI
      split
      · exact h
      · split
        · exact accD_mono hy hz h
        · exact cntD_mono op hy.1 h
    omega
end Go.Proofs.Ytcbbbkngjdlcjaa
namespace Go.Proofs.Ytcbbbkngjdlcjaa
open Go.RowKit

/-- The box of Year's fraction. -/
theorem year_box {w w1 : World} {P Q : Int} {t : TypeId} (h : Below w.heap.size w w1) :
    (w1.alloc (.cells #[.int .i64 P, .int .i64 Q] t)).cell? ⟨w1.heap.size, 0, none⟩ = some (.int .i64 P) ∧ (w1.alloc (.cells #[.int .i64 P, .int .i64 Q] t)).cell? ⟨w1.heap.size, 1, none⟩ = some (.int .i64 Q) ∧ Below w.heap.size w (w1.alloc (.cells #[.int .i64 P, .int .i64 Q] t)) :=
  ⟨by simp, by simp, h.alloc h.size _⟩

set_option maxHeartbeats 1600000 in
theorem refYear_bad (kind W a b A : Int) (v : Value) (w : World) (hA : 0 < A) (hA' : A ≤ 100)
    (HF : Hid (∀ wx, Below w.heap.size w wx → Calls Try.prog 11 #[.int .i64 kind, .agg #[.int .i64 W, v], .int .i64 a, .int .i64 b] wx fun e w' => e = .returned (.tuple #[.agg #[.int .i64 0, .int .i64 0], .int .i64 A]) ∧ Below wx.heap.size wx w')) :
    Calls Try.prog 13 #[.int .i64 kind, .agg #[.int .i64 W, v], .int .i64 a, .int .i64 b] w fun e w' => e = .returned (.tuple #[.int .u64 0, .int .i64 A]) ∧ Below w.heap.size w w' := by
  have HB0 : Hid (Below w.heap.size w (w.alloc (.cells #[.int .i64 W, v] 24))) := (Below.refl w.heap.size w).alloc (Nat.le_refl _) _
  go_enter Try.func13, Try.ntmps13
  go_wp2_with fail
  refine (HF.out _ HB0.out).mono ?_
  rintro e w1 ⟨rfl, hb1⟩
  have HB1 := hideS (HB0.out.trans (hb1.mono (by simp)))
  clear hb1
  have HX := hideS (year_box (P := 0) (Q := 0) (t := 31) HB1.out)
  go_wp2_with fail
  exact bodyPost_ret (v := .tuple #[.int .u64 0, .int .i64 A]) (by simp [results, Try.results13, go_sem]) rfl ⟨rfl, HX.out.2.2⟩
end Go.Proofs.Ytcbbbkngjdlcjaa
