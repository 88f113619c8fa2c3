/- Day counts as whole numbers: no word of the program. The contracts of the document's thirty and actual. -/
import Derived.Test.YtcbbbkngjdlcjaaHay
import Derived.Test.YtcbbbkngjdlcjaaHba
import Derived.Test.YtcbbbkngjdlcjaaHbd
namespace Go.Proofs.Ytcbbbkngjdlcjaa
open Go.RowKit

/-- The days of a book of 30 and 360. -/
def thirI (kind ya ma da yb mb db : Int) : Int := 360 * (yb - ya) + 30 * (mb - ma) + (if kind = 5 ∨ min da 30 = 30 then min db 30 else db) - min da 30
/-- What the days of 1900 on up to n count, n in the year y (or its end): 366 each, 365 in leap years. -/
def accI (y n : Int) : Int := 133590 * (y - 1900) + (n - nyI y) * (366 - lpI y)
theorem acc_turn {y : Int} (h : 1900 ≤ y) : accI y (nyI (y + 1)) = accI (y + 1) (nyI (y + 1)) := by
  unfold accI
  rw [ny_succ h]
  rcases lp_cases y with e | e <;> rw [e] <;> simp <;> omega
theorem acc_add (y a n : Int) : accI y (a + n) = accI y a + (366 - lpI y) * n := by
  unfold accI
  rw [show a + n - nyI y = (a - nyI y) + n by omega, Int.add_mul, Int.mul_comm n]
  omega
theorem acc_bd {y n : Int} (h : 1900 ≤ y) (h' : y ≤ 2200) (h0 : nyI y ≤ n) (h1 : n ≤ nyI (y + 1)) : 0 ≤ accI y n ∧ accI y n ≤ 50000000 := by
  unfold accI
  rw [ny_succ h] at h1
  rcases lp_cases y with e | e <;> rw [e] at h1 ⊢ <;> constructor <;> omega
end Go.Proofs.Ytcbbbkngjdlcjaa
namespace Go.Proofs.Ytcbbbkngjdlcjaa
open Go.RowKit

set_option maxHeartbeats 1600000 in
theorem refActual_any (a b ya ma da yb mb db : Int) (w : World) (hA : IsD a ya ma da) (hB : IsD b yb mb db) (hab : a ≤ b) :
    Calls Try.prog 17 #[.int .i64 a, .int .i64 b] w fun e w' => e = .returned (.int .i64 (accI yb b - accI ya a)) ∧ Below w.heap.size w w' := by
  have HC := hideS (fun wx => refCiv_ok a ya ma da wx hA)
  unfold dateV at HC
  have hya := hA.year
  have hyb := hB.year
  have hra := hA.range
  have hrb := hB.range
  obtain ⟨y0, y1, _, _, _, _⟩ := hA.1
  obtain ⟨z0, z1, _, _, _, _⟩ := hB.1
  obtain ⟨R, hR⟩ : ∃ R, accI yb b - accI ya a = R := ⟨_, rfl⟩
  rw [hR]
  have HR := hideS hR
  clear hR hA hB
  have HYA := hideS hya
  have HYB := hideS hyb
  obtain ⟨a0, a1⟩ := hra
  obtain ⟨b0, b1⟩ := hrb
  clear hya hyb
  go_enter Try.func17, Try.ntmps17
  go_wp2_with (go_at_call 30; refine (HC.out _).mono ?_; rintro e w1 ⟨rfl, hb1⟩; have HB1 := hideS (hb1.trans (((Below.refl _ w1).alloc (Nat.le_refl _) (.cells #[.int .i64 ya, .int .i64 ma, .int .i64 da] 63)).mono hb1.size)); clear hb1)
  go_loop [0, 7, 8, 9, 10, 11] (fun x o y _ _ _ => ∃ (X O Y : Int), ya ≤ Y ∧ Y ≤ yb + 1 ∧ a ≤ X ∧ X ≤ b ∧ 0 ≤ O ∧ O ≤ 50000000 ∧ x = .int .i64 X ∧ o = .int .i64 O ∧ y = .int .i64 Y ∧ Hid ((nyI Y ≤ X ∧ Y ≤ yb ∧ X < nyI (Y + 1) ∧ O = accI Y X - accI ya a) ∨ (X = b ∧ O = R))) (fun _ _ y _ _ _ => (yb + 1 - intOf y).toNat)
  case atStart =>
    have hy := HYA.out
    have hz := HYB.out
    have hle : ya ≤ yb := by
      by_cases e : ya ≤ yb
      · exact e
      · have := ny_mono (y := yb + 1) (z := ya) (by omega) (by omega)
        omega
    exact ⟨a, 0, ya, by omega, by omega, by omega, by omega, by omega, by omega, rfl, rfl, rfl, Or.inl ⟨hy.1, hle, hy.2, by omega⟩⟩
  case round =>
    obtain ⟨X, O, Y, hY0, hY1, hX0, hX1, hO0, hO1, rfl, rfl, rfl, HI⟩ := hrel
    by_cases hlt : X < b
    · obtain ⟨e1, e2, e3, e4⟩ := (show nyI Y ≤ X ∧ Y ≤ yb ∧ X < nyI (Y + 1) ∧ O = accI Y X - accI ya a by
        rcases HI.out with e | ⟨e, _⟩
        · exact e
        · omega)
      have hY9 : Y ≤ 2199 := by omega
      obtain ⟨E, hE⟩ : ∃ E, nyI (Y + 1) = E := ⟨_, rfl⟩
      have HOf : Hid (∃ P F, (∀ wx, Calls Try.prog 31 #[.int .i64 (Y + 1), .int .i64 1, .int .i64 1] wx fun e w' => e = .returned (.tuple #[.int .i64 P, .int .i64 F]) ∧ w' = wx) ∧ ((F = 0 ∧ P = E) ∨ (F = 50 ∧ E = 109573))) := by
        by_cases h9 : Y = 2199
        · refine ⟨0, 50, fun wx => refOf_bad _ _ _ wx (fun o => by have := o.2.1; omega), Or.inr ⟨rfl, ?_⟩⟩
          rw [← hE, h9]; exact ny_last
        · have ho : okD (Y + 1) 1 1 := ⟨by omega, by omega, by omega, by omega, by omega, by have := len_lo (Y + 1) 1; omega⟩
          refine ⟨_, _, fun wx => refOf_ok _ _ _ wx ho, Or.inl ⟨rfl, ?_⟩⟩
          unfold dayI
          rw [cum_first, ← hE]; omega
      obtain ⟨P, F, hof, hPF⟩ := HOf.out
      have HOf' := hideS hof
      clear hof HOf
      obtain ⟨n, hn, hnE⟩ : ∃ n, min E b - X = n ∧ ((E ≤ b ∧ n = E - X) ∨ (b < E ∧ n = b - X)) := ⟨_, rfl, by omega⟩
      have hn0 : 0 < n := by rw [hE] at e3; omega
      have HAc : Hid (O + (366 - lpI Y) * n = accI Y (X + n) - accI ya a) := by
        show _ = _
        rw [acc_add, e4]; omega
      have hle2 : X + n ≤ nyI (Y + 1) := by rw [hE]; omega
      have HBd : Hid (accI Y (X + n) ≤ 50000000 ∧ 0 ≤ accI ya a) := by
        have q1 := (acc_bd (y := Y) (n := X + n) (by omega) (by omega) (by omega) hle2).2
        have q2 := (acc_bd (y := ya) (n := a) (by omega) (by omega) HYA.out.1 (by have := HYA.out.2; omega)).1
        exact ⟨q1, q2⟩
      have HNx : Hid ((nyI (Y + 1) ≤ X + n ∧ Y + 1 ≤ yb ∧ X + n < nyI (Y + 1 + 1) ∧ O + (366 - lpI Y) * n = accI (Y + 1) (X + n) - accI ya a) ∨ (X + n = b ∧ O + (366 - lpI Y) * n = R)) := by
        rcases hnE with ⟨q1, q2⟩ | ⟨q1, q2⟩
        · have hXE : X + n = nyI (Y + 1) := by rw [hE]; omega
          have hYb : Y + 1 ≤ yb := by
            by_cases e : Y + 1 ≤ yb
            · exact e
            · have := HYB.out.2
              rw [show yb = Y by omega, hE] at this
              omega
          refine Or.inl ⟨by omega, hYb, ?_, ?_⟩
          · rw [hXE, ny_succ (y := Y + 1) (by omega)]
            have := lp_lo (Y + 1)
            omega
          · rw [HAc.out, hXE, acc_turn (by omega)]
        · have hYb : Y = yb := by
            by_cases e : Y = yb
            · exact e
            · have := ny_mono (y := Y + 1) (z := yb) (by omega) (by omega)
              have := HYB.out.1
              rw [hE] at *
              omega
          refine Or.inr ⟨by omega, ?_⟩
          rw [HAc.out, ← HR.out, show X + n = b by omega, hYb]
      rw [hE] at e3
      clear hE hle2 e4 HI e1
      rcases hPF with ⟨rfl, rfl⟩ | ⟨rfl, rfl⟩
      all_goals
        cases hl : leapB Y
        all_goals
          first | rw [lp_false hl, show (366 - 0 : Int) = 366 from rfl] at HAc HNx | rw [lp_true hl, show (366 - 1 : Int) = 365 from rfl] at HAc HNx
          rcases hnE with ⟨q1, q2⟩ | ⟨q1, q2⟩
          all_goals try (exfalso; omega)
          all_goals
            clear hn
            subst q2
            go_wp2_with (first | (go_at_call 31; refine (HOf'.out _).mono ?_; rintro e w2 ⟨rfl, rfl⟩) | (go_at_call 32; refine (refLeap_any _ _).mono ?_; rintro e w2 ⟨rfl, rfl⟩))
            go_round
            case rel => exact ⟨_, _, Y + 1, by omega, by omega, by omega, by omega, by omega, by have := HAc.out; have := HBd.out.1; have := HBd.out.2; omega, rfl, rfl, rfl, HNx⟩
            case measure => simp [intOf]; omega
    · have HE : Hid (O = R) := by
        rcases HI.out with ⟨e1, e2, e3, e4⟩ | ⟨_, e⟩
        · have hXb : X = b := by omega
          have hYb : Y = yb := by
            have h1 := HYB.out
            rcases Int.lt_trichotomy Y yb with q | q | q
            · have := ny_mono (y := Y + 1) (z := yb) (by omega) (by omega)
              omega
            · exact q
            · omega
          show _ = _
          rw [e4, ← HR.out, hXb, hYb]
        · exact e
      clear HI
      rcases (show Y ≤ 2199 ∨ ¬ Y ≤ 2199 by omega) with h9 | h9
      all_goals
        go_wp2_with fail
        go_ret
        obtain rfl := HE.out
        exact ⟨rfl, HB1.out⟩

theorem retI {k : IntKind} {a b : Int} (h : a = b) : Ending.returned (.int k a) = .returned (.int k b) := by rw [h]
theorem two_dates {w w1 w2 : World} {y m d : Int} {t : TypeId} (h1 : Below w.heap.size w w1) (h2 : Below (w1.alloc (.cells #[.int .i64 y, .int .i64 m, .int .i64 d] t)).heap.size (w1.alloc (.cells #[.int .i64 y, .int .i64 m, .int .i64 d] t)) w2) :
    (∀ o, (w2.alloc o).cell? ⟨w1.heap.size, 0, none⟩ = some (.int .i64 y)) ∧ (∀ o, (w2.alloc o).cell? ⟨w1.heap.size, 1, none⟩ = some (.int .i64 m)) ∧ (∀ o, (w2.alloc o).cell? ⟨w1.heap.size, 2, none⟩ = some (.int .i64 d)) ∧ Hid (∀ o, Below w.heap.size w (w2.alloc o)) := by
  have hz : w1.heap.size < w2.heap.size := by have := h2.size; simp at this; omega
  have hb : Below w.heap.size w w2 := h1.trans ((((Below.refl _ w1).alloc (Nat.le_refl _) _).trans (h2.mono (by simp))).mono h1.size)
  refine ⟨fun o => ?_, fun o => ?_, fun o => ?_, fun o => hb.alloc hb.size o⟩
  · rw [old_cell o ⟨w1.heap.size, 0, none⟩ hz, h2.cell (p := ⟨w1.heap.size, 0, none⟩) (by simp)]; simp
  · rw [old_cell o ⟨w1.heap.size, 1, none⟩ hz, h2.cell (p := ⟨w1.heap.size, 1, none⟩) (by simp)]; simp
  · rw [old_cell o ⟨w1.heap.size, 2, none⟩ hz, h2.cell (p := ⟨w1.heap.size, 2, none⟩) (by simp)]; simp

set_option maxHeartbeats 1600000 in
theorem refThirty_any (kind a b ya ma da yb mb db : Int) (w : World) (hA : IsD a ya ma da) (hB : IsD b yb mb db) :
    Calls Try.prog 19 #[.int .i64 kind, .int .i64 a, .int .i64 b] w fun e w' => e = .returned (.int .i64 (thirI kind ya ma da yb mb db)) ∧ Below w.heap.size w w' := by
  have HC := hideS (fun wx => refCiv_ok a ya ma da wx hA)
  have HC2 := hideS (fun wx => refCiv_ok b yb mb db wx hB)
  unfold dateV at HC HC2
  obtain ⟨y0, y1, m0, m1, d0, d1⟩ := hA.1
  obtain ⟨y2, y3, m2, m3, d2, d3⟩ := hB.1
  have d4 := len_hi ya ma
  have d5 := len_hi yb mb
  have d6 : da ≤ 31 := by omega
  have d7 : db ≤ 31 := by omega
  clear hA hB d1 d3 d4 d5
  obtain ⟨R, hR⟩ : ∃ R, thirI kind ya ma da yb mb db = R := ⟨_, rfl⟩
  rw [hR]
  have HR := hideS hR
  clear hR
  have hcase : ∃ d f, ((da ≤ 30 ∧ d = da) ∨ (30 < da ∧ d = 30)) ∧ (((kind = 5 ∨ (kind ≠ 5 ∧ d = 30)) ∧ ((db ≤ 30 ∧ f = db) ∨ (30 < db ∧ f = 30))) ∨ ((kind ≠ 5 ∧ d ≠ 30) ∧ f = db)) ∧ 360 * (yb - ya) + 30 * (mb - ma) + f - d = R := by
    have h1 := HR.out
    unfold thirI at h1
    refine ⟨min da 30, if kind = 5 ∨ min da 30 = 30 then min db 30 else db, by omega, ?_, h1⟩
    by_cases hk : kind = 5 ∨ min da 30 = 30
    · rw [if_pos hk]
      exact Or.inl ⟨by omega, by omega⟩
    · rw [if_neg hk]
      exact Or.inr ⟨by omega, rfl⟩
  obtain ⟨d, f, hd, hf, he⟩ := hcase
  have HE := hideS he
  clear he HR
  rcases hd with ⟨q1, rfl⟩ | ⟨q1, rfl⟩ <;> rcases hf with ⟨rfl | ⟨hk, hk2⟩, ⟨q2, rfl⟩ | ⟨q2, rfl⟩⟩ | ⟨⟨hk, hk2⟩, rfl⟩
  all_goals try (exfalso; omega)
  all_goals
    try (have hk5 : (kind == 5) = false := beq_eq_false_iff_ne.2 hk)
    try subst hk2
    go_enter Try.func19, Try.ntmps19
    go_wp2_with fail
    refine (HC.out _).mono ?_
    rintro e w1 ⟨rfl, hb1⟩
    have HB1 := hideS hb1
    clear hb1
    go_wp2_with fail
    refine (HC2.out _).mono ?_
    rintro e w2 ⟨rfl, hb2⟩
    obtain ⟨c0, c1, c2, HB2⟩ := two_dates (t := 63) HB1.out hb2
    clear hb2
    go_wp2_with fail
    go_ret
    refine ⟨retI (Eq.trans ?_ HE.out), HB2.out _⟩
    omega
end Go.Proofs.Ytcbbbkngjdlcjaa
