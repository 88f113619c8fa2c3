/- What the program's almanac marks: no word of the program. -/
import Derived.Test.YtglkhoekpafddaaCOpen
namespace Go.Proofs.Ytglkhoekpafddaa
open Go.RowKit

open Classical in
/-- A rule's day in a year ahead of the moving, HDay's among them. -/
noncomputable def givO (r : Rul) (y : Int) : Option Int := if r.kind = 4 then (if yrI r.day = y then some r.day else none) else baseO r y
/-- Does the rule's day of the year y fall on n? -/
noncomputable def mkB (W : Int) (r : Rul) (y n : Int) : Bool := (givO r y).map (fun g => mvI W g r.mv) == some n
/-- Of the first t years from Y - 1 on. -/
noncomputable def mkT (W : Int) (r : Rul) (Y n : Int) : Nat → Bool
  | 0 => false
  | t + 1 => mkT W r Y n t || mkB W r (Y - 1 + t) n
/-- Of the first k rules. -/
noncomputable def mkK (W : Int) (rs : List Rul) (Y n : Int) : Nat → Bool
  | 0 => false
  | k + 1 => mkK W rs Y n k || mkT W (rs.getD k rul0) Y n 3

theorem mv_zero {W n : Int} (h0 : 0 ≤ W) (h1 : W ≤ 126) : mvI W n 0 = n := by
  obtain ⟨u, d, hu⟩ := ups_ex h0 h1 n
  rw [mv_eq hu]; unfold movI; rw [if_pos (Or.inl rfl)]
theorem mkT_hit {W : Int} {r : Rul} {Y n : Int} (h0 : 0 ≤ W) (h1 : W ≤ 126) (hf : fitB r = true) (hy : yrI n = Y) : mkT W r Y n 3 = hitB W r n Y := by
  show (((false || mkB W r (Y - 1 + ((0 : Nat) : Int)) n) || mkB W r (Y - 1 + ((1 : Nat) : Int)) n) || mkB W r (Y - 1 + ((2 : Nat) : Int)) n) = _
  rw [show Y - 1 + ((0 : Nat) : Int) = Y - 1 by omega, show Y - 1 + ((1 : Nat) : Int) = Y by omega, show Y - 1 + ((2 : Nat) : Int) = Y + 1 by omega, Bool.false_or]
  unfold hitB
  by_cases k4 : r.kind = 4
  · rw [if_pos k4]
    have hmv : r.mv = 0 := by
      rcases fit_cases hf with ⟨_, _, _, a⟩ | ⟨_, ⟨a, _⟩ | ⟨a, _⟩ | ⟨a, _⟩⟩
      · exact a
      · omega
      · omega
      · omega
    have key : ∀ y, mkB W r y n = (decide (yrI r.day = y) && (r.day == n)) := fun y => by
      unfold mkB givO
      rw [if_pos k4]
      by_cases e : yrI r.day = y
      · rw [if_pos e, Option.map_some, hmv, mv_zero h0 h1, decide_eq_true e, Bool.true_and]; rfl
      · rw [if_neg e, decide_eq_false e, Bool.false_and]; rfl
    rw [key, key, key]
    by_cases e : r.day = n
    · rw [e, hy, decide_eq_true (rfl : Y = Y)]
      simp
    · rw [beq_eq_false_iff_ne.2 e]
      simp
  · rw [if_neg k4]
    have key : ∀ y, mkB W r y n = (dayO W r y == some n) := fun y => by
      unfold mkB givO dayO
      rw [if_neg k4]
    rw [key, key, key]
theorem mkK_hol {W : Int} {rs : List Rul} {Y n : Int} (h0 : 0 ≤ W) (h1 : W ≤ 126) (hf : ∀ r ∈ rs, fitB r = true) (hy : yrI n = Y) : mkK W rs Y n rs.length = holB W rs n Y := by
  have key : ∀ k, k ≤ rs.length → mkK W rs Y n k = (rs.take k).any fun r => hitB W r n Y := fun k => by
    induction k with
    | zero => intro _; rfl
    | succ k ih =>
      intro hk
      have e : rs[k]? = some (rs.getD k rul0) := by simp [List.getD, List.getElem?_eq_getElem (show k < rs.length by omega)]
      show (mkK W rs Y n k || mkT W (rs.getD k rul0) Y n 3) = _
      rw [ih (by omega), mkT_hit h0 h1 (hf _ (getD_mem (by omega))) hy, List.take_add_one, e, List.any_append]
      simp
  rw [key _ (Nat.le_refl _), List.take_length]
  rfl
/-- A year's days. -/
theorem yr_of {n Y : Int} (y0 : 1900 ≤ Y) (y1 : Y ≤ 2199) (h : nyI Y ≤ n) (h' : n < nyI (Y + 1)) : yrI n = Y := by
  have a := ny_mono (y := 1900) (z := Y) (by omega) y0
  have b := ny_mono (y := Y + 1) (z := 2200) (by omega) (by omega)
  rw [ny_first] at a
  rw [ny_last] at b
  obtain ⟨y, m, d, hd⟩ := isD_ex (n := n) (by omega) (by omega)
  rw [yr_eq hd]
  have hy := hd.year
  have h0 := hd.1.1
  rcases Int.lt_trichotomy y Y with e | e | e
  · have := ny_mono (y := y + 1) (z := Y) (by omega) (by omega); omega
  · exact e
  · have := ny_mono (y := Y + 1) (z := y) (by omega) (by omega); omega
theorem yr_in {n : Int} (hn : isDayP n) : 1900 ≤ yrI n ∧ yrI n ≤ 2199 ∧ nyI (yrI n) ≤ n ∧ n < nyI (yrI n + 1) := by
  obtain ⟨y, m, d, hd⟩ := isD_ex hn.1 hn.2
  rw [yr_eq hd]
  exact ⟨hd.1.1, hd.1.2.1, hd.year⟩
theorem first_day (Y : Int) : dayI Y 1 1 = nyI Y := by unfold dayI; rw [cum_first]; omega
theorem last_day {Y : Int} (h : 1900 ≤ Y) : dayI Y 12 31 = nyI (Y + 1) - 1 := by
  have e := cum_succ (y := Y) (m := 12) (by omega) (by omega)
  rw [show (12 + 1 : Int) = 13 by decide, cum_last] at e
  have e2 : lenI Y 12 = 31 := by unfold lenI; rw [if_neg (by decide), if_neg (by decide)]
  rw [ny_succ h]
  unfold dayI
  omega
theorem okD_first1 {Y : Int} (y0 : 1900 ≤ Y) (y1 : Y ≤ 2199) : okD Y 1 1 := ⟨y0, y1, by decide, by decide, by decide, by have := len_lo Y 1; omega⟩
theorem okD_last {Y : Int} (y0 : 1900 ≤ Y) (y1 : Y ≤ 2199) : okD Y 12 31 := ⟨y0, y1, by decide, by decide, by decide, by unfold lenI; rw [if_neg (by decide), if_neg (by decide)]; decide⟩
/-- One mark more. -/
theorem mkB_none {W : Int} {r : Rul} {y n : Int} (h : givO r y = none) : mkB W r y n = false := by unfold mkB; rw [h]; rfl
theorem mkB_some {W : Int} {r : Rul} {y n g : Int} (h : givO r y = some g) : mkB W r y n = decide (mvI W g r.mv = n) := by
  unfold mkB; rw [h, Option.map_some]
  by_cases e : mvI W g r.mv = n
  · rw [e, decide_eq_true rfl]; simp
  · rw [decide_eq_false e]; simpa using e
end Go.Proofs.Ytglkhoekpafddaa
