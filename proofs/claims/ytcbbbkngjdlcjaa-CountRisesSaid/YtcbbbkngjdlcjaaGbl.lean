/- What day counts keep: they add up, turn round and rise. No word of the program. What the program's almanac marks: no word of the program. -/
import Derived.Test.YtcbbbkngjdlcjaaGan
import Derived.Test.YtcbbbkngjdlcjaaGae
namespace Go.Proofs.Ytcbbbkngjdlcjaa
open Go.RowKit

theorem IsD.lex {a b ya ma da yb mb db : Int} (hA : IsD a ya ma da) (hB : IsD b yb mb db) (h : a ≤ b) : ya < yb ∨ (ya = yb ∧ (ma < mb ∨ (ma = mb ∧ da ≤ db))) := by
  have ra := hA.year
  have rb := hB.year
  have sa := hA.month
  have sb := hB.month
  obtain ⟨⟨a1, a2, a3, a4, a5, a6⟩, ea⟩ := hA
  obtain ⟨⟨b1, b2, b3, b4, b5, b6⟩, eb⟩ := hB
  rcases Int.lt_trichotomy ya yb with hy | hy | hy
  · exact .inl hy
  · subst hy
    refine .inr ⟨rfl, ?_⟩
    rcases Int.lt_trichotomy ma mb with hm | hm | hm
    · exact .inl hm
    · subst hm
      refine .inr ⟨rfl, ?_⟩
      unfold dayI at ea eb
      omega
    · have := cum_mono (y := ya) (m := mb + 1) (k := ma) (by omega) (by omega) (by omega)
      omega
  · have := ny_mono (y := yb + 1) (z := ya) (by omega) (by omega)
    omega
theorem acc_mono {a b ya ma da yb mb db : Int} (hA : IsD a ya ma da) (hB : IsD b yb mb db) (h : a ≤ b) : accI ya a ≤ accI yb b := by
  have hl := hA.lex hB h
  have ra := hA.year
  have rb := hB.year
  have a1 := hA.1.1
  have b1 := hB.1.1
  by_cases hy : ya = yb
  · subst hy
    unfold accI
    rcases lp_cases ya with e | e <;> rw [e] <;> omega
  · have hlt : ya < yb := by omega
    have h1 : accI ya a ≤ accI ya (nyI (ya + 1)) := by
      unfold accI
      rcases lp_cases ya with e | e <;> rw [e] <;> omega
    rw [acc_turn a1] at h1
    have h2 : accI (ya + 1) (nyI (ya + 1)) = 133590 * (ya + 1 - 1900) := by unfold accI; omega
    have h3 : 133590 * (yb - 1900) ≤ accI yb b := by
      unfold accI
      rcases lp_cases yb with e | e <;> rw [e] <;> omega
    omega
/-- What the days up to n count. -/
noncomputable def accD (n : Int) : Int := accI (yrI n) n
theorem accD_mono {a b : Int} (ha : isDayP a) (hb : isDayP b) (h : a ≤ b) : accD a ≤ accD b := by
  obtain ⟨ya, ma, da, hA⟩ := isD_ex ha.1 ha.2
  obtain ⟨yb, mb, db, hB⟩ := isD_ex hb.1 hb.2
  unfold accD
  rw [yr_eq hA, yr_eq hB]
  exact acc_mono hA hB h
theorem cnt_add (op : Int → Bool) (a : Int) (m n : Nat) : cntN op a (m + n) = cntN op a m + cntN op (a + m) n := by
  induction n with
  | zero => rfl
  | succ n ih =>
    show cntN op a (m + n) + (if op (a + ((m + n : Nat) : Int)) then 1 else 0) = _
    rw [ih, show a + ((m + n : Nat) : Int) = a + (m : Int) + (n : Int) by omega]
    show _ = cntN op a m + (cntN op (a + m) n + (if op (a + m + n) then 1 else 0))
    omega
/-- The open days from 0 up to n. -/
def cntD (op : Int → Bool) (n : Int) : Int := (cntN op 0 n.toNat : Nat)
theorem cntD_sub (op : Int → Bool) {a b : Int} (ha : 0 ≤ a) (h : a ≤ b) : ((cntN op a (b - a).toNat : Nat) : Int) = cntD op b - cntD op a := by
  have := cnt_add op 0 a.toNat (b - a).toNat
  rw [show a.toNat + (b - a).toNat = b.toNat by omega, show (0 : Int) + (a.toNat : Int) = a by omega] at this
  unfold cntD
  omega
theorem cntD_mono (op : Int → Bool) {a b : Int} (ha : 0 ≤ a) (h : a ≤ b) : cntD op a ≤ cntD op b := by
  have := cntD_sub op ha h
  omega
/-- What the days up to n count, of the kinds that add up. -/
noncomputable def potI (op : Int → Bool) (kind n : Int) : Int := if kind = 1 ∨ kind = 2 then n else if kind = 3 then accD n else cntD op n
theorem fracS_pot (op : Int → Bool) {kind a b : Int} (hk : kind = 1 ∨ kind = 2 ∨ kind = 3 ∨ kind = 6) (ha : isDayP a) (hb : isDayP b) : fracS op kind a b = potI op kind b - potI op kind a := by
  have h6 : ∀ x y, isDayP x → x ≤ y → ((cntN op x (y - x).toNat : Nat) : Int) = cntD op y - cntD op x := fun x y hx hy => cntD_sub op hx.1 hy
  unfold fracS fracP potI
  by_cases hl : b < a
  · rw [if_pos hl]
    have := h6 b a hb (by omega)
    rcases hk with rfl | rfl | rfl | rfl
    · simp; omega
    · simp; omega
    · simp [accD]; omega
    · simp [this]; omega
  · rw [if_neg hl]
    have := h6 a b ha (by omega)
    rcases hk with rfl | rfl | rfl | rfl
    · simp
    · simp
    · simp [accD]
    · simp [this]
theorem fracS_add (op : Int → Bool) {kind a b c : Int} (hk : kind = 1 ∨ kind = 2 ∨ kind = 3 ∨ kind = 6) (ha : isDayP a) (hb : isDayP b) (hc : isDayP c) : fracS op kind a b + fracS op kind b c = fracS op kind a c := by
  rw [fracS_pot op hk ha hb, fracS_pot op hk hb hc, fracS_pot op hk ha hc]
  omega
theorem thir_self (kind y m d : Int) (h : d ≤ 31) : thirI kind y m d y m d = 0 := by
  unfold thirI
  split <;> omega
theorem fracP_self (op : Int → Bool) {kind a : Int} (ha : isDayP a) : fracP op kind a a = 0 := by
  obtain ⟨y, m, d, hA⟩ := isD_ex ha.1 ha.2
  obtain ⟨e1, e2, e3⟩ := date_of hA
  have hd := hA.1.2.2.2.2.2
  have := len_hi y m
  unfold fracP
  rw [e1, e2, e3, thir_self _ _ _ _ (by omega)]
  split
  · omega
  · split
    · omega
    · split
      · rw [show (a - a).toNat = 0 by omega]; rfl
      · rfl
theorem fracS_turn (op : Int → Bool) {kind a b : Int} (ha : isDayP a) : fracS op kind b a = -fracS op kind a b := by
  unfold fracS
  rcases Int.lt_trichotomy a b with h | h | h
  · rw [if_pos h, if_neg (by omega)]
  · subst h
    rw [if_neg (by omega), fracP_self op ha]
    rfl
  · rw [if_neg (by omega), if_pos h]
    omega
theorem thir_rise {kind : Int} {x y z yx mx dx yy my dy yz mz dz : Int} (hX : IsD x yx mx dx) (hY : IsD y yy my dy) (hZ : IsD z yz mz dz) (hyz : y ≤ z) :
    thirI kind yx mx dx yy my dy ≤ thirI kind yx mx dx yz mz dz ∧ thirI kind yz mz dz yx mx dx ≤ thirI kind yy my dy yx mx dx := by
  have hl := hY.lex hZ hyz
  obtain ⟨⟨a1, a2, a3, a4, a5, a6⟩, _⟩ := hX
  obtain ⟨⟨b1, b2, b3, b4, b5, b6⟩, _⟩ := hY
  obtain ⟨⟨c1, c2, c3, c4, c5, c6⟩, _⟩ := hZ
  have l1 := len_hi yx mx
  have l2 := len_hi yy my
  have l3 := len_hi yz mz
  unfold thirI
  constructor
  · split <;> omega
  · split <;> split <;> omega
theorem thir_pos {kind : Int} {a b ya ma da yb mb db : Int} (hA : IsD a ya ma da) (hB : IsD b yb mb db) (h : a ≤ b) : 0 ≤ thirI kind ya ma da yb mb db := by
  have := (thir_rise (kind := kind) hA hA hB h).1
  have hd := hA.1.2.2.2.2.2
  have := len_hi ya ma
  rw [thir_self _ _ _ _ (by omega)] at *
  omega
theorem fracP_pos (op : Int → Bool) {kind a b : Int} (ha : isDayP a) (hb : isDayP b) (h : a ≤ b) : 0 ≤ fracP op kind a b := by
  obtain ⟨ya, ma, da, hA⟩ := isD_ex ha.1 ha.2
  obtain ⟨yb, mb, db, hB⟩ := isD_ex hb.1 hb.2
  obtain ⟨e1, e2, e3⟩ := date_of hA
  obtain ⟨f1, f2, f3⟩ := date_of hB
  have h1 := thir_pos (kind := kind) hA hB h
  have h2 := acc_mono hA hB h
  unfold fracP
  rw [e1, e2, e3, f1, f2, f3]
  split
  · omega
  · split
    · omega
    · split
      · omega
      · exact h1
theorem fracS_rise (op : Int → Bool) {kind x y z : Int} (hk : 1 ≤ kind) (hk' : kind ≤ 6) (hx : isDayP x) (hy : isDayP y) (hz : isDayP z) (h : y ≤ z) : fracS op kind x y ≤ fracS op kind x z := by
  by_cases h4 : kind = 4 ∨ kind = 5
  · obtain ⟨yx, mx, dx, hX⟩ := isD_ex hx.1 hx.2
    obtain ⟨yy, my, dy, hY⟩ := isD_ex hy.1 hy.2
    obtain ⟨yz, mz, dz, hZ⟩ := isD_ex hz.1 hz.2
    have hr := thir_rise (kind := kind) hX hY hZ h
    by_cases h1 : y < x
    · by_cases h2 : z < x
      · unfold fracS fracP
        obtain ⟨e1, e2, e3⟩ := date_of hX
        obtain ⟨f1, f2, f3⟩ := date_of hY
        obtain ⟨g1, g2, g3⟩ := date_of hZ
        rw [if_pos h1, if_pos h2, if_neg (by omega), if_neg (by omega), if_neg (by omega), if_neg (by omega), if_neg (by omega), if_neg (by omega), e1, e2, e3, f1, f2, f3, g1, g2, g3]
        omega
      · have p1 := fracP_pos op (kind := kind) hy hx (by omega)
        have p2 := fracP_pos op (kind := kind) hx hz (by omega)
        unfold fracS
        rw [if_pos h1, if_neg h2]
        omega
    · unfold fracS fracP
      obtain ⟨e1, e2, e3⟩ := date_of hX
      obtain ⟨f1, f2, f3⟩ := date_of hY
      obtain ⟨g1, g2, g3⟩ := date_of hZ
      rw [if_neg h1, if_neg (by omega), if_neg (by omega), if_neg (by omega), if_neg (by omega), if_neg (by omega), if_neg (by omega), if_neg (by omega), e1, e2, e3, f1, f2, f3, g1, g2, g3]
      exact hr.1
  · have hk6 : kind = 1 ∨ kind = 2 ∨ kind = 3 ∨ kind = 6 := by omega
    rw [fracS_pot op hk6 hx hy, fracS_pot op hk6 hx hz]
    have : potI op kind y ≤ potI op kind z := by
      unfold potI
      split
      · exact h
      · split
        · exact accD_mono hy hz h
        · exact cntD_mono op hy.1 h
    omega
end Go.Proofs.Ytcbbbkngjdlcjaa
namespace Go.Proofs.Ytcbbbkngjdlcjaa
open Go.RowKit

open Classical in
/-- A rule's day in a year ahead of the moving, HDay's among them. -/
noncomputable def givO (r : Rul) (y : Int) : Option Int := if r.kind = 4 then (if yrI r.day = y then some r.day else none) else baseO r y
/-- Does the rule's day of the year y fall on n? -/
noncomputable def mkB (W : Int) (r : Rul) (y n : Int) : Bool := (givO r y).map (fun g => mvI W g r.mv) == some n
/-- Of the first t years from Y - 1 on. -/
noncomputable def mkT (W : Int) (r : Rul) (Y n : Int) : Nat → Bool
  | 0 => false
  | t + 1 => mkT W r Y n t || mkB W r (Y - 1 + t) n
/-- Of the first k rules. -/
noncomputable def mkK (W : Int) (rs : List Rul) (Y n : Int) : Nat → Bool
  | 0 => false
  | k + 1 => mkK W rs Y n k || mkT W (rs.getD k rul0) Y n 3

theorem mv_zero {W n : Int} (h0 : 0 ≤ W) (h1 : W ≤ 126) : mvI W n 0 = n := by
  obtain ⟨u, d, hu⟩ := ups_ex h0 h1 n
  rw [mv_eq hu]; unfold movI; rw [if_pos (Or.inl rfl)]
theorem mkT_hit {W : Int} {r : Rul} {Y n : Int} (h0 : 0 ≤ W) (h1 : W ≤ 126) (hf : fitB r = true) (hy : yrI n = Y) : mkT W r Y n 3 = hitB W r n Y := by
  show (((false || mkB W r (Y - 1 + ((0 : Nat) : Int)) n) || mkB W r (Y - 1 + ((1 : Nat) : Int)) n) || mkB W r (Y - 1 + ((2 : Nat) : Int)) n) = _
  rw [show Y - 1 + ((0 : Nat) : Int) = Y - 1 by omega, show Y - 1 + ((1 : Nat) : Int) = Y by omega, show Y - 1 + ((2 : Nat) : Int) = Y + 1 by omega, Bool.false_or]
  unfold hitB
  by_cases k4 : r.kind = 4
  · rw [if_pos k4]
    have hmv : r.mv = 0 := by
      rcases fit_cases hf with ⟨_, _, _, a⟩ | ⟨_, ⟨a, _⟩ | ⟨a, _⟩ | ⟨a, _⟩⟩
      · exact a
      · omega
      · omega
      · omega
    have key : ∀ y, mkB W r y n = (decide (yrI r.day = y) && (r.day == n)) := fun y => by
      unfold mkB givO
      rw [if_pos k4]
      by_cases e : yrI r.day = y
      · rw [if_pos e, Option.map_some, hmv, mv_zero h0 h1, decide_eq_true e, Bool.true_and]; rfl
      · rw [if_neg e, decide_eq_false e, Bool.false_and]; rfl
    rw [key, key, key]
    by_cases e : r.day = n
    · rw [e, hy, decide_eq_true (rfl : Y = Y)]
      simp
    · rw [beq_eq_false_iff_ne.2 e]
      simp
  · rw [if_neg k4]
    have key : ∀ y, mkB W r y n = (dayO W r y == some n) := fun y => by
      unfold mkB givO dayO
      rw [if_neg k4]
    rw [key, key, key]
theorem mkK_hol {W : Int} {rs : List Rul} {Y n : Int} (h0 : 0 ≤ W) (h1 : W ≤ 126) (hf : ∀ r ∈ rs, fitB r = true) (hy : yrI n = Y) : mkK W rs Y n rs.length = holB W rs n Y := by
  have key : ∀ k, k ≤ rs.length → mkK W rs Y n k = (rs.take k).any fun r => hitB W r n Y := fun k => by
    induction k with
    | zero => intro _; rfl
    | succ k ih =>
      intro hk
      have e : rs[k]? = some (rs.getD k rul0) := by simp [List.getD, List.getElem?_eq_getElem (show k < rs.length by omega)]
      show (mkK W rs Y n k || mkT W (rs.getD k rul0) Y n 3) = _
      rw [ih (by omega), mkT_hit h0 h1 (hf _ (getD_mem (by omega))) hy, List.take_add_one, e, List.any_append]
      simp
  rw [key _ (Nat.le_refl _), List.take_length]
  rfl
/-- A year's days. -/
theorem yr_of {n Y : Int} (y0 : 1900 ≤ Y) (y1 : Y ≤ 2199) (h : nyI Y ≤ n) (h' : n < nyI (Y + 1)) : yrI n = Y := by
  have a := ny_mono (y := 1900) (z := Y) (by omega) y0
  have b := ny_mono (y := Y + 1) (z := 2200) (by omega) (by omega)
  rw [ny_first] at a
  rw [ny_last] at b
  obtain ⟨y, m, d, hd⟩ := isD_ex (n := n) (by omega) (by omega)
  rw [yr_eq hd]
  have hy := hd.year
  have h0 := hd.1.1
  rcases Int.lt_trichotomy y Y with e | e | e
  · have := ny_mono (y := y + 1) (z := Y) (by omega) (by omega); omega
  · exact e
  · have := ny_mono (y := Y + 1) (z := y) (by omega) (by omega); omega
theorem yr_in {n : Int} (hn : isDayP n) : 1900 ≤ yrI n ∧ yrI n ≤ 2199 ∧ nyI (yrI n) ≤ n ∧ n < nyI (yrI n + 1) := by
  obtain ⟨y, m, d, hd⟩ := isD_ex hn.1 hn.2
  rw [yr_eq hd]
  exact ⟨hd.1.1, hd.1.2.1, hd.year⟩
theorem first_day (Y : Int) : dayI Y 1 1 = nyI Y := by unfold dayI; rw [cum_first]; omega
theorem last_day {Y : Int} (h : 1900 ≤ Y) : dayI Y 12 31 = nyI (Y + 1) - 1 := by
  have e := cum_succ (y := Y) (m := 12) (by omega) (by omega)
  rw [show (12 + 1 : Int) = 13 by decide, cum_last] at e
  have e2 : lenI Y 12 = 31 := by unfold lenI; rw [if_neg (by decide), if_neg (by decide)]
  rw [ny_succ h]
  unfold dayI
  omega
theorem okD_first1 {Y : Int} (y0 : 1900 ≤ Y) (y1 : Y ≤ 2199) : okD Y 1 1 := ⟨y0, y1, by decide, by decide, by decide, by have := len_lo Y 1; omega⟩
theorem okD_last {Y : Int} (y0 : 1900 ≤ Y) (y1 : Y ≤ 2199) : okD Y 12 31 := ⟨y0, y1, by decide, by decide, by decide, by unfold lenI; rw [if_neg (by decide), if_neg (by decide)]; decide⟩
/-- One mark more. -/
theorem mkB_none {W : Int} {r : Rul} {y n : Int} (h : givO r y = none) : mkB W r y n = false := by unfold mkB; rw [h]; rfl
theorem mkB_some {W : Int} {r : Rul} {y n g : Int} (h : givO r y = some g) : mkB W r y n = decide (mvI W g r.mv = n) := by
  unfold mkB; rw [h, Option.map_some]
  by_cases e : mvI W g r.mv = n
  · rw [e, decide_eq_true rfl]; simp
  · rw [decide_eq_false e]; simpa using e
end Go.Proofs.Ytcbbbkngjdlcjaa
