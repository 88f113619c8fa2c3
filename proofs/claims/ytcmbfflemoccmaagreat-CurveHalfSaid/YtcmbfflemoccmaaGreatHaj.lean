/- The contracts of Length and Of, of the program and of the document's answer. The contract of the document's Of: years and months added up. The contracts of Third and Easter, of the program and of the document's answer. Rules and their days: no word of the program. A slice of rules that came in. Open days and the search for one: no word of the program. Day counts as whole numbers: no word of the program. The contracts of the document's Civil and Weekday. The contracts of the document's off, moved and nth. The contract of the document's day. The contract of the document's holiday. The contracts of the document's in, fit and Check. The contract of the document's fit of an HFix rule, and of Check. The contracts of the document's thirty and actual. The contracts of the document's Check, asked, open, Holiday and Open. The contracts of the document's isDay, asked, open, Holiday, Open and search. The contracts of the document's month and Adjust. The contract of the document's Adjust at any calendar that may be. The contracts of the document's Add and Count. The contracts of the document's Count turned round or refused, and of moves. The contract of the document's Fraction. The document's Fraction where it refuses, and turned round. The document's Fraction turned round. The document's Fraction at any days. The document's Year where it refuses. The contracts of Civil and Weekday. What day counts keep: they add up, turn round and rise. No word of the program. What the program's almanac marks: no word of the program. The contracts of the program's isBetween, isDay, isWeekend and moved. The contracts of the program's rules: may they be? The contracts of the program's rules: their days in a year, ahead of the moving. The contract of the program's Check. -/
import Derived.Test.YtcmbfflemoccmaaGreatDLen
import Derived.Deep.RegionWith
import Derived.Test.YtcmbfflemoccmaaGreatHad
import Derived.Laws.BitsAllLaws
import Derived.Laws.Bits64b
import Derived.BigQuiet
namespace Go.Proofs.YtcmbfflemoccmaaGreat
open Go.RowKit

def ymB (y m : Int) : Prop := 1900 ≤ y ∧ y ≤ 2199 ∧ 1 ≤ m ∧ m ≤ 12

theorem isYear_any (y : Int) (w : World) :
    Calls Tryz.prog 232 #[.int .i64 y] w fun e w' => e = .returned (.bool (decide (1900 ≤ y ∧ y ≤ 2199))) ∧ w' = w := by
  by_cases h1 : 1900 ≤ y <;> by_cases h2 : y ≤ 2199
  all_goals
    first | rw [decide_eq_true (⟨h1, h2⟩ : 1900 ≤ y ∧ y ≤ 2199)] | rw [decide_eq_false (fun h : 1900 ≤ y ∧ y ≤ 2199 => by omega)]
    go_enter Tryz.func232, Tryz.ntmps232
    go_wp2
    go_ret
    exact ⟨rfl, rfl⟩

theorem lengthP_ok (y m : Int) (w : World) (h : ymB y m) :
    Calls Tryz.prog 210 #[.int .i64 y, .int .i64 m] w fun e w' => e = .returned (.tuple #[.int .i64 (lenI y m), .int .i64 0]) ∧ w' = w := by
  obtain ⟨h1, h2, h3, h4⟩ := h
  have hy := isYear_any y
  rw [decide_eq_true (⟨h1, h2⟩ : 1900 ≤ y ∧ y ≤ 2199)] at hy
  have HL := hideS (length_any y m w h3 h4)
  have HY := hideS hy
  clear hy
  generalize lenI y m = L at *
  go_enter Tryz.func210, Tryz.ntmps210
  go_wp2_with (first | (go_at_call 232; refine (HY.out _).mono ?_; rintro e w' ⟨rfl, rfl⟩) | (go_at_call 211; refine HL.out.mono ?_; rintro e w' ⟨rfl, rfl⟩))
  go_ret2
  exact ⟨rfl, rfl⟩
theorem leaps_any (y : Int) (w : World) (h : 0 ≤ y) (h' : y ≤ 3000) :
    Calls Tryz.prog 212 #[.int .i64 y] w fun e w' => e = .returned (.int .i64 (lpsI y)) ∧ w' = w := by
  unfold lpsI
  go_enter Tryz.func212, Tryz.ntmps212
  go_wp2
  go_ret
  exact ⟨rfl, rfl⟩

theorem newYear_any (y : Int) (w : World) (h : 1900 ≤ y) (h' : y ≤ 2200) :
    Calls Tryz.prog 189 #[.int .i64 y] w fun e w' => e = .returned (.int .i64 (nyI y)) ∧ w' = w := by
  have H1 := hideS (leaps_any (y - 1) w (by omega) (by omega))
  have H2 := hideS (leaps_any 1899 w (by omega) (by omega))
  have e2 : lpsI 1899 = 460 := by decide
  rw [e2] at H2
  unfold nyI
  have hl : 0 ≤ lpsI (y - 1) ∧ lpsI (y - 1) ≤ 3000 := by unfold lpsI; omega
  obtain ⟨l1, l2⟩ := hl
  generalize lpsI (y - 1) = L at *
  clear e2
  go_enter Tryz.func189, Tryz.ntmps189
  go_wp2_with (first | (go_at_call_of 212 (Value.int IntKind.i64 1899); refine H2.out.mono ?_; rintro e w' ⟨rfl, rfl⟩) | (go_at_call 212; refine H1.out.mono ?_; rintro e w' ⟨rfl, rfl⟩))
  go_ret
  exact ⟨rfl, rfl⟩

set_option maxHeartbeats 400000 in
theorem ofP_ok (y m d : Int) (w : World) (h : okD y m d) :
    Calls Tryz.prog 184 #[.int .i64 y, .int .i64 m, .int .i64 d] w fun e w' => e = .returned (.tuple #[.int .i64 (dayI y m d), .int .i64 0]) ∧ w' = w := by
  obtain ⟨h1, h2, h3, h4, h5, h6⟩ := h
  have HL := hideS (lengthP_ok y m w ⟨h1, h2, h3, h4⟩)
  have HN := hideS (newYear_any y w h1 (by omega))
  have hl := len_hi y m
  have HLen := hideS (fun (k : Int) (wx : World) (a : 1 ≤ k) (b : k ≤ 12) => length_any y k wx a b)
  have HD : Hid (dayI y m d = nyI y + d - 1 + cumI y m) := by show _ = _; unfold dayI; omega
  have n1 : 0 ≤ nyI y := by have := ny_lo h1; omega
  have n2 : nyI y ≤ 110000 := by have := ny_hi h1; omega
  obtain ⟨R, hR⟩ : ∃ R, dayI y m d = R := ⟨_, rfl⟩
  rw [hR] at HD ⊢
  clear hR
  obtain ⟨L, hL⟩ : ∃ L, lenI y m = L := ⟨_, rfl⟩
  rw [hL] at HL h6 hl
  clear hL
  obtain ⟨N, hN⟩ : ∃ N, nyI y = N := ⟨_, rfl⟩
  rw [hN] at HN n1 n2 HD
  clear hN
  go_enter Tryz.func184, Tryz.ntmps184
  go_wp2_with (first | (go_at_call 210; refine HL.out.mono ?_; rintro e w' ⟨rfl, rfl⟩) | (go_at_call 189; refine HN.out.mono ?_; rintro e w' ⟨rfl, rfl⟩))
  clear HL HN
  go_loop [35, 10] (fun i n => ∃ (k : Nat) (C : Int), (k : Int) + 1 ≤ m ∧ 0 ≤ C ∧ C ≤ 200000 ∧ i = .int .i64 k ∧ n = .int .i64 C ∧ Hid (C = N + d - 1 + cumI y (k + 1))) (fun i _ => (m - intOf i).toNat)
  case atStart => exact ⟨0, N + d - 1, by omega, by omega, by omega, rfl, rfl, by show _ = _; rw [show (((0 : Nat) : Int) + 1) = 1 by rfl, cum_first]; omega⟩
  case round =>
    obtain ⟨k, C, hk, hC0, hC1, rfl, rfl, HC⟩ := hrel
    by_cases hlt : (k : Int) + 1 < m
    · have H := hideS (fun wx => HLen.out (k + 1) wx (by omega) (by omega))
      have HN : Hid (C + lenI y (k + 1) = N + d - 1 + cumI y (((k + 1 : Nat) : Int) + 1)) := by
        show _ = _
        rw [HC.out, show (((k + 1 : Nat) : Int) + 1) = (k : Int) + 1 + 1 by omega, cum_succ (m := (k : Int) + 1) (by omega) (by omega)]; omega
      have HB : Hid (cumI y (((k + 1 : Nat) : Int) + 1) ≤ 366) := cum_hi (by omega) (by omega)
      have l1 := len_lo y (k + 1)
      have l2 := len_hi y (k + 1)
      generalize lenI y (k + 1) = l at *
      have hlt' : (k : Int) < m - 1 := by omega
      go_wp2_with (go_at_call 211; refine (H.out _).mono ?_; rintro e w' ⟨rfl, rfl⟩)
      go_round
      case rel => exact ⟨k + 1, C + l, by omega, by omega, by have := HN.out; have := HB.out; omega, by go_num, rfl, HN⟩
      case measure => simp [intOf]; omega
    · have hm : m = (k : Int) + 1 := by omega
      have HR : Hid (C = R) := by show _ = _; rw [HC.out, HD.out, hm]
      have hge : ¬ (k : Int) < m - 1 := by omega
      clear HC HD hm
      go_wp2_with fail
      go_ret2
      obtain rfl := HR.out
      exact ⟨rfl, rfl⟩

end Go.Proofs.YtcmbfflemoccmaaGreat
namespace Go.Proofs.YtcmbfflemoccmaaGreat
open Go.RowKit

end Go.Proofs.YtcmbfflemoccmaaGreat
namespace Go.Proofs.YtcmbfflemoccmaaGreat
open Go.RowKit

end Go.Proofs.YtcmbfflemoccmaaGreat
namespace Go.Proofs.YtcmbfflemoccmaaGreat
open Go.RowKit

end Go.Proofs.YtcmbfflemoccmaaGreat
namespace Go.Proofs.YtcmbfflemoccmaaGreat
open Go.RowKit

structure RCells (w : World) (b o : Nat) (r : Rul) : Prop where
  c0 : w.cell? ⟨b, o, none⟩ = some (.int .i64 r.kind)
  c1 : w.cell? ⟨b, o + 1, none⟩ = some (.int .i64 r.mon)
  c2 : w.cell? ⟨b, o + 2, none⟩ = some (.int .i64 r.day)
  c3 : w.cell? ⟨b, o + 3, none⟩ = some (.int .i64 r.nth)
  c4 : w.cell? ⟨b, o + 4, none⟩ = some (.int .i64 r.wd)
  c5 : w.cell? ⟨b, o + 5, none⟩ = some (.int .i64 r.off)
  c6 : w.cell? ⟨b, o + 6, none⟩ = some (.int .i64 r.fr)
  c7 : w.cell? ⟨b, o + 7, none⟩ = some (.int .i64 r.to)
  c8 : w.cell? ⟨b, o + 8, none⟩ = some (.int .i64 r.mv)
end Go.Proofs.YtcmbfflemoccmaaGreat
namespace Go.Proofs.YtcmbfflemoccmaaGreat
open Go.RowKit

open Classical in
noncomputable def yrI (n : Int) : Int := if h : ∃ y m d, IsD n y m d then h.choose else 0
theorem yr_eq {n y m d : Int} (h : IsD n y m d) : yrI n = y := by
  have hx : ∃ y m d, IsD n y m d := ⟨y, m, d, h⟩
  unfold yrI
  rw [dif_pos hx]
  obtain ⟨m', d', h'⟩ := hx.choose_spec
  exact (h'.unique h).1
def isDayP (n : Int) : Prop := 0 ≤ n ∧ n ≤ 109572
instance (n : Int) : Decidable (isDayP n) := by unfold isDayP; infer_instance
open Classical in
noncomputable def moI (n : Int) : Int := if h : ∃ k, ∃ y m d, IsD n y m d ∧ k = 12 * y + m then h.choose else 0
theorem mo_eq {n y m d : Int} (h : IsD n y m d) : moI n = 12 * y + m := by
  have hx : ∃ k, ∃ y m d, IsD n y m d ∧ k = 12 * y + m := ⟨_, y, m, d, h, rfl⟩
  unfold moI
  rw [dif_pos hx]
  obtain ⟨y', m', d', h', e⟩ := hx.choose_spec
  obtain ⟨e1, e2, _⟩ := h'.unique h
  rw [e, e1, e2]

def cntN (op : Int → Bool) (a : Int) : Nat → Nat
  | 0 => 0
  | k + 1 => cntN op a k + (if op (a + k) then 1 else 0)
theorem cnt_le (op : Int → Bool) (a : Int) (k : Nat) : cntN op a k ≤ k := by
  induction k with
  | zero => exact Nat.le_refl _
  | succ k ih => show cntN op a k + (if op (a + k) then 1 else 0) ≤ k + 1; split <;> omega

end Go.Proofs.YtcmbfflemoccmaaGreat
namespace Go.Proofs.YtcmbfflemoccmaaGreat
open Go.RowKit

def thirI (kind ya ma da yb mb db : Int) : Int := 360 * (yb - ya) + 30 * (mb - ma) + (if kind = 5 ∨ min da 30 = 30 then min db 30 else db) - min da 30
def accI (y n : Int) : Int := 133590 * (y - 1900) + (n - nyI y) * (366 - lpI y)
theorem acc_bd {y n : Int} (h : 1900 ≤ y) (h' : y ≤ 2200) (h0 : nyI y ≤ n) (h1 : n ≤ nyI (y + 1)) : 0 ≤ accI y n ∧ accI y n ≤ 50000000 := by
  unfold accI
  rw [ny_succ h] at h1
  rcases lp_cases y with e | e <;> rw [e] at h1 ⊢ <;> constructor <;> omega
end Go.Proofs.YtcmbfflemoccmaaGreat
namespace Go.Proofs.YtcmbfflemoccmaaGreat
open Go.RowKit

end Go.Proofs.YtcmbfflemoccmaaGreat
namespace Go.Proofs.YtcmbfflemoccmaaGreat
open Go.RowKit

def CBox (w : World) (W : Int) (v : Value) (wr : World) : Prop := Below (w.heap.size + 1) (w.alloc (.cells #[.int .i64 W, v] 44)) wr
end Go.Proofs.YtcmbfflemoccmaaGreat
namespace Go.Proofs.YtcmbfflemoccmaaGreat
open Go.RowKit

end Go.Proofs.YtcmbfflemoccmaaGreat
namespace Go.Proofs.YtcmbfflemoccmaaGreat
open Go.RowKit

structure HK (w : World) (W : Int) (v : Value) (b5 : Nat) (Y m d : Int) (wr : World) : Prop where
  box : CBox w W v wr
  d0 : wr.cell? ⟨b5, 0, none⟩ = some (.int .i64 Y)
  d1 : wr.cell? ⟨b5, 1, none⟩ = some (.int .i64 m)
  d2 : wr.cell? ⟨b5, 2, none⟩ = some (.int .i64 d)
  lt : b5 < wr.heap.size
structure HK2 (w : World) (W : Int) (v : Value) (b5 : Nat) (Y m d : Int) (b8 : Nat) (r : Rul) (wr : World) : Prop where
  hk : HK w W v b5 Y m d wr
  rc : RCells wr b8 0 r
  lt8 : b8 < wr.heap.size
end Go.Proofs.YtcmbfflemoccmaaGreat
namespace Go.Proofs.YtcmbfflemoccmaaGreat
open Go.RowKit

end Go.Proofs.YtcmbfflemoccmaaGreat
namespace Go.Proofs.YtcmbfflemoccmaaGreat
open Go.RowKit

end Go.Proofs.YtcmbfflemoccmaaGreat
namespace Go.Proofs.YtcmbfflemoccmaaGreat
open Go.RowKit

end Go.Proofs.YtcmbfflemoccmaaGreat
namespace Go.Proofs.YtcmbfflemoccmaaGreat
open Go.RowKit

end Go.Proofs.YtcmbfflemoccmaaGreat
namespace Go.Proofs.YtcmbfflemoccmaaGreat
open Go.RowKit

end Go.Proofs.YtcmbfflemoccmaaGreat
namespace Go.Proofs.YtcmbfflemoccmaaGreat
open Go.RowKit

end Go.Proofs.YtcmbfflemoccmaaGreat
namespace Go.Proofs.YtcmbfflemoccmaaGreat
open Go.RowKit

end Go.Proofs.YtcmbfflemoccmaaGreat
namespace Go.Proofs.YtcmbfflemoccmaaGreat
open Go.RowKit

end Go.Proofs.YtcmbfflemoccmaaGreat
namespace Go.Proofs.YtcmbfflemoccmaaGreat
open Go.RowKit

end Go.Proofs.YtcmbfflemoccmaaGreat
namespace Go.Proofs.YtcmbfflemoccmaaGreat
open Go.RowKit

noncomputable def moD (n : Int) : Int := moI n - 12 * yrI n
noncomputable def daD (n : Int) : Int := n - nyI (yrI n) - cumI (yrI n) (moD n) + 1
theorem date_of {n y m d : Int} (h : IsD n y m d) : yrI n = y ∧ moD n = m ∧ daD n = d := by
  have e1 := yr_eq h
  have e2 : moD n = m := by unfold moD; rw [mo_eq h, e1]; omega
  refine ⟨e1, e2, ?_⟩
  unfold daD
  rw [e1, e2]
  have := h.2
  unfold dayI at this
  omega
noncomputable def fracP (op : Int → Bool) (kind a b : Int) : Int :=
  if kind = 1 ∨ kind = 2 then b - a else if kind = 3 then accI (yrI b) b - accI (yrI a) a else if kind = 6 then (cntN op a (b - a).toNat : Nat) else thirI kind (yrI a) (moD a) (daD a) (yrI b) (moD b) (daD b)
def fracQ (kind : Int) : Int := if kind = 2 then 365 else if kind = 3 then 133590 else if kind = 6 then 252 else 360

end Go.Proofs.YtcmbfflemoccmaaGreat
namespace Go.Proofs.YtcmbfflemoccmaaGreat
open Go.RowKit

end Go.Proofs.YtcmbfflemoccmaaGreat
namespace Go.Proofs.YtcmbfflemoccmaaGreat
open Go.RowKit

end Go.Proofs.YtcmbfflemoccmaaGreat
namespace Go.Proofs.YtcmbfflemoccmaaGreat
open Go.RowKit

theorem fracP_bd (op : Int → Bool) {kind a b : Int} (ha : isDayP a) (hb : isDayP b) (hab : a ≤ b) : -1000000000 ≤ fracP op kind a b ∧ fracP op kind a b ≤ 1000000000 := by
  obtain ⟨ya, ma, da, hA⟩ := isD_ex ha.1 ha.2
  obtain ⟨yb, mb, db, hB⟩ := isD_ex hb.1 hb.2
  obtain ⟨e1, e2, e3⟩ := date_of hA
  obtain ⟨f1, f2, f3⟩ := date_of hB
  unfold fracP
  rw [e1, e2, e3, f1, f2, f3]
  have ra := hA.year
  have rb := hB.year
  obtain ⟨⟨a1, a2, a3, a4, a5, a6⟩, _⟩ := hA
  obtain ⟨⟨b1, b2, b3, b4, b5, b6⟩, _⟩ := hB
  have la := len_hi ya ma
  have lb := len_hi yb mb
  have c := cnt_le op a (b - a).toNat
  have xa := acc_bd (y := ya) (n := a) a1 (by omega) ra.1 (by omega)
  have xb := acc_bd (y := yb) (n := b) b1 (by omega) rb.1 (by omega)
  obtain ⟨a7, a8⟩ := ha
  obtain ⟨b7, b8⟩ := hb
  split
  · omega
  · split
    · omega
    · split
      · omega
      · unfold thirI
        split <;> omega
noncomputable def fracS (op : Int → Bool) (kind a b : Int) : Int := if b < a then -fracP op kind b a else fracP op kind a b
end Go.Proofs.YtcmbfflemoccmaaGreat
namespace Go.Proofs.YtcmbfflemoccmaaGreat
open Go.RowKit

end Go.Proofs.YtcmbfflemoccmaaGreat
namespace Go.Proofs.YtcmbfflemoccmaaGreat
open Go.RowKit

theorem isDay_any (n : Int) (w : World) :
    Calls Tryz.prog 186 #[.int .i64 n] w fun e w' => e = .returned (.bool (decide (0 ≤ n ∧ n ≤ 109572))) ∧ w' = w := by
  by_cases h1 : 0 ≤ n <;> by_cases h2 : n ≤ 109572
  all_goals
    first | rw [decide_eq_true (⟨h1, h2⟩ : 0 ≤ n ∧ n ≤ 109572)] | rw [decide_eq_false (fun h : 0 ≤ n ∧ n ≤ 109572 => by omega)]
    go_enter Tryz.func186, Tryz.ntmps186
    go_wp2
    go_ret
    exact ⟨rfl, rfl⟩
theorem isDay_yes (n : Int) (h : 0 ≤ n ∧ n ≤ 109572) (w : World) :
    Calls Tryz.prog 186 #[.int .i64 n] w fun e w' => e = .returned (.bool true) ∧ w' = w := by
  have e := isDay_any n w
  rw [decide_eq_true h] at e; exact e
set_option maxHeartbeats 400000 in
theorem yearOf_any (n y : Int) (w : World) (h1 : 1900 ≤ y) (h2 : y ≤ 2199) (hy : nyI y ≤ n) (hy' : n < nyI (y + 1)) :
    Calls Tryz.prog 187 #[.int .i64 n] w fun e w' => e = .returned (.int .i64 y) ∧ w' = w := by
  have n0 : 0 ≤ n := by have := ny_lo h1; omega
  have n1 : n ≤ 120000 := by have := ny_hi (y := y + 1) (by omega); omega
  have hs : 1900 + n / 366 ≤ y := by have := ny_hi (y := y + 1) (by omega); omega
  have HN := hideS (fun (z : Int) (wx : World) (a : 1900 ≤ z) (b : z ≤ 2200) => newYear_any z wx a b)
  have HY := hideS hy
  have HY' := hideS hy'
  clear hy hy'
  go_enter Tryz.func187, Tryz.ntmps187
  go_wp2_with fail
  go_loop [3] (fun i => ∃ (j : Int), 1900 ≤ j ∧ j ≤ y ∧ i = .int .i64 j) (fun i => (y - intOf i).toNat)
  case atStart => exact ⟨1900 + n / 366, by omega, hs, rfl⟩
  case round =>
    obtain ⟨j, hj1, hj2, rfl⟩ := hrel
    have H := hideS (fun wx => HN.out (j + 1) wx (by omega) (by omega))
    by_cases hlt : j < y
    · have hle : nyI (j + 1) ≤ n := by
        have := ny_mono (y := j + 1) (z := y) (by omega) (by omega)
        have := HY.out
        omega
      generalize nyI (j + 1) = N at *
      go_wp2_with (go_at_call 189; refine (H.out _).mono ?_; rintro e w' ⟨rfl, rfl⟩)
      go_round
      case rel => exact ⟨j + 1, by omega, by omega, rfl⟩
      case measure => simp [intOf]; omega
    · obtain rfl : j = y := by omega
      have hle : ¬ nyI (j + 1) ≤ n := by have := HY'.out; omega
      clear HY'
      generalize nyI (j + 1) = N at *
      go_wp2_with (go_at_call 189; refine (H.out _).mono ?_; rintro e w' ⟨rfl, rfl⟩)
      go_ret
      exact ⟨rfl, rfl⟩

set_option maxHeartbeats 800000 in
theorem monthAndDay_any (y m r : Int) (w : World) (h1 : 1 ≤ m) (h2 : m ≤ 12) (hm : cumI y m ≤ r) (hm' : r < cumI y (m + 1)) :
    Calls Tryz.prog 188 #[.int .i64 y, .int .i64 r] w fun e w' => e = .returned (.tuple #[.int .i64 m, .int .i64 (r - cumI y m + 1)]) ∧ w' = w := by
  have r0 : 0 ≤ r := by have := cum_lo (y := y) h1 (by omega); omega
  have r1 : r ≤ 366 := by have := cum_hi (y := y) (m := m + 1) (by omega) (by omega); omega
  have HLen := hideS (fun (k : Int) (wx : World) (a : 1 ≤ k) (b : k ≤ 12) => length_any y k wx a b)
  have HM := hideS hm
  have HM' := hideS hm'
  clear hm hm'
  obtain ⟨D, hD⟩ : ∃ D, r - cumI y m + 1 = D := ⟨_, rfl⟩
  rw [hD]
  have HD := hideS hD
  clear hD
  go_enter Tryz.func188, Tryz.ntmps188
  go_wp2_with fail
  go_loop [7, 1, 4] (fun i b _ => ∃ (k : Int) (C : Int), 0 ≤ k ∧ k + 1 ≤ m ∧ 0 ≤ C ∧ C ≤ 366 ∧ i = .int .i64 k ∧ b = .int .i64 C ∧ Hid (C = r - cumI y (k + 1))) (fun i _ _ => (m - intOf i).toNat)
  case atStart => exact ⟨0, r, by omega, by omega, by omega, by omega, rfl, rfl, by show _ = _; rw [show ((0 : Int) + 1) = 1 by rfl, cum_first]; omega⟩
  case round =>
    obtain ⟨k, C, hk0, hk, hC0, hC1, rfl, rfl, HC⟩ := hrel
    have H := hideS (fun wx => HLen.out (k + 1) wx (by omega) (by omega))
    have l1 := len_lo y (k + 1)
    have HS : Hid (cumI y (k + 1 + 1) = cumI y (k + 1) + lenI y (k + 1)) := cum_succ (m := k + 1) (by omega) (by omega)
    by_cases hlt : k + 1 < m
    · have hle : ¬ C < lenI y (k + 1) := by
        have := cum_mono (y := y) (m := k + 1 + 1) (k := m) (by omega) (by omega) (by omega)
        have := HM.out
        have := HS.out
        have := HC.out
        omega
      have HC' : Hid (C - lenI y (k + 1) = r - cumI y (k + 1 + 1)) := by
        show _ = _
        rw [HS.out, HC.out]; omega
      generalize lenI y (k + 1) = l at *
      go_wp2_with (go_at_call 211; refine (H.out _).mono ?_; rintro e w' ⟨rfl, rfl⟩)
      go_round
      case rel => exact ⟨k + 1, C - l, by omega, by omega, by omega, by omega, rfl, rfl, HC'⟩
      case measure => simp [intOf]; omega
    · have hle : C < lenI y (k + 1) := by
        have := HM'.out
        rw [show m + 1 = k + 1 + 1 by omega, HS.out] at this
        have := HC.out
        omega
      have hm : m = k + 1 := by omega
      have HE : Hid (C + 1 = D) := by
        show _ = _
        rw [← HD.out, HC.out, hm]
      have HMk := hideS hm
      clear hm HD HC HM HM'
      generalize lenI y (k + 1) = l at *
      go_wp2_with (go_at_call 211; refine (H.out _).mono ?_; rintro e w' ⟨rfl, rfl⟩)
      go_ret2
      obtain rfl := HE.out
      obtain rfl := HMk.out
      exact ⟨rfl, rfl⟩

theorem results_tmp4 {fn : Func} {t u v x : Tmp} (h : fn.results = #[.tmp t, .tmp u, .tmp v, .tmp x]) (tmps : Array Value) (P : Program) (w : World) :
    (results fn tmps).run P w = .ok (.tuple #[tmps.getD t undef, tmps.getD u undef, tmps.getD v undef, tmps.getD x undef]) w := by
  simp [results, h]

set_option maxHeartbeats 400000 in
theorem civil_ok (n y m d : Int) (w : World) (h : IsD n y m d) :
    Calls Tryz.prog 155 #[.int .i64 n] w fun e w' => e = .returned (.tuple #[.int .i64 y, .int .i64 m, .int .i64 d, .int .i64 0]) ∧ w' = w := by
  obtain ⟨n0, n1⟩ := h.range
  obtain ⟨a, b⟩ := h.year
  obtain ⟨a', b'⟩ := h.month
  have HY := hideS (isDay_yes n ⟨n0, n1⟩)
  have hd : n - nyI y - cumI y m + 1 = d := by have := h.2; unfold dayI at this; omega
  obtain ⟨h1, h2, h3, h4, _, _⟩ := h.1
  clear h
  have H1 := hideS (fun wx => yearOf_any n y wx h1 h2 a b)
  have H2 := hideS (fun wx => newYear_any y wx h1 (by omega))
  have h5 := fun wx => monthAndDay_any y m (n - nyI y) wx h3 h4 a' b'
  rw [hd] at h5
  have H3 := hideS h5
  have c1 := cum_lo (y := y) h3 (by omega)
  have n2 := ny_lo h1
  clear h5 hd b b' a'
  generalize nyI y = N at *
  go_enter Tryz.func155, Tryz.ntmps155
  go_wp2_with (first | (go_at_call 186; refine (HY.out _).mono ?_; rintro e w' ⟨rfl, rfl⟩) | (go_at_call 187; refine (H1.out _).mono ?_; rintro e w' ⟨rfl, rfl⟩) | (go_at_call 189; refine (H2.out _).mono ?_; rintro e w' ⟨rfl, rfl⟩) | (go_at_call 188; refine (H3.out _).mono ?_; rintro e w' ⟨rfl, rfl⟩))
  (try simp only [Exit.inBlock, Exit.then])
  refine bodyPost_ret (results_tmp4 rfl _ _ _) rfl ?_
  exact ⟨rfl, rfl⟩
end Go.Proofs.YtcmbfflemoccmaaGreat
namespace Go.Proofs.YtcmbfflemoccmaaGreat
open Go.RowKit

end Go.Proofs.YtcmbfflemoccmaaGreat
namespace Go.Proofs.YtcmbfflemoccmaaGreat
open Go.RowKit

end Go.Proofs.YtcmbfflemoccmaaGreat
namespace Go.Proofs.YtcmbfflemoccmaaGreat
open Go.RowKit

end Go.Proofs.YtcmbfflemoccmaaGreat
namespace Go.Proofs.YtcmbfflemoccmaaGreat
open Go.RowKit

end Go.Proofs.YtcmbfflemoccmaaGreat
namespace Go.Proofs.YtcmbfflemoccmaaGreat
open Go.RowKit

end Go.Proofs.YtcmbfflemoccmaaGreat
namespace Go.Proofs.YtcmbfflemoccmaaGreat
open Go.RowKit

end Go.Proofs.YtcmbfflemoccmaaGreat
