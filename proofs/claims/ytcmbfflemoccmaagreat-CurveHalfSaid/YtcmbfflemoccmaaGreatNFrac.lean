/- The contracts of onward and Fraction. -/
import Derived.Test.YtcmbfflemoccmaaGreatNDays
import Derived.Test.YtcmbfflemoccmaaGreatHaj
import Derived.Test.YtcmbfflemoccmaaGreatHam
namespace Go.Proofs.YtcmbfflemoccmaaGreat
open Go.RowKit

theorem cbox_first (w : World) (W : Int) (v : Value) : Below w.heap.size w (w.alloc (.cells #[.int .i64 W, v] 44)) := (Below.refl w.heap.size w).alloc (Nat.le_refl _) _

set_option maxHeartbeats 800000 in
theorem onward_days (kind W a b P E : Int) (v : Value) (w : World) (hk : kind = 1 ∨ kind = 2)
    (H : Hid (∀ wx, Calls Tryz.prog 122 #[.int .i64 a, .int .i64 b] wx fun e w' => e = .returned (.tuple #[.int .i64 P, .int .i64 E]) ∧ w' = wx)) :
    Calls Tryz.prog 87 #[.int .i64 kind, .agg #[.int .i64 W, v], .int .i64 a, .int .i64 b] w fun e w' => e = .returned (.tuple #[.int .i64 P, .int .i64 (fracQ kind), .int .i64 E]) ∧ Below w.heap.size w w' := by
  have HB := hideS (cbox_first w W v)
  rcases hk with rfl | rfl
  all_goals
    go_enter Tryz.func87, Tryz.ntmps87
    go_wp2_with (go_at_call 122; refine (H.out _).mono ?_; rintro e w' ⟨rfl, rfl⟩)
    go_ret3
    exact ⟨rfl, HB.out⟩
set_option maxHeartbeats 800000 in
theorem onward_act (W a b P E : Int) (v : Value) (w : World)
    (H : Hid (∀ wx, Calls Tryz.prog 123 #[.int .i64 a, .int .i64 b] wx fun e w' => e = .returned (.tuple #[.int .i64 P, .int .i64 E]) ∧ w' = wx)) :
    Calls Tryz.prog 87 #[.int .i64 3, .agg #[.int .i64 W, v], .int .i64 a, .int .i64 b] w fun e w' => e = .returned (.tuple #[.int .i64 P, .int .i64 (fracQ 3), .int .i64 E]) ∧ Below w.heap.size w w' := by
  have HB := hideS (cbox_first w W v)
  go_enter Tryz.func87, Tryz.ntmps87
  go_wp2_with (go_at_call 123; refine (H.out _).mono ?_; rintro e w' ⟨rfl, rfl⟩)
  go_ret3
  exact ⟨rfl, HB.out⟩
set_option maxHeartbeats 800000 in
theorem onward_thir (kind L W a b P E : Int) (v : Value) (w : World) (hk : (kind = 4 ∧ L = 31) ∨ (kind = 5 ∧ L = 30))
    (H : Hid (∀ wx, Calls Tryz.prog 124 #[.int .i64 a, .int .i64 b, .int .i64 L] wx fun e w' => e = .returned (.tuple #[.int .i64 P, .int .i64 E]) ∧ w' = wx)) :
    Calls Tryz.prog 87 #[.int .i64 kind, .agg #[.int .i64 W, v], .int .i64 a, .int .i64 b] w fun e w' => e = .returned (.tuple #[.int .i64 P, .int .i64 (fracQ kind), .int .i64 E]) ∧ Below w.heap.size w w' := by
  have HB := hideS (cbox_first w W v)
  rcases hk with ⟨rfl, rfl⟩ | ⟨rfl, rfl⟩
  all_goals
    go_enter Tryz.func87, Tryz.ntmps87
    go_wp2_with (go_at_call 124; refine (H.out _).mono ?_; rintro e w' ⟨rfl, rfl⟩)
    go_ret3
    exact ⟨rfl, HB.out⟩
def OnwH (w : World) (kind W a b P Q E : Int) (v : Value) : Prop := ∀ wx, Below w.heap.size w wx → Calls Tryz.prog 87 #[.int .i64 kind, .agg #[.int .i64 W, v], .int .i64 a, .int .i64 b] wx fun e w' => e = .returned (.tuple #[.int .i64 P, .int .i64 Q, .int .i64 E]) ∧ Below wx.heap.size wx w'
theorem onward_ok (op : Int → Bool) (kind W a b : Int) (v : Value) (w : World) (hk : 1 ≤ kind) (hk' : kind ≤ 5) (ha : isDayP a) (hb : isDayP b) : OnwH w kind W a b (fracP op kind a b) (fracQ kind) 0 v := fun wx _ => by
  obtain ⟨ya, ma, da, hA⟩ := isD_ex ha.1 ha.2
  obtain ⟨yb, mb, db, hB⟩ := isD_ex hb.1 hb.2
  obtain ⟨e1, e2, e3⟩ := date_of hA
  obtain ⟨f1, f2, f3⟩ := date_of hB
  unfold fracP
  rw [e1, e2, e3, f1, f2, f3]
  by_cases h12 : kind = 1 ∨ kind = 2
  · rw [if_pos h12]
    exact onward_days kind W a b _ _ v wx h12 (fun wy => daysP_ok a b wy ha hb)
  · rw [if_neg h12]
    by_cases h3 : kind = 3
    · subst h3
      rw [if_pos rfl]
      exact onward_act W a b _ _ v wx (fun wy => actualP_ok a b ya ma da yb mb db wy hA hB)
    · rw [if_neg h3, if_neg (by omega)]
      by_cases h4 : kind = 4
      · exact onward_thir kind 31 W a b _ _ v wx (Or.inl ⟨h4, rfl⟩) (fun wy => thirties_ok kind a b 31 ya ma da yb mb db wy hA hB (Or.inl ⟨h4, rfl⟩))
      · exact onward_thir kind 30 W a b _ _ v wx (Or.inr ⟨by omega, rfl⟩) (fun wy => thirties_ok kind a b 30 ya ma da yb mb db wy hA hB (Or.inr ⟨by omega, rfl⟩))
set_option maxHeartbeats 1600000 in
theorem frac_run (kind W a b P Q : Int) (v : Value) (w : World) (hP : -1000000000 ≤ P) (hP' : P ≤ 1000000000) (H : Hid (OnwH w kind W (min a b) (max a b) P Q 0 v)) :
    Calls Tryz.prog 52 #[.int .i64 kind, .agg #[.int .i64 W, v], .int .i64 a, .int .i64 b] w fun e w' => e = .returned (.tuple #[.int .i64 (if b < a then -P else P), .int .i64 Q, .int .i64 0]) ∧ Below w.heap.size w w' := by
  have HB := hideS (cbox_first w W v)
  unfold OnwH at H
  obtain ⟨lo, hlo⟩ : ∃ lo, min a b = lo := ⟨_, rfl⟩
  obtain ⟨hi, hhi⟩ : ∃ hi, max a b = hi := ⟨_, rfl⟩
  rw [hlo, hhi] at H
  by_cases hab : b < a
  · rw [if_pos hab]
    go_enter Tryz.func52, Tryz.ntmps52
    go_wp2_with (go_at_call 87; refine (H.out _ HB.out).mono ?_; rintro e w1 ⟨rfl, hb⟩)
    go_ret3
    exact ⟨rfl, HB.out.trans (hb.mono HB.out.size)⟩
  · rw [if_neg hab]
    go_enter Tryz.func52, Tryz.ntmps52
    go_wp2_with (go_at_call 87; refine (H.out _ HB.out).mono ?_; rintro e w1 ⟨rfl, hb⟩)
    go_ret3
    exact ⟨rfl, HB.out.trans (hb.mono HB.out.size)⟩
def FracH (w : World) (kind W a b P Q E : Int) (v : Value) : Prop := ∀ wx, Below w.heap.size w wx → Calls Tryz.prog 52 #[.int .i64 kind, .agg #[.int .i64 W, v], .int .i64 a, .int .i64 b] wx fun e w' => e = .returned (.tuple #[.int .i64 P, .int .i64 Q, .int .i64 E]) ∧ Below wx.heap.size wx w'
theorem OnwH.later {w wx : World} {kind W a b P Q E : Int} {v : Value} (h : OnwH w kind W a b P Q E v) (hb : Below w.heap.size w wx) : OnwH wx kind W a b P Q E v := fun wy hy => h wy (hb.trans (hy.mono hb.size))
theorem lohi_day {a b : Int} (ha : isDayP a) (hb : isDayP b) : isDayP (min a b) ∧ isDayP (max a b) := by
  unfold isDayP at *; omega
theorem fracS_lohi (op : Int → Bool) (kind a b : Int) : (if b < a then -fracP op kind (min a b) (max a b) else fracP op kind (min a b) (max a b)) = fracS op kind a b := by
  unfold fracS
  by_cases h : b < a
  · rw [if_pos h, if_pos h, show min a b = b by omega, show max a b = a by omega]
  · rw [if_neg h, if_neg h, show min a b = a by omega, show max a b = b by omega]
theorem fracH_ok (op : Int → Bool) (kind W a b : Int) (v : Value) (w : World) (hk : 1 ≤ kind) (hk' : kind ≤ 5) (ha : isDayP a) (hb : isDayP b) : FracH w kind W a b (fracS op kind a b) (fracQ kind) 0 v := fun wx hbx => by
  obtain ⟨hl, hh⟩ := lohi_day ha hb
  have bd := fracP_bd op (kind := kind) hl hh (by omega)
  rw [← fracS_lohi]
  exact frac_run kind W a b _ _ v wx bd.1 bd.2 ((onward_ok op kind W _ _ v w hk hk' hl hh).later hbx)
end Go.Proofs.YtcmbfflemoccmaaGreat
