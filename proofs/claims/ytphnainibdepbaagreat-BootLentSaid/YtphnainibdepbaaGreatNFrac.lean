/- The contracts of onward and Fraction. -/
import Derived.Test.YtphnainibdepbaaGreatHap
import Derived.Test.YtphnainibdepbaaGreatHam
import Derived.Test.YtphnainibdepbaaGreatHar
namespace Go.Proofs.YtphnainibdepbaaGreat
open Go.RowKit

theorem cbox_first (w : World) (W : Int) (v : Value) : Below w.heap.size w (w.alloc (.cells #[.int .i64 W, v] 24)) := (Below.refl w.heap.size w).alloc (Nat.le_refl _) _

set_option maxHeartbeats 800000 in
theorem onward_days (kind W a b P E : Int) (v : Value) (w : World) (hk : kind = 1 ∨ kind = 2)
    (H : Hid (∀ wx, Calls Tryz.prog 88 #[.int .i64 a, .int .i64 b] wx fun e w' => e = .returned (.tuple #[.int .i64 P, .int .i64 E]) ∧ w' = wx)) :
    Calls Tryz.prog 63 #[.int .i64 kind, .agg #[.int .i64 W, v], .int .i64 a, .int .i64 b] w fun e w' => e = .returned (.tuple #[.int .i64 P, .int .i64 (fracQ kind), .int .i64 E]) ∧ Below w.heap.size w w' := by
  have HB := hideS (cbox_first w W v)
  rcases hk with rfl | rfl
  all_goals
    go_enter Tryz.func63, Tryz.ntmps63
    go_wp2_with (go_at_call 88; refine (H.out _).mono ?_; rintro e w' ⟨rfl, rfl⟩)
    go_ret3
    exact ⟨rfl, HB.out⟩
set_option maxHeartbeats 800000 in
theorem onward_act (W a b P E : Int) (v : Value) (w : World)
    (H : Hid (∀ wx, Calls Tryz.prog 89 #[.int .i64 a, .int .i64 b] wx fun e w' => e = .returned (.tuple #[.int .i64 P, .int .i64 E]) ∧ w' = wx)) :
    Calls Tryz.prog 63 #[.int .i64 3, .agg #[.int .i64 W, v], .int .i64 a, .int .i64 b] w fun e w' => e = .returned (.tuple #[.int .i64 P, .int .i64 (fracQ 3), .int .i64 E]) ∧ Below w.heap.size w w' := by
  have HB := hideS (cbox_first w W v)
  go_enter Tryz.func63, Tryz.ntmps63
  go_wp2_with (go_at_call 89; refine (H.out _).mono ?_; rintro e w' ⟨rfl, rfl⟩)
  go_ret3
  exact ⟨rfl, HB.out⟩
set_option maxHeartbeats 800000 in
theorem onward_thir (kind L W a b P E : Int) (v : Value) (w : World) (hk : (kind = 4 ∧ L = 31) ∨ (kind = 5 ∧ L = 30))
    (H : Hid (∀ wx, Calls Tryz.prog 90 #[.int .i64 a, .int .i64 b, .int .i64 L] wx fun e w' => e = .returned (.tuple #[.int .i64 P, .int .i64 E]) ∧ w' = wx)) :
    Calls Tryz.prog 63 #[.int .i64 kind, .agg #[.int .i64 W, v], .int .i64 a, .int .i64 b] w fun e w' => e = .returned (.tuple #[.int .i64 P, .int .i64 (fracQ kind), .int .i64 E]) ∧ Below w.heap.size w w' := by
  have HB := hideS (cbox_first w W v)
  rcases hk with ⟨rfl, rfl⟩ | ⟨rfl, rfl⟩
  all_goals
    go_enter Tryz.func63, Tryz.ntmps63
    go_wp2_with (go_at_call 90; refine (H.out _).mono ?_; rintro e w' ⟨rfl, rfl⟩)
    go_ret3
    exact ⟨rfl, HB.out⟩
set_option maxHeartbeats 800000 in
theorem onward_open (W a b P E : Int) (v : Value) (w : World)
    (H : Hid (∀ wx, Below w.heap.size w wx → Calls Tryz.prog 91 #[.agg #[.int .i64 W, v], .int .i64 a, .int .i64 b] wx fun e w' => e = .returned (.tuple #[.int .i64 P, .int .i64 E]) ∧ Below wx.heap.size wx w')) :
    Calls Tryz.prog 63 #[.int .i64 6, .agg #[.int .i64 W, v], .int .i64 a, .int .i64 b] w fun e w' => e = .returned (.tuple #[.int .i64 P, .int .i64 (fracQ 6), .int .i64 E]) ∧ Below w.heap.size w w' := by
  have HB := hideS (cbox_first w W v)
  go_enter Tryz.func63, Tryz.ntmps63
  go_wp2_with (go_at_call 91; refine (H.out _ HB.out).mono ?_; rintro e w1 ⟨rfl, hb⟩)
  go_ret3
  exact ⟨rfl, HB.out.trans (hb.mono HB.out.size)⟩
set_option maxHeartbeats 1600000 in
theorem onward_kind (kind W a b : Int) (v : Value) (w : World) (hk : ¬ (1 ≤ kind ∧ kind ≤ 6)) :
    Calls Tryz.prog 63 #[.int .i64 kind, .agg #[.int .i64 W, v], .int .i64 a, .int .i64 b] w fun e w' => e = .returned (.tuple #[.int .i64 0, .int .i64 360, .int .i64 70]) ∧ Below w.heap.size w w' := by
  have HB := hideS (cbox_first w W v)
  have k1 : (kind == 1) = false := beq_false_of_ne (by omega)
  have k2 : (kind == 2) = false := beq_false_of_ne (by omega)
  have k3 : (kind == 3) = false := beq_false_of_ne (by omega)
  have k4 : (kind == 4) = false := beq_false_of_ne (by omega)
  have k5 : (kind == 5) = false := beq_false_of_ne (by omega)
  have k6 : (kind == 6) = false := beq_false_of_ne (by omega)
  clear hk
  go_enter Tryz.func63, Tryz.ntmps63
  go_wp2_with fail
  go_ret3
  exact ⟨rfl, HB.out⟩

def OnwH (w : World) (kind W a b P Q E : Int) (v : Value) : Prop := ∀ wx, Below w.heap.size w wx → Calls Tryz.prog 63 #[.int .i64 kind, .agg #[.int .i64 W, v], .int .i64 a, .int .i64 b] wx fun e w' => e = .returned (.tuple #[.int .i64 P, .int .i64 Q, .int .i64 E]) ∧ Below wx.heap.size wx w'
theorem onward_ok (op : Int → Bool) (kind W a b : Int) (v : Value) (w : World) (hk : 1 ≤ kind) (hk' : kind ≤ 5) (ha : isDayP a) (hb : isDayP b) : OnwH w kind W a b (fracP op kind a b) (fracQ kind) 0 v := fun wx _ => by
  obtain ⟨ya, ma, da, hA⟩ := isD_ex ha.1 ha.2
  obtain ⟨yb, mb, db, hB⟩ := isD_ex hb.1 hb.2
  obtain ⟨e1, e2, e3⟩ := date_of hA
  obtain ⟨f1, f2, f3⟩ := date_of hB
  unfold fracP
  rw [e1, e2, e3, f1, f2, f3]
  by_cases h12 : kind = 1 ∨ kind = 2
  · rw [if_pos h12]
    exact onward_days kind W a b _ _ v wx h12 (fun wy => daysP_ok a b wy ha hb)
  · rw [if_neg h12]
    by_cases h3 : kind = 3
    · subst h3
      rw [if_pos rfl]
      exact onward_act W a b _ _ v wx (fun wy => actualP_ok a b ya ma da yb mb db wy hA hB)
    · rw [if_neg h3, if_neg (by omega)]
      by_cases h4 : kind = 4
      · exact onward_thir kind 31 W a b _ _ v wx (Or.inl ⟨h4, rfl⟩) (fun wy => thirties_ok kind a b 31 ya ma da yb mb db wy hA hB (Or.inl ⟨h4, rfl⟩))
      · exact onward_thir kind 30 W a b _ _ v wx (Or.inr ⟨by omega, rfl⟩) (fun wy => thirties_ok kind a b 30 ya ma da yb mb db wy hA hB (Or.inr ⟨by omega, rfl⟩))
theorem onward_six (W a b : Int) (p : Option Addr) (bb off c : Nat) (rs : List Rul) (w : World) (h : OkC W rs) (hs : RSrc w p bb off rs) (ha : isDayP a) (hb : isDayP b) (hab : a ≤ b) : OnwH w 6 W a b (fracP (opB W rs) 6 a b) (fracQ 6) 0 (.slice p rs.length c) := fun wx hbx => by
  unfold fracP
  rw [if_neg (by omega), if_neg (by omega), if_pos rfl]
  exact onward_open W a b _ _ _ wx (fun wy hby => cntP_up W a b p bb off c rs wy h ((hs.below hbx).below hby) ha hb hab)
theorem onward_bad5 (kind W a b : Int) (v : Value) (w : World) (hk : 1 ≤ kind) (hk' : kind ≤ 5) (hab : a ≤ b) (h : badD a b) : OnwH w kind W a b 0 (fracQ kind) 51 v := fun wx _ => by
  by_cases h12 : kind = 1 ∨ kind = 2
  · exact onward_days kind W a b _ _ v wx h12 (fun wy => daysP_bad a b wy hab h)
  · by_cases h3 : kind = 3
    · subst h3
      exact onward_act W a b _ _ v wx (fun wy => actualP_bad a b wy hab h)
    · by_cases h4 : kind = 4
      · exact onward_thir kind 31 W a b _ _ v wx (Or.inl ⟨h4, rfl⟩) (fun wy => thirties_bad a b 31 wy h)
      · exact onward_thir kind 30 W a b _ _ v wx (Or.inr ⟨by omega, rfl⟩) (fun wy => thirties_bad a b 30 wy h)
theorem onward_bad6 (W a b A B E : Int) (p : Option Addr) (bb off c : Nat) (rs : List Rul) (w : World) (h : ChkR W rs A B) (hs : RSrc w p bb off rs) (hl : rs.length ≤ 9223372036854775807) (hE : (A ≠ 0 ∧ E = A) ∨ (A = 0 ∧ ¬ (isDayP a ∧ isDayP b) ∧ E = 51)) : OnwH w 6 W a b 0 (fracQ 6) E (.slice p rs.length c) := fun wx hbx =>
  onward_open W a b _ _ _ wx (fun wy hby => cntP_bad W a b p bb off c rs A B E wy h ((hs.below hbx).below hby) hl hE)

set_option maxHeartbeats 1600000 in
theorem frac_run (kind W a b P Q : Int) (v : Value) (w : World) (hP : -1000000000 ≤ P) (hP' : P ≤ 1000000000) (H : Hid (OnwH w kind W (min a b) (max a b) P Q 0 v)) :
    Calls Tryz.prog 43 #[.int .i64 kind, .agg #[.int .i64 W, v], .int .i64 a, .int .i64 b] w fun e w' => e = .returned (.tuple #[.int .i64 (if b < a then -P else P), .int .i64 Q, .int .i64 0]) ∧ Below w.heap.size w w' := by
  have HB := hideS (cbox_first w W v)
  unfold OnwH at H
  obtain ⟨lo, hlo⟩ : ∃ lo, min a b = lo := ⟨_, rfl⟩
  obtain ⟨hi, hhi⟩ : ∃ hi, max a b = hi := ⟨_, rfl⟩
  rw [hlo, hhi] at H
  by_cases hab : b < a
  · rw [if_pos hab]
    go_enter Tryz.func43, Tryz.ntmps43
    go_wp2_with (go_at_call 63; refine (H.out _ HB.out).mono ?_; rintro e w1 ⟨rfl, hb⟩)
    go_ret3
    exact ⟨rfl, HB.out.trans (hb.mono HB.out.size)⟩
  · rw [if_neg hab]
    go_enter Tryz.func43, Tryz.ntmps43
    go_wp2_with (go_at_call 63; refine (H.out _ HB.out).mono ?_; rintro e w1 ⟨rfl, hb⟩)
    go_ret3
    exact ⟨rfl, HB.out.trans (hb.mono HB.out.size)⟩
set_option maxHeartbeats 1600000 in
theorem frac_err (kind W a b P Q E : Int) (v : Value) (w : World) (hE : E ≠ 0) (H : Hid (OnwH w kind W (min a b) (max a b) P Q E v)) :
    Calls Tryz.prog 43 #[.int .i64 kind, .agg #[.int .i64 W, v], .int .i64 a, .int .i64 b] w fun e w' => e = .returned (.tuple #[.int .i64 0, .int .i64 0, .int .i64 E]) ∧ Below w.heap.size w w' := by
  have HB := hideS (cbox_first w W v)
  unfold OnwH at H
  obtain ⟨lo, hlo⟩ : ∃ lo, min a b = lo := ⟨_, rfl⟩
  obtain ⟨hi, hhi⟩ : ∃ hi, max a b = hi := ⟨_, rfl⟩
  rw [hlo, hhi] at H
  have hE' : (E != 0) = true := bne_iff_ne.2 hE
  clear hE
  go_enter Tryz.func43, Tryz.ntmps43
  go_wp2_with (go_at_call 63; refine (H.out _ HB.out).mono ?_; rintro e w1 ⟨rfl, hb⟩)
  go_ret3
  exact ⟨rfl, HB.out.trans (hb.mono HB.out.size)⟩

def FracH (w : World) (kind W a b P Q E : Int) (v : Value) : Prop := ∀ wx, Below w.heap.size w wx → Calls Tryz.prog 43 #[.int .i64 kind, .agg #[.int .i64 W, v], .int .i64 a, .int .i64 b] wx fun e w' => e = .returned (.tuple #[.int .i64 P, .int .i64 Q, .int .i64 E]) ∧ Below wx.heap.size wx w'
theorem OnwH.later {w wx : World} {kind W a b P Q E : Int} {v : Value} (h : OnwH w kind W a b P Q E v) (hb : Below w.heap.size w wx) : OnwH wx kind W a b P Q E v := fun wy hy => h wy (hb.trans (hy.mono hb.size))
theorem lohi_day {a b : Int} (ha : isDayP a) (hb : isDayP b) : isDayP (min a b) ∧ isDayP (max a b) := by
  unfold isDayP at *; omega
theorem lohi_bad {a b : Int} (h : badD a b) : badD (min a b) (max a b) := by
  unfold badD isDayP at *; omega
theorem fracS_lohi (op : Int → Bool) (kind a b : Int) : (if b < a then -fracP op kind (min a b) (max a b) else fracP op kind (min a b) (max a b)) = fracS op kind a b := by
  unfold fracS
  by_cases h : b < a
  · rw [if_pos h, if_pos h, show min a b = b by omega, show max a b = a by omega]
  · rw [if_neg h, if_neg h, show min a b = a by omega, show max a b = b by omega]
theorem fracH_ok (op : Int → Bool) (kind W a b : Int) (v : Value) (w : World) (hk : 1 ≤ kind) (hk' : kind ≤ 5) (ha : isDayP a) (hb : isDayP b) : FracH w kind W a b (fracS op kind a b) (fracQ kind) 0 v := fun wx hbx => by
  obtain ⟨hl, hh⟩ := lohi_day ha hb
  have bd := fracP_bd op (kind := kind) hl hh (by omega)
  rw [← fracS_lohi]
  exact frac_run kind W a b _ _ v wx bd.1 bd.2 ((onward_ok op kind W _ _ v w hk hk' hl hh).later hbx)
theorem fracH_six (W a b : Int) (p : Option Addr) (bb off c : Nat) (rs : List Rul) (w : World) (h : OkC W rs) (hs : RSrc w p bb off rs) (ha : isDayP a) (hb : isDayP b) : FracH w 6 W a b (fracS (opB W rs) 6 a b) (fracQ 6) 0 (.slice p rs.length c) := fun wx hbx => by
  obtain ⟨hl, hh⟩ := lohi_day ha hb
  have bd := fracP_bd (opB W rs) (kind := 6) hl hh (by omega)
  rw [← fracS_lohi]
  exact frac_run 6 W a b _ _ _ wx bd.1 bd.2 ((onward_six W _ _ p bb off c rs w h hs hl hh (by omega)).later hbx)
theorem fracH_kind (kind W a b : Int) (v : Value) (w : World) (hk : ¬ (1 ≤ kind ∧ kind ≤ 6)) : FracH w kind W a b 0 0 70 v := fun wx _ =>
  frac_err kind W a b 0 360 70 v wx (by decide) (fun wy _ => onward_kind kind W _ _ v wy hk)
theorem fracH_bad5 (kind W a b : Int) (v : Value) (w : World) (hk : 1 ≤ kind) (hk' : kind ≤ 5) (h : badD a b) : FracH w kind W a b 0 0 51 v := fun wx hbx =>
  frac_err kind W a b 0 _ 51 v wx (by decide) ((onward_bad5 kind W _ _ v w hk hk' (by omega) (lohi_bad h)).later hbx)
theorem fracH_bad6 (W a b A B E : Int) (p : Option Addr) (bb off c : Nat) (rs : List Rul) (w : World) (h : ChkR W rs A B) (hs : RSrc w p bb off rs) (hl : rs.length ≤ 9223372036854775807) (hE : (A ≠ 0 ∧ E = A) ∨ (A = 0 ∧ badD a b ∧ E = 51)) : FracH w 6 W a b 0 0 E (.slice p rs.length c) := fun wx hbx => by
  have hE' : (A ≠ 0 ∧ E = A) ∨ (A = 0 ∧ ¬ (isDayP (min a b) ∧ isDayP (max a b)) ∧ E = 51) := hE.imp id (fun ⟨x, y, z⟩ => ⟨x, lohi_bad y, z⟩)
  have hne : E ≠ 0 := by rcases hE with ⟨x, y⟩ | ⟨_, _, y⟩ <;> omega
  exact frac_err 6 W a b 0 _ E _ wx hne ((onward_bad6 W _ _ A B E p bb off c rs w h hs hl hE').later hbx)
inductive FracR (kind W a b : Int) (rs : List Rul) : Int → Int → Int → Prop
  | fine (hk : 1 ≤ kind) (hk' : kind ≤ 6) (ha : isDayP a) (hb : isDayP b) (h6 : kind = 6 → OkC W rs) : FracR kind W a b rs (fracS (opB W rs) kind a b) (fracQ kind) 0
  | kind (h : ¬ (1 ≤ kind ∧ kind ≤ 6)) : FracR kind W a b rs 0 0 70
  | cal (A B : Int) (h6 : kind = 6) (h : ChkR W rs A B) (hA : A ≠ 0) : FracR kind W a b rs 0 0 A
  | day (hk : 1 ≤ kind) (hk' : kind ≤ 6) (h : badD a b) (h6 : kind = 6 → OkC W rs) : FracR kind W a b rs 0 0 51
theorem FracR.prog {kind W a b P Q E : Int} {rs : List Rul} (h : FracR kind W a b rs P Q E) (p : Option Addr) (bb off c : Nat) (w : World) (hs : RSrc w p bb off rs) (hl : rs.length ≤ 9223372036854775807) : FracH w kind W a b P Q E (.slice p rs.length c) := by
  cases h with
  | fine hk hk' ha hb h6 =>
    by_cases e : kind = 6
    · subst e; exact fracH_six W a b p bb off c rs w (h6 rfl) hs ha hb
    · exact fracH_ok _ kind W a b _ w hk (by omega) ha hb
  | kind h => exact fracH_kind kind W a b _ w h
  | cal A B h6 h hA =>
    subst h6; exact fracH_bad6 W a b E B E p bb off c rs w h hs hl (Or.inl ⟨hA, rfl⟩)
  | day hk hk' h h6 =>
    by_cases e : kind = 6
    · subst e; exact fracH_bad6 W a b 0 0 51 p bb off c rs w (.ok (h6 rfl)) hs hl (Or.inr ⟨rfl, h, rfl⟩)
    · exact fracH_bad5 kind W a b _ w hk (by omega) h
end Go.Proofs.YtphnainibdepbaaGreat
