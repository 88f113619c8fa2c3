/- The contracts of Third and Easter, of the program and of the document's answer. -/
import Derived.Test.YtglkhoekpafddaaDRefOf
import Derived.Test.YtglkhoekpafddaaDEast
namespace Go.Proofs.Ytglkhoekpafddaa
open Go.RowKit

/-- The first day from n on that is a Wednesday. -/
def wedI (n : Int) : Int := n + (9 - n) % 7
def thirdI (y m : Int) : Int := wedI (dayI y m 1) + 14
theorem okD_first {y m : Int} (h : ymB y m) (d : Int) (h1 : 1 ≤ d) (h2 : d ≤ 28) : okD y m d := by
  obtain ⟨a, b, c, e⟩ := h
  have := len_lo y m
  exact ⟨a, b, c, e, h1, by omega⟩
theorem okD_ym {y m d : Int} (h : okD y m d) : ymB y m := ⟨h.1, h.2.1, h.2.2.1, h.2.2.2.1⟩

def eaDay (y : Int) : Int := dayI y (eaT y / 31) (eaT y % 31 + 1)

/-- Letters for Easter's steps, as the walk meets them. -/
structure EaW (y a b c d e f g h i k l m t : Int) : Prop where
  fa : y % 19 = a
  fb : y / 100 = b
  fc : y % 100 = c
  fd : b / 4 = d
  fe : b % 4 = e
  ff : (b + 8) / 25 = f
  fg : (b - f + 1) / 3 = g
  fh : (19 * a + b - d - g + 15) % 30 = h
  fi : c / 4 = i
  fk : c % 4 = k
  fl : (32 + 2 * e + 2 * i - h - k) % 7 = l
  fm : (a + 11 * h + 22 * l) / 451 = m
  ft : h + l - 7 * m + 114 = t
theorem eaW_ex (y : Int) : ∃ a b c d e f g h i k l m, EaW y a b c d e f g h i k l m (eaT y) :=
  ⟨_, _, _, _, _, _, _, _, _, _, _, _, ⟨rfl, rfl, rfl, rfl, rfl, rfl, rfl, rfl, rfl, rfl, rfl, rfl, rfl⟩⟩

set_option maxHeartbeats 800000 in
theorem easterP_any (y : Int) (w : World) (h0 : 1900 ≤ y) (h1 : y ≤ 2199) :
    Calls Try.prog 100 #[.int .i64 y] w fun e w' => e = .returned (.tuple #[.int .i64 (eaT y / 31), .int .i64 (eaT y % 31 + 1)]) ∧ w' = w := by
  obtain ⟨a, b, c, d, e, f, g, h, i, k, l, m, H⟩ := eaW_ex y
  have t0 := (ea_ok h0 h1).pos
  have t1 := (ea_ok h0 h1).small
  generalize eaT y = t at *
  obtain ⟨ea, eb, ec, ed, ee, ef, eg, eh, ei, ek, el, em, et⟩ := H
  have a0 : 0 ≤ a ∧ a ≤ 18 := by omega
  have b0 : 19 ≤ b ∧ b ≤ 21 := by omega
  have c0 : 0 ≤ c ∧ c ≤ 99 := by omega
  have d0 : 0 ≤ d ∧ d ≤ 5 := by omega
  have e0 : 0 ≤ e ∧ e ≤ 3 := by omega
  have f0 : 0 ≤ f ∧ f ≤ 2 := by omega
  have g0 : 0 ≤ g ∧ g ≤ 8 := by omega
  have hx : 0 ≤ h ∧ h ≤ 29 := by omega
  have i0 : 0 ≤ i ∧ i ≤ 24 := by omega
  have k0 : 0 ≤ k ∧ k ≤ 3 := by omega
  have l0 : 0 ≤ l ∧ l ≤ 6 := by omega
  have m0 : 0 ≤ m ∧ m ≤ 2 := by omega
  obtain ⟨a0, a1⟩ := a0
  obtain ⟨b0, b1⟩ := b0
  obtain ⟨c0, c1⟩ := c0
  obtain ⟨d0, d1⟩ := d0
  obtain ⟨e0, e1⟩ := e0
  obtain ⟨f0, f1⟩ := f0
  obtain ⟨g0, g1⟩ := g0
  obtain ⟨hx, hx1⟩ := hx
  obtain ⟨i0, i1⟩ := i0
  obtain ⟨k0, k1⟩ := k0
  obtain ⟨l0, l1⟩ := l0
  obtain ⟨m0, m1⟩ := m0
  go_enter Try.func100, Try.ntmps100
  go_wp2_with fail
  go_ret2
  exact ⟨rfl, rfl⟩

theorem easter_ok (y : Int) (w : World) (h0 : 1900 ≤ y) (h1 : y ≤ 2199) :
    Calls Try.prog 99 #[.int .i64 y] w fun e w' => e = .returned (.tuple #[.int .i64 (eaDay y), .int .i64 0]) ∧ w' = w := by
  have HY : Hid (∀ w, Calls Try.prog 74 #[.int .i64 y] w fun e w' => e = .returned (.bool true) ∧ w' = w) := fun w => by
    have hy := isYear_any y w
    rw [decide_eq_true (⟨h0, h1⟩ : 1900 ≤ y ∧ y ≤ 2199)] at hy; exact hy
  have HE := hideS (easterP_any y w h0 h1)
  have HO := hideS (ofP_ok y (eaT y / 31) (eaT y % 31 + 1) w (ea_ok h0 h1).ok)
  unfold eaDay
  generalize dayI y (eaT y / 31) (eaT y % 31 + 1) = R at *
  generalize eaT y / 31 = M at *
  generalize eaT y % 31 + 1 = D at *
  go_enter Try.func99, Try.ntmps99
  go_wp2_with (first | (go_at_call 74; refine (HY.out _).mono ?_; rintro e w' ⟨rfl, rfl⟩) | (go_at_call 100; refine HE.out.mono ?_; rintro e w' ⟨rfl, rfl⟩) | (go_at_call 57; refine HO.out.mono ?_; rintro e w' ⟨rfl, rfl⟩))
  go_ret2
  exact ⟨rfl, rfl⟩
theorem easter_bad (y : Int) (w : World) (h : ¬ (1900 ≤ y ∧ y ≤ 2199)) :
    Calls Try.prog 99 #[.int .i64 y] w fun e w' => e = .returned (.tuple #[.int .i64 0, .int .i64 50]) ∧ w' = w := by
  have HY : Hid (∀ w, Calls Try.prog 74 #[.int .i64 y] w fun e w' => e = .returned (.bool false) ∧ w' = w) := fun w => by
    have hy := isYear_any y w
    rw [decide_eq_false h] at hy; exact hy
  clear h
  go_enter Try.func99, Try.ntmps99
  go_wp2_with (go_at_call 74; refine (HY.out _).mono ?_; rintro e w' ⟨rfl, rfl⟩)
  go_ret2
  exact ⟨rfl, rfl⟩

set_option maxHeartbeats 1600000 in
theorem refEaster_ok (y : Int) (w : World) (h0 : 1900 ≤ y) (h1 : y ≤ 2199) :
    Calls Try.prog 64 #[.int .i64 y] w fun e w' => e = .returned (.tuple #[.int .i64 (eaDay y), .int .i64 0]) ∧ w' = w := by
  have HO := hideS (refOf_ok y (eaT y / 31) (eaT y % 31 + 1) w (ea_ok h0 h1).ok)
  unfold eaDay
  generalize dayI y (eaT y / 31) (eaT y % 31 + 1) = R at *
  obtain ⟨a, b, c, d, e, f, g, h, i, k, l, m, H⟩ := eaW_ex y
  have t0 := (ea_ok h0 h1).pos
  have t1 := (ea_ok h0 h1).small
  generalize eaT y = t at *
  obtain ⟨ea, eb, ec, ed, ee, ef, eg, eh, ei, ek, el, em, et⟩ := H
  have a0 : 0 ≤ a ∧ a ≤ 18 := by omega
  have b0 : 19 ≤ b ∧ b ≤ 21 := by omega
  have c0 : 0 ≤ c ∧ c ≤ 99 := by omega
  have d0 : 0 ≤ d ∧ d ≤ 5 := by omega
  have e0 : 0 ≤ e ∧ e ≤ 3 := by omega
  have f0 : 0 ≤ f ∧ f ≤ 2 := by omega
  have g0 : 0 ≤ g ∧ g ≤ 8 := by omega
  have hx : 0 ≤ h ∧ h ≤ 29 := by omega
  have i0 : 0 ≤ i ∧ i ≤ 24 := by omega
  have k0 : 0 ≤ k ∧ k ≤ 3 := by omega
  have l0 : 0 ≤ l ∧ l ≤ 6 := by omega
  have m0 : 0 ≤ m ∧ m ≤ 2 := by omega
  obtain ⟨a0, a1⟩ := a0
  obtain ⟨b0, b1⟩ := b0
  obtain ⟨c0, c1⟩ := c0
  obtain ⟨d0, d1⟩ := d0
  obtain ⟨e0, e1⟩ := e0
  obtain ⟨f0, f1⟩ := f0
  obtain ⟨g0, g1⟩ := g0
  obtain ⟨hx, hx1⟩ := hx
  obtain ⟨i0, i1⟩ := i0
  obtain ⟨k0, k1⟩ := k0
  obtain ⟨l0, l1⟩ := l0
  obtain ⟨m0, m1⟩ := m0
  go_enter Try.func64, Try.ntmps64
  go_wp2_with (go_at_call 62; refine HO.out.mono ?_; rintro e w' ⟨rfl, rfl⟩)
  go_ret2
  exact ⟨rfl, rfl⟩
theorem refEaster_bad (y : Int) (w : World) (h : ¬ (1900 ≤ y ∧ y ≤ 2199)) :
    Calls Try.prog 64 #[.int .i64 y] w fun e w' => e = .returned (.tuple #[.int .i64 0, .int .i64 50]) ∧ w' = w := by
  rcases (show y < 1900 ∨ (1900 ≤ y ∧ 2199 < y) by omega) with h1 | ⟨h1, h2⟩
  all_goals
    clear h
    go_enter Try.func64, Try.ntmps64
    go_wp2_with fail
    go_ret2
    exact ⟨rfl, rfl⟩
end Go.Proofs.Ytglkhoekpafddaa
