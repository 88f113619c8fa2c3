/- The contracts of Third and Easter, of the program and of the document's answer. Rules and their days: no word of the program. -/
import Derived.Test.YtelghkhcplmnmaaHac
import Derived.Test.YtelghkhcplmnmaaHaa
import Derived.Test.YtelghkhcplmnmaaHab
namespace Go.Proofs.Ytelghkhcplmnmaa
open Go.RowKit

/-- The first day from n on that is a Wednesday. -/
def wedI (n : Int) : Int := n + (9 - n) % 7
def thirdI (y m : Int) : Int := wedI (dayI y m 1) + 14
theorem okD_first {y m : Int} (h : ymB y m) (d : Int) (h1 : 1 ≤ d) (h2 : d ≤ 28) : okD y m d := by
  obtain ⟨a, b, c, e⟩ := h
  have := len_lo y m
  exact ⟨a, b, c, e, h1, by omega⟩
theorem okD_ym {y m d : Int} (h : okD y m d) : ymB y m := ⟨h.1, h.2.1, h.2.2.1, h.2.2.2.1⟩

theorem third_ok (y m : Int) (w : World) (h : ymB y m) :
    Calls Try.prog 60 #[.int .i64 y, .int .i64 m] w fun e w' => e = .returned (.tuple #[.int .i64 (thirdI y m), .int .i64 0]) ∧ w' = w := by
  have HO := hideS (ofP_ok y m 1 w (okD_first h 1 (by omega) (by omega)))
  obtain ⟨n0, n1⟩ := (isD_of (okD_first h 1 (by omega) (by omega))).range
  unfold thirdI wedI
  generalize dayI y m 1 = n at *
  clear h
  go_enter Try.func60, Try.ntmps60
  go_wp2_with (go_at_call 68; refine HO.out.mono ?_; rintro e w' ⟨rfl, rfl⟩)
  go_ret2
  exact ⟨rfl, rfl⟩
theorem third_bad (y m : Int) (w : World) (h : ¬ ymB y m) :
    Calls Try.prog 60 #[.int .i64 y, .int .i64 m] w fun e w' => e = .returned (.tuple #[.int .i64 0, .int .i64 50]) ∧ w' = w := by
  have HO := hideS (ofP_bad y m 1 w (fun a => h (okD_ym a)))
  clear h
  go_enter Try.func60, Try.ntmps60
  go_wp2_with (go_at_call 68; refine HO.out.mono ?_; rintro e w' ⟨rfl, rfl⟩)
  go_ret2
  exact ⟨rfl, rfl⟩

theorem third_eq (y m : Int) : thirdI y m = wedI (dayI y m 15) := by
  have e : dayI y m 15 = dayI y m 1 + 14 := by unfold dayI; omega
  unfold thirdI wedI
  rw [e]
  omega

set_option maxHeartbeats 400000 in
theorem refThird_ok (y m : Int) (w : World) (h : ymB y m) :
    Calls Try.prog 46 #[.int .i64 y, .int .i64 m] w fun e w' => e = .returned (.tuple #[.int .i64 (thirdI y m), .int .i64 0]) ∧ w' = w := by
  have HO := hideS (refOf_ok y m 15 w (okD_first h 15 (by omega) (by omega)))
  obtain ⟨n0, n1⟩ := (isD_of (okD_first h 15 (by omega) (by omega))).range
  rw [third_eq]
  generalize dayI y m 15 = n at *
  clear h
  obtain ⟨t, ht⟩ : ∃ t, wedI n = t := ⟨_, rfl⟩
  rw [ht]
  unfold wedI at ht
  have HT := hideS ht
  clear ht
  go_enter Try.func46, Try.ntmps46
  go_wp2_with (go_at_call 45; refine HO.out.mono ?_; rintro e w' ⟨rfl, rfl⟩)
  clear HO
  go_loop [6] (fun i => ∃ (k : Int), n ≤ k ∧ k ≤ n + 6 ∧ i = .int .i64 k ∧ Hid (k + (9 - k) % 7 = t)) (fun i => (t - intOf i).toNat)
  case atStart => exact ⟨n, by omega, by omega, rfl, HT⟩
  case round =>
    obtain ⟨k, hk1, hk2, rfl, HK⟩ := hrel
    by_cases hw : k % 7 = 2
    · have HE : Hid (k = t) := by have := HK.out; show _ = _; omega
      clear HK HT
      go_wp2_with fail
      go_ret2
      obtain rfl := HE.out
      exact ⟨rfl, rfl⟩
    · have HK' : Hid (k + 1 + (9 - (k + 1)) % 7 = t) := by have := HK.out; show _ = _; omega
      have hlt : k < t := by have := HK.out; omega
      have hle : k + 1 ≤ n + 6 := by have := HK.out; have := HT.out; omega
      go_wp2_with fail
      go_round
      case rel => exact ⟨k + 1, by omega, hle, rfl, HK'⟩
      case measure => simp [intOf]; omega
theorem refThird_bad (y m : Int) (w : World) (h : ¬ ymB y m) :
    Calls Try.prog 46 #[.int .i64 y, .int .i64 m] w fun e w' => e = .returned (.tuple #[.int .i64 0, .int .i64 50]) ∧ w' = w := by
  have HO := hideS (refOf_bad y m 15 w (fun a => h (okD_ym a)))
  clear h
  go_enter Try.func46, Try.ntmps46
  go_wp2_with (go_at_call 45; refine HO.out.mono ?_; rintro e w' ⟨rfl, rfl⟩)
  go_ret2
  exact ⟨rfl, rfl⟩

def eaDay (y : Int) : Int := dayI y (eaT y / 31) (eaT y % 31 + 1)

/-- Letters for Easter's steps, as the walk meets them. -/
structure EaW (y a b c d e f g h i k l m t : Int) : Prop where
  fa : y % 19 = a
  fb : y / 100 = b
  fc : y % 100 = c
  fd : b / 4 = d
  fe : b % 4 = e
  ff : (b + 8) / 25 = f
  fg : (b - f + 1) / 3 = g
  fh : (19 * a + b - d - g + 15) % 30 = h
  fi : c / 4 = i
  fk : c % 4 = k
  fl : (32 + 2 * e + 2 * i - h - k) % 7 = l
  fm : (a + 11 * h + 22 * l) / 451 = m
  ft : h + l - 7 * m + 114 = t
theorem eaW_ex (y : Int) : ∃ a b c d e f g h i k l m, EaW y a b c d e f g h i k l m (eaT y) :=
  ⟨_, _, _, _, _, _, _, _, _, _, _, _, ⟨rfl, rfl, rfl, rfl, rfl, rfl, rfl, rfl, rfl, rfl, rfl, rfl, rfl⟩⟩

set_option maxHeartbeats 800000 in
theorem easterP_any (y : Int) (w : World) (h0 : 1900 ≤ y) (h1 : y ≤ 2199) :
    Calls Try.prog 108 #[.int .i64 y] w fun e w' => e = .returned (.tuple #[.int .i64 (eaT y / 31), .int .i64 (eaT y % 31 + 1)]) ∧ w' = w := by
  obtain ⟨a, b, c, d, e, f, g, h, i, k, l, m, H⟩ := eaW_ex y
  have t0 := (ea_ok h0 h1).pos
  have t1 := (ea_ok h0 h1).small
  generalize eaT y = t at *
  obtain ⟨ea, eb, ec, ed, ee, ef, eg, eh, ei, ek, el, em, et⟩ := H
  have a0 : 0 ≤ a ∧ a ≤ 18 := by omega
  have b0 : 19 ≤ b ∧ b ≤ 21 := by omega
  have c0 : 0 ≤ c ∧ c ≤ 99 := by omega
  have d0 : 0 ≤ d ∧ d ≤ 5 := by omega
  have e0 : 0 ≤ e ∧ e ≤ 3 := by omega
  have f0 : 0 ≤ f ∧ f ≤ 2 := by omega
  have g0 : 0 ≤ g ∧ g ≤ 8 := by omega
  have hx : 0 ≤ h ∧ h ≤ 29 := by omega
  have i0 : 0 ≤ i ∧ i ≤ 24 := by omega
  have k0 : 0 ≤ k ∧ k ≤ 3 := by omega
  have l0 : 0 ≤ l ∧ l ≤ 6 := by omega
  have m0 : 0 ≤ m ∧ m ≤ 2 := by omega
  obtain ⟨a0, a1⟩ := a0
  obtain ⟨b0, b1⟩ := b0
  obtain ⟨c0, c1⟩ := c0
  obtain ⟨d0, d1⟩ := d0
  obtain ⟨e0, e1⟩ := e0
  obtain ⟨f0, f1⟩ := f0
  obtain ⟨g0, g1⟩ := g0
  obtain ⟨hx, hx1⟩ := hx
  obtain ⟨i0, i1⟩ := i0
  obtain ⟨k0, k1⟩ := k0
  obtain ⟨l0, l1⟩ := l0
  obtain ⟨m0, m1⟩ := m0
  go_enter Try.func108, Try.ntmps108
  go_wp2_with fail
  go_ret2
  exact ⟨rfl, rfl⟩

theorem easter_ok (y : Int) (w : World) (h0 : 1900 ≤ y) (h1 : y ≤ 2199) :
    Calls Try.prog 107 #[.int .i64 y] w fun e w' => e = .returned (.tuple #[.int .i64 (eaDay y), .int .i64 0]) ∧ w' = w := by
  have HY : Hid (∀ w, Calls Try.prog 73 #[.int .i64 y] w fun e w' => e = .returned (.bool true) ∧ w' = w) := fun w => by
    have hy := isYear_any y w
    rw [decide_eq_true (⟨h0, h1⟩ : 1900 ≤ y ∧ y ≤ 2199)] at hy; exact hy
  have HE := hideS (easterP_any y w h0 h1)
  have HO := hideS (ofP_ok y (eaT y / 31) (eaT y % 31 + 1) w (ea_ok h0 h1).ok)
  unfold eaDay
  generalize dayI y (eaT y / 31) (eaT y % 31 + 1) = R at *
  generalize eaT y / 31 = M at *
  generalize eaT y % 31 + 1 = D at *
  go_enter Try.func107, Try.ntmps107
  go_wp2_with (first | (go_at_call 73; refine (HY.out _).mono ?_; rintro e w' ⟨rfl, rfl⟩) | (go_at_call 108; refine HE.out.mono ?_; rintro e w' ⟨rfl, rfl⟩) | (go_at_call 68; refine HO.out.mono ?_; rintro e w' ⟨rfl, rfl⟩))
  go_ret2
  exact ⟨rfl, rfl⟩
theorem easter_bad (y : Int) (w : World) (h : ¬ (1900 ≤ y ∧ y ≤ 2199)) :
    Calls Try.prog 107 #[.int .i64 y] w fun e w' => e = .returned (.tuple #[.int .i64 0, .int .i64 50]) ∧ w' = w := by
  have HY : Hid (∀ w, Calls Try.prog 73 #[.int .i64 y] w fun e w' => e = .returned (.bool false) ∧ w' = w) := fun w => by
    have hy := isYear_any y w
    rw [decide_eq_false h] at hy; exact hy
  clear h
  go_enter Try.func107, Try.ntmps107
  go_wp2_with (go_at_call 73; refine (HY.out _).mono ?_; rintro e w' ⟨rfl, rfl⟩)
  go_ret2
  exact ⟨rfl, rfl⟩

set_option maxHeartbeats 1600000 in
theorem refEaster_ok (y : Int) (w : World) (h0 : 1900 ≤ y) (h1 : y ≤ 2199) :
    Calls Try.prog 82 #[.int .i64 y] w fun e w' => e = .returned (.tuple #[.int .i64 (eaDay y), .int .i64 0]) ∧ w' = w := by
  have HO := hideS (refOf_ok y (eaT y / 31) (eaT y % 31 + 1) w (ea_ok h0 h1).ok)
  unfold eaDay
  generalize dayI y (eaT y / 31) (eaT y % 31 + 1) = R at *
  obtain ⟨a, b, c, d, e, f, g, h, i, k, l, m, H⟩ := eaW_ex y
  have t0 := (ea_ok h0 h1).pos
  have t1 := (ea_ok h0 h1).small
  generalize eaT y = t at *
  obtain ⟨ea, eb, ec, ed, ee, ef, eg, eh, ei, ek, el, em, et⟩ := H
  have a0 : 0 ≤ a ∧ a ≤ 18 := by omega
  have b0 : 19 ≤ b ∧ b ≤ 21 := by omega
  have c0 : 0 ≤ c ∧ c ≤ 99 := by omega
  have d0 : 0 ≤ d ∧ d ≤ 5 := by omega
  have e0 : 0 ≤ e ∧ e ≤ 3 := by omega
  have f0 : 0 ≤ f ∧ f ≤ 2 := by omega
  have g0 : 0 ≤ g ∧ g ≤ 8 := by omega
  have hx : 0 ≤ h ∧ h ≤ 29 := by omega
  have i0 : 0 ≤ i ∧ i ≤ 24 := by omega
  have k0 : 0 ≤ k ∧ k ≤ 3 := by omega
  have l0 : 0 ≤ l ∧ l ≤ 6 := by omega
  have m0 : 0 ≤ m ∧ m ≤ 2 := by omega
  obtain ⟨a0, a1⟩ := a0
  obtain ⟨b0, b1⟩ := b0
  obtain ⟨c0, c1⟩ := c0
  obtain ⟨d0, d1⟩ := d0
  obtain ⟨e0, e1⟩ := e0
  obtain ⟨f0, f1⟩ := f0
  obtain ⟨g0, g1⟩ := g0
  obtain ⟨hx, hx1⟩ := hx
  obtain ⟨i0, i1⟩ := i0
  obtain ⟨k0, k1⟩ := k0
  obtain ⟨l0, l1⟩ := l0
  obtain ⟨m0, m1⟩ := m0
  go_enter Try.func82, Try.ntmps82
  go_wp2_with (go_at_call 45; refine HO.out.mono ?_; rintro e w' ⟨rfl, rfl⟩)
  go_ret2
  exact ⟨rfl, rfl⟩
theorem refEaster_bad (y : Int) (w : World) (h : ¬ (1900 ≤ y ∧ y ≤ 2199)) :
    Calls Try.prog 82 #[.int .i64 y] w fun e w' => e = .returned (.tuple #[.int .i64 0, .int .i64 50]) ∧ w' = w := by
  rcases (show y < 1900 ∨ (1900 ≤ y ∧ 2199 < y) by omega) with h1 | ⟨h1, h2⟩
  all_goals
    clear h
    go_enter Try.func82, Try.ntmps82
    go_wp2_with fail
    go_ret2
    exact ⟨rfl, rfl⟩
end Go.Proofs.Ytelghkhcplmnmaa
namespace Go.Proofs.Ytelghkhcplmnmaa
open Go.RowKit

theorem ups_unique {W n : Int} {u d u' d' : Nat} (h : Ups W n u d) (h' : Ups W n u' d') : u = u' ∧ d = d' := by
  constructor
  · rcases Nat.lt_trichotomy u u' with e | e | e
    · have := h'.uo u e; rw [h.uf] at this; exact Bool.noConfusion this
    · exact e
    · have := h.uo u' e; rw [h'.uf] at this; exact Bool.noConfusion this
  · rcases Nat.lt_trichotomy d d' with e | e | e
    · have := h'.dn d e; rw [h.df] at this; exact Bool.noConfusion this
    · exact e
    · have := h.dn d' e; rw [h'.df] at this; exact Bool.noConfusion this
open Classical in
/-- Where a rule's day lies. -/
noncomputable def mvI (W n mv : Int) : Int := if h : ∃ p : Nat × Nat, Ups W n p.1 p.2 then movI W n mv h.choose.1 h.choose.2 else n
theorem mv_eq {W n mv : Int} {u d : Nat} (h : Ups W n u d) : mvI W n mv = movI W n mv u d := by
  have hx : ∃ p : Nat × Nat, Ups W n p.1 p.2 := ⟨(u, d), h⟩
  unfold mvI
  rw [dif_pos hx]
  have e := ups_unique hx.choose_spec h
  rw [e.1, e.2]
/-- The most days that a month ever has. -/
def mostI (m : Int) : Int := if m = 2 then 29 else if m = 4 ∨ m = 6 ∨ m = 9 ∨ m = 11 then 30 else 31
/-- May the rule be? -/
def fitB (r : Rul) : Bool :=
  if r.kind = 4 then decide (r.mon = 0 ∧ r.nth = 0 ∧ r.wd = 0 ∧ r.off = 0 ∧ r.fr = 0 ∧ r.to = 0 ∧ r.mv = 0 ∧ 0 ≤ r.day ∧ r.day ≤ 109572)
  else decide (1900 ≤ r.fr ∧ r.fr ≤ 2199 ∧ r.fr ≤ r.to ∧ r.to ≤ 2199 ∧ 0 ≤ r.mv ∧ r.mv ≤ 2) &&
    (if r.kind = 1 then decide (r.nth = 0 ∧ r.wd = 0 ∧ r.off = 0 ∧ 1 ≤ r.mon ∧ r.mon ≤ 12 ∧ 1 ≤ r.day ∧ r.day ≤ mostI r.mon)
    else if r.kind = 2 then decide (r.day = 0 ∧ r.off = 0 ∧ 1 ≤ r.mon ∧ r.mon ≤ 12 ∧ 0 ≤ r.wd ∧ r.wd ≤ 6 ∧ 1 ≤ r.nth ∧ r.nth ≤ 5)
    else if r.kind = 3 then decide (r.mon = 0 ∧ r.day = 0 ∧ r.nth = 0 ∧ r.wd = 0 ∧ -100 ≤ r.off ∧ r.off ≤ 100) else false)
/-- What a rule that may be is. -/
theorem fit_cases {r : Rul} (h : fitB r = true) :
    (r.kind = 4 ∧ 0 ≤ r.day ∧ r.day ≤ 109572 ∧ r.mv = 0) ∨
    ((1900 ≤ r.fr ∧ r.fr ≤ r.to ∧ r.to ≤ 2199 ∧ 0 ≤ r.mv ∧ r.mv ≤ 2) ∧
      ((r.kind = 1 ∧ 1 ≤ r.mon ∧ r.mon ≤ 12 ∧ 1 ≤ r.day ∧ r.day ≤ mostI r.mon) ∨ (r.kind = 2 ∧ 1 ≤ r.mon ∧ r.mon ≤ 12 ∧ 0 ≤ r.wd ∧ r.wd ≤ 6 ∧ 1 ≤ r.nth ∧ r.nth ≤ 5) ∨ (r.kind = 3 ∧ -100 ≤ r.off ∧ r.off ≤ 100))) := by
  unfold fitB at h
  by_cases k4 : r.kind = 4
  · rw [if_pos k4, decide_eq_true_eq] at h
    exact Or.inl ⟨k4, h.2.2.2.2.2.2.2.1, h.2.2.2.2.2.2.2.2, h.2.2.2.2.2.2.1⟩
  · rw [if_neg k4, Bool.and_eq_true, decide_eq_true_eq] at h
    obtain ⟨⟨a, b, c, d, e, f⟩, h⟩ := h
    refine Or.inr ⟨⟨a, c, d, e, f⟩, ?_⟩
    by_cases k1 : r.kind = 1
    · rw [if_pos k1, decide_eq_true_eq] at h
      exact Or.inl ⟨k1, h.2.2.2⟩
    · rw [if_neg k1] at h
      by_cases k2 : r.kind = 2
      · rw [if_pos k2, decide_eq_true_eq] at h
        exact Or.inr (Or.inl ⟨k2, h.2.2⟩)
      · rw [if_neg k2] at h
        by_cases k3 : r.kind = 3
        · rw [if_pos k3, decide_eq_true_eq] at h
          exact Or.inr (Or.inr ⟨k3, h.2.2.2.2⟩)
        · rw [if_neg k3] at h; exact Bool.noConfusion h
open Classical in
/-- A rule's day in a year, ahead of the moving. -/
noncomputable def baseO (r : Rul) (y : Int) : Option Int :=
  if y < r.fr ∨ r.to < y then none
  else if r.kind = 1 then (if okD y r.mon r.day then some (dayI y r.mon r.day) else none)
  else if r.kind = 2 then some (nthI y r.mon r.wd r.nth)
  else if r.kind = 3 then some (eaDay y + r.off) else some 0
noncomputable def dayO (W : Int) (r : Rul) (y : Int) : Option Int := (baseO r y).map (fun n => mvI W n r.mv)
/-- Does the rule give the day n of the year Y? -/
noncomputable def hitB (W : Int) (r : Rul) (n Y : Int) : Bool :=
  if r.kind = 4 then r.day == n else dayO W r (Y - 1) == some n || dayO W r Y == some n || dayO W r (Y + 1) == some n
noncomputable def holB (W : Int) (rs : List Rul) (n Y : Int) : Bool := rs.any fun r => hitB W r n Y
theorem nth_rng {y m wd k : Int} (h : ymB y m) (_d0 : 0 ≤ wd) (_d1 : wd ≤ 6) (k1 : 1 ≤ k) (k5 : k ≤ 5) : 0 ≤ nthI y m wd k ∧ nthI y m wd k ≤ 110000 := by
  obtain ⟨f0, f1⟩ := (isD_of (okD_first h 1 (by omega) (by omega))).range
  have l0 := len_lo y m
  show 0 ≤ (if k = 5 ∧ dayI y m 1 + lenI y m ≤ dayI y m 1 + (wd - dayI y m 1) % 7 + 7 * (k - 1) then dayI y m 1 + (wd - dayI y m 1) % 7 + 7 * (k - 1) - 7 else dayI y m 1 + (wd - dayI y m 1) % 7 + 7 * (k - 1)) ∧ (if k = 5 ∧ dayI y m 1 + lenI y m ≤ dayI y m 1 + (wd - dayI y m 1) % 7 + 7 * (k - 1) then dayI y m 1 + (wd - dayI y m 1) % 7 + 7 * (k - 1) - 7 else dayI y m 1 + (wd - dayI y m 1) % 7 + 7 * (k - 1)) ≤ 110000
  split <;> omega
end Go.Proofs.Ytelghkhcplmnmaa
