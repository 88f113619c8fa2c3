/- The contracts of Length and Of, of the program and of the document's answer. The contract of the document's Of: years and months added up. The contracts of Third and Easter, of the program and of the document's answer. Rules and their days: no word of the program. A slice of rules that came in. Open days and the search for one: no word of the program. The contracts of Civil and Weekday. The contracts of the document's Civil and Weekday. The contracts of Months, of the program and of the document's answer. Schedules as whole numbers: no word of the program. A schedule's dates and periods: no word of the program. A schedule's points rise: no word of the program. Day counts as whole numbers: no word of the program. The contracts of the document's off, moved and nth. The contract of the document's day. The contract of the document's holiday. -/
import Derived.Test.YtphnainibdepbaaGreatDLen
import Derived.Deep.RegionWith
import Derived.Test.YtphnainibdepbaaGreatHad
import Derived.Laws.BitsAllLaws
import Derived.Laws.Bits64b
namespace Go.Proofs.YtphnainibdepbaaGreat
open Go.RowKit

def ymB (y m : Int) : Prop := 1900 ≤ y ∧ y ≤ 2199 ∧ 1 ≤ m ∧ m ≤ 12

theorem isYear_any (y : Int) (w : World) :
    Calls Tryz.prog 142 #[.int .i64 y] w fun e w' => e = .returned (.bool (decide (1900 ≤ y ∧ y ≤ 2199))) ∧ w' = w := by
  by_cases h1 : 1900 ≤ y <;> by_cases h2 : y ≤ 2199
  all_goals
    first | rw [decide_eq_true (⟨h1, h2⟩ : 1900 ≤ y ∧ y ≤ 2199)] | rw [decide_eq_false (fun h : 1900 ≤ y ∧ y ≤ 2199 => by omega)]
    go_enter Tryz.func142, Tryz.ntmps142
    go_wp2
    go_ret
    exact ⟨rfl, rfl⟩

theorem lengthP_ok (y m : Int) (w : World) (h : ymB y m) :
    Calls Tryz.prog 124 #[.int .i64 y, .int .i64 m] w fun e w' => e = .returned (.tuple #[.int .i64 (lenI y m), .int .i64 0]) ∧ w' = w := by
  obtain ⟨h1, h2, h3, h4⟩ := h
  have hy := isYear_any y
  rw [decide_eq_true (⟨h1, h2⟩ : 1900 ≤ y ∧ y ≤ 2199)] at hy
  have HL := hideS (length_any y m w h3 h4)
  have HY := hideS hy
  clear hy
  generalize lenI y m = L at *
  go_enter Tryz.func124, Tryz.ntmps124
  go_wp2_with (first | (go_at_call 142; refine (HY.out _).mono ?_; rintro e w' ⟨rfl, rfl⟩) | (go_at_call 141; refine HL.out.mono ?_; rintro e w' ⟨rfl, rfl⟩))
  go_ret2
  exact ⟨rfl, rfl⟩
theorem lengthP_bad (y m : Int) (w : World) (h : ¬ ymB y m) :
    Calls Tryz.prog 124 #[.int .i64 y, .int .i64 m] w fun e w' => e = .returned (.tuple #[.int .i64 0, .int .i64 50]) ∧ w' = w := by
  unfold ymB at h
  by_cases hy0 : 1900 ≤ y ∧ y ≤ 2199
  · have hy := isYear_any y
    rw [decide_eq_true hy0] at hy
    have HY := hideS hy
    clear hy
    rcases (show m < 1 ∨ (1 ≤ m ∧ 12 < m) by omega) with hm | ⟨hm, hm'⟩
    all_goals
      clear h hy0
      go_enter Tryz.func124, Tryz.ntmps124
      go_wp2_with (go_at_call 142; refine (HY.out _).mono ?_; rintro e w' ⟨rfl, rfl⟩)
      go_ret2
      exact ⟨rfl, rfl⟩
  · have hy := isYear_any y
    rw [decide_eq_false hy0] at hy
    have HY := hideS hy
    clear hy h hy0
    go_enter Tryz.func124, Tryz.ntmps124
    go_wp2_with (go_at_call 142; refine (HY.out _).mono ?_; rintro e w' ⟨rfl, rfl⟩)
    go_ret2
    exact ⟨rfl, rfl⟩

theorem leaps_any (y : Int) (w : World) (h : 0 ≤ y) (h' : y ≤ 3000) :
    Calls Tryz.prog 143 #[.int .i64 y] w fun e w' => e = .returned (.int .i64 (lpsI y)) ∧ w' = w := by
  unfold lpsI
  go_enter Tryz.func143, Tryz.ntmps143
  go_wp2
  go_ret
  exact ⟨rfl, rfl⟩

theorem newYear_any (y : Int) (w : World) (h : 1900 ≤ y) (h' : y ≤ 2200) :
    Calls Tryz.prog 131 #[.int .i64 y] w fun e w' => e = .returned (.int .i64 (nyI y)) ∧ w' = w := by
  have H1 := hideS (leaps_any (y - 1) w (by omega) (by omega))
  have H2 := hideS (leaps_any 1899 w (by omega) (by omega))
  have e2 : lpsI 1899 = 460 := by decide
  rw [e2] at H2
  unfold nyI
  have hl : 0 ≤ lpsI (y - 1) ∧ lpsI (y - 1) ≤ 3000 := by unfold lpsI; omega
  obtain ⟨l1, l2⟩ := hl
  generalize lpsI (y - 1) = L at *
  clear e2
  go_enter Tryz.func131, Tryz.ntmps131
  go_wp2_with (first | (go_at_call_of 143 (Value.int IntKind.i64 1899); refine H2.out.mono ?_; rintro e w' ⟨rfl, rfl⟩) | (go_at_call 143; refine H1.out.mono ?_; rintro e w' ⟨rfl, rfl⟩))
  go_ret
  exact ⟨rfl, rfl⟩

set_option maxHeartbeats 400000 in
theorem ofP_ok (y m d : Int) (w : World) (h : okD y m d) :
    Calls Tryz.prog 126 #[.int .i64 y, .int .i64 m, .int .i64 d] w fun e w' => e = .returned (.tuple #[.int .i64 (dayI y m d), .int .i64 0]) ∧ w' = w := by
  obtain ⟨h1, h2, h3, h4, h5, h6⟩ := h
  have HL := hideS (lengthP_ok y m w ⟨h1, h2, h3, h4⟩)
  have HN := hideS (newYear_any y w h1 (by omega))
  have hl := len_hi y m
  have HLen := hideS (fun (k : Int) (wx : World) (a : 1 ≤ k) (b : k ≤ 12) => length_any y k wx a b)
  have HD : Hid (dayI y m d = nyI y + d - 1 + cumI y m) := by show _ = _; unfold dayI; omega
  have n1 : 0 ≤ nyI y := by have := ny_lo h1; omega
  have n2 : nyI y ≤ 110000 := by have := ny_hi h1; omega
  obtain ⟨R, hR⟩ : ∃ R, dayI y m d = R := ⟨_, rfl⟩
  rw [hR] at HD ⊢
  clear hR
  obtain ⟨L, hL⟩ : ∃ L, lenI y m = L := ⟨_, rfl⟩
  rw [hL] at HL h6 hl
  clear hL
  obtain ⟨N, hN⟩ : ∃ N, nyI y = N := ⟨_, rfl⟩
  rw [hN] at HN n1 n2 HD
  clear hN
  go_enter Tryz.func126, Tryz.ntmps126
  go_wp2_with (first | (go_at_call 124; refine HL.out.mono ?_; rintro e w' ⟨rfl, rfl⟩) | (go_at_call 131; refine HN.out.mono ?_; rintro e w' ⟨rfl, rfl⟩))
  clear HL HN
  go_loop [35, 10] (fun i n => ∃ (k : Nat) (C : Int), (k : Int) + 1 ≤ m ∧ 0 ≤ C ∧ C ≤ 200000 ∧ i = .int .i64 k ∧ n = .int .i64 C ∧ Hid (C = N + d - 1 + cumI y (k + 1))) (fun i _ => (m - intOf i).toNat)
  case atStart => exact ⟨0, N + d - 1, by omega, by omega, by omega, rfl, rfl, by show _ = _; rw [show (((0 : Nat) : Int) + 1) = 1 by rfl, cum_first]; omega⟩
  case round =>
    obtain ⟨k, C, hk, hC0, hC1, rfl, rfl, HC⟩ := hrel
    by_cases hlt : (k : Int) + 1 < m
    · have H := hideS (fun wx => HLen.out (k + 1) wx (by omega) (by omega))
      have HN : Hid (C + lenI y (k + 1) = N + d - 1 + cumI y (((k + 1 : Nat) : Int) + 1)) := by
        show _ = _
        rw [HC.out, show (((k + 1 : Nat) : Int) + 1) = (k : Int) + 1 + 1 by omega, cum_succ (m := (k : Int) + 1) (by omega) (by omega)]; omega
      have HB : Hid (cumI y (((k + 1 : Nat) : Int) + 1) ≤ 366) := cum_hi (by omega) (by omega)
      have l1 := len_lo y (k + 1)
      have l2 := len_hi y (k + 1)
      generalize lenI y (k + 1) = l at *
      have hlt' : (k : Int) < m - 1 := by omega
      go_wp2_with (go_at_call 141; refine (H.out _).mono ?_; rintro e w' ⟨rfl, rfl⟩)
      go_round
      case rel => exact ⟨k + 1, C + l, by omega, by omega, by have := HN.out; have := HB.out; omega, by go_num, rfl, HN⟩
      case measure => simp [intOf]; omega
    · have hm : m = (k : Int) + 1 := by omega
      have HR : Hid (C = R) := by show _ = _; rw [HC.out, HD.out, hm]
      have hge : ¬ (k : Int) < m - 1 := by omega
      clear HC HD hm
      go_wp2_with fail
      go_ret2
      obtain rfl := HR.out
      exact ⟨rfl, rfl⟩

theorem ofP_bad (y m d : Int) (w : World) (h : ¬ okD y m d) :
    Calls Tryz.prog 126 #[.int .i64 y, .int .i64 m, .int .i64 d] w fun e w' => e = .returned (.tuple #[.int .i64 0, .int .i64 50]) ∧ w' = w := by
  by_cases hy : ymB y m
  · have HL := hideS (lengthP_ok y m w hy)
    obtain ⟨h1, h2, h3, h4⟩ := hy
    unfold okD at h
    have l1 := len_lo y m
    generalize lenI y m = L at *
    rcases (show d < 1 ∨ (1 ≤ d ∧ L < d) by omega) with hd | ⟨hd, hd'⟩
    all_goals
      clear h
      go_enter Tryz.func126, Tryz.ntmps126
      go_wp2_with (go_at_call 124; refine HL.out.mono ?_; rintro e w' ⟨rfl, rfl⟩)
      go_ret2
      exact ⟨rfl, rfl⟩
  · have HL := hideS (lengthP_bad y m w hy)
    clear hy h
    go_enter Tryz.func126, Tryz.ntmps126
    go_wp2_with (go_at_call 124; refine HL.out.mono ?_; rintro e w' ⟨rfl, rfl⟩)
    go_ret2
    exact ⟨rfl, rfl⟩
end Go.Proofs.YtphnainibdepbaaGreat
namespace Go.Proofs.YtphnainibdepbaaGreat
open Go.RowKit

end Go.Proofs.YtphnainibdepbaaGreat
namespace Go.Proofs.YtphnainibdepbaaGreat
open Go.RowKit

def wedI (n : Int) : Int := n + (9 - n) % 7
def thirdI (y m : Int) : Int := wedI (dayI y m 1) + 14
theorem okD_first {y m : Int} (h : ymB y m) (d : Int) (h1 : 1 ≤ d) (h2 : d ≤ 28) : okD y m d := by
  obtain ⟨a, b, c, e⟩ := h
  have := len_lo y m
  exact ⟨a, b, c, e, h1, by omega⟩
theorem third_ok (y m : Int) (w : World) (h : ymB y m) :
    Calls Tryz.prog 125 #[.int .i64 y, .int .i64 m] w fun e w' => e = .returned (.tuple #[.int .i64 (thirdI y m), .int .i64 0]) ∧ w' = w := by
  have HO := hideS (ofP_ok y m 1 w (okD_first h 1 (by omega) (by omega)))
  obtain ⟨n0, n1⟩ := (isD_of (okD_first h 1 (by omega) (by omega))).range
  unfold thirdI wedI
  generalize dayI y m 1 = n at *
  clear h
  go_enter Tryz.func125, Tryz.ntmps125
  go_wp2_with (go_at_call 126; refine HO.out.mono ?_; rintro e w' ⟨rfl, rfl⟩)
  go_ret2
  exact ⟨rfl, rfl⟩
def eaDay (y : Int) : Int := dayI y (eaT y / 31) (eaT y % 31 + 1)

structure EaW (y a b c d e f g h i k l m t : Int) : Prop where
  fa : y % 19 = a
  fb : y / 100 = b
  fc : y % 100 = c
  fd : b / 4 = d
  fe : b % 4 = e
  ff : (b + 8) / 25 = f
  fg : (b - f + 1) / 3 = g
  fh : (19 * a + b - d - g + 15) % 30 = h
  fi : c / 4 = i
  fk : c % 4 = k
  fl : (32 + 2 * e + 2 * i - h - k) % 7 = l
  fm : (a + 11 * h + 22 * l) / 451 = m
  ft : h + l - 7 * m + 114 = t
theorem eaW_ex (y : Int) : ∃ a b c d e f g h i k l m, EaW y a b c d e f g h i k l m (eaT y) :=
  ⟨_, _, _, _, _, _, _, _, _, _, _, _, ⟨rfl, rfl, rfl, rfl, rfl, rfl, rfl, rfl, rfl, rfl, rfl, rfl, rfl⟩⟩

set_option maxHeartbeats 800000 in
theorem easterP_any (y : Int) (w : World) (h0 : 1900 ≤ y) (h1 : y ≤ 2199) :
    Calls Tryz.prog 193 #[.int .i64 y] w fun e w' => e = .returned (.tuple #[.int .i64 (eaT y / 31), .int .i64 (eaT y % 31 + 1)]) ∧ w' = w := by
  obtain ⟨a, b, c, d, e, f, g, h, i, k, l, m, H⟩ := eaW_ex y
  have t0 := (ea_ok h0 h1).pos
  have t1 := (ea_ok h0 h1).small
  generalize eaT y = t at *
  obtain ⟨ea, eb, ec, ed, ee, ef, eg, eh, ei, ek, el, em, et⟩ := H
  have a0 : 0 ≤ a ∧ a ≤ 18 := by omega
  have b0 : 19 ≤ b ∧ b ≤ 21 := by omega
  have c0 : 0 ≤ c ∧ c ≤ 99 := by omega
  have d0 : 0 ≤ d ∧ d ≤ 5 := by omega
  have e0 : 0 ≤ e ∧ e ≤ 3 := by omega
  have f0 : 0 ≤ f ∧ f ≤ 2 := by omega
  have g0 : 0 ≤ g ∧ g ≤ 8 := by omega
  have hx : 0 ≤ h ∧ h ≤ 29 := by omega
  have i0 : 0 ≤ i ∧ i ≤ 24 := by omega
  have k0 : 0 ≤ k ∧ k ≤ 3 := by omega
  have l0 : 0 ≤ l ∧ l ≤ 6 := by omega
  have m0 : 0 ≤ m ∧ m ≤ 2 := by omega
  obtain ⟨a0, a1⟩ := a0
  obtain ⟨b0, b1⟩ := b0
  obtain ⟨c0, c1⟩ := c0
  obtain ⟨d0, d1⟩ := d0
  obtain ⟨e0, e1⟩ := e0
  obtain ⟨f0, f1⟩ := f0
  obtain ⟨g0, g1⟩ := g0
  obtain ⟨hx, hx1⟩ := hx
  obtain ⟨i0, i1⟩ := i0
  obtain ⟨k0, k1⟩ := k0
  obtain ⟨l0, l1⟩ := l0
  obtain ⟨m0, m1⟩ := m0
  go_enter Tryz.func193, Tryz.ntmps193
  go_wp2_with fail
  go_ret2
  exact ⟨rfl, rfl⟩

theorem easter_ok (y : Int) (w : World) (h0 : 1900 ≤ y) (h1 : y ≤ 2199) :
    Calls Tryz.prog 192 #[.int .i64 y] w fun e w' => e = .returned (.tuple #[.int .i64 (eaDay y), .int .i64 0]) ∧ w' = w := by
  have HY : Hid (∀ w, Calls Tryz.prog 142 #[.int .i64 y] w fun e w' => e = .returned (.bool true) ∧ w' = w) := fun w => by
    have hy := isYear_any y w
    rw [decide_eq_true (⟨h0, h1⟩ : 1900 ≤ y ∧ y ≤ 2199)] at hy; exact hy
  have HE := hideS (easterP_any y w h0 h1)
  have HO := hideS (ofP_ok y (eaT y / 31) (eaT y % 31 + 1) w (ea_ok h0 h1).ok)
  unfold eaDay
  generalize dayI y (eaT y / 31) (eaT y % 31 + 1) = R at *
  generalize eaT y / 31 = M at *
  generalize eaT y % 31 + 1 = D at *
  go_enter Tryz.func192, Tryz.ntmps192
  go_wp2_with (first | (go_at_call 142; refine (HY.out _).mono ?_; rintro e w' ⟨rfl, rfl⟩) | (go_at_call 193; refine HE.out.mono ?_; rintro e w' ⟨rfl, rfl⟩) | (go_at_call 126; refine HO.out.mono ?_; rintro e w' ⟨rfl, rfl⟩))
  go_ret2
  exact ⟨rfl, rfl⟩
theorem easter_bad (y : Int) (w : World) (h : ¬ (1900 ≤ y ∧ y ≤ 2199)) :
    Calls Tryz.prog 192 #[.int .i64 y] w fun e w' => e = .returned (.tuple #[.int .i64 0, .int .i64 50]) ∧ w' = w := by
  have HY : Hid (∀ w, Calls Tryz.prog 142 #[.int .i64 y] w fun e w' => e = .returned (.bool false) ∧ w' = w) := fun w => by
    have hy := isYear_any y w
    rw [decide_eq_false h] at hy; exact hy
  clear h
  go_enter Tryz.func192, Tryz.ntmps192
  go_wp2_with (go_at_call 142; refine (HY.out _).mono ?_; rintro e w' ⟨rfl, rfl⟩)
  go_ret2
  exact ⟨rfl, rfl⟩

end Go.Proofs.YtphnainibdepbaaGreat
namespace Go.Proofs.YtphnainibdepbaaGreat
open Go.RowKit

theorem ups_unique {W n : Int} {u d u' d' : Nat} (h : Ups W n u d) (h' : Ups W n u' d') : u = u' ∧ d = d' := by
  constructor
  · rcases Nat.lt_trichotomy u u' with e | e | e
    · have := h'.uo u e; rw [h.uf] at this; exact Bool.noConfusion this
    · exact e
    · have := h.uo u' e; rw [h'.uf] at this; exact Bool.noConfusion this
  · rcases Nat.lt_trichotomy d d' with e | e | e
    · have := h'.dn d e; rw [h.df] at this; exact Bool.noConfusion this
    · exact e
    · have := h.dn d' e; rw [h'.df] at this; exact Bool.noConfusion this
open Classical in
noncomputable def mvI (W n mv : Int) : Int := if h : ∃ p : Nat × Nat, Ups W n p.1 p.2 then movI W n mv h.choose.1 h.choose.2 else n
theorem mv_eq {W n mv : Int} {u d : Nat} (h : Ups W n u d) : mvI W n mv = movI W n mv u d := by
  have hx : ∃ p : Nat × Nat, Ups W n p.1 p.2 := ⟨(u, d), h⟩
  unfold mvI
  rw [dif_pos hx]
  have e := ups_unique hx.choose_spec h
  rw [e.1, e.2]
def mostI (m : Int) : Int := if m = 2 then 29 else if m = 4 ∨ m = 6 ∨ m = 9 ∨ m = 11 then 30 else 31
def fitB (r : Rul) : Bool :=
  if r.kind = 4 then decide (r.mon = 0 ∧ r.nth = 0 ∧ r.wd = 0 ∧ r.off = 0 ∧ r.fr = 0 ∧ r.to = 0 ∧ r.mv = 0 ∧ 0 ≤ r.day ∧ r.day ≤ 109572)
  else decide (1900 ≤ r.fr ∧ r.fr ≤ 2199 ∧ r.fr ≤ r.to ∧ r.to ≤ 2199 ∧ 0 ≤ r.mv ∧ r.mv ≤ 2) &&
    (if r.kind = 1 then decide (r.nth = 0 ∧ r.wd = 0 ∧ r.off = 0 ∧ 1 ≤ r.mon ∧ r.mon ≤ 12 ∧ 1 ≤ r.day ∧ r.day ≤ mostI r.mon)
    else if r.kind = 2 then decide (r.day = 0 ∧ r.off = 0 ∧ 1 ≤ r.mon ∧ r.mon ≤ 12 ∧ 0 ≤ r.wd ∧ r.wd ≤ 6 ∧ 1 ≤ r.nth ∧ r.nth ≤ 5)
    else if r.kind = 3 then decide (r.mon = 0 ∧ r.day = 0 ∧ r.nth = 0 ∧ r.wd = 0 ∧ -100 ≤ r.off ∧ r.off ≤ 100) else false)
theorem fit_cases {r : Rul} (h : fitB r = true) :
    (r.kind = 4 ∧ 0 ≤ r.day ∧ r.day ≤ 109572 ∧ r.mv = 0) ∨
    ((1900 ≤ r.fr ∧ r.fr ≤ r.to ∧ r.to ≤ 2199 ∧ 0 ≤ r.mv ∧ r.mv ≤ 2) ∧
      ((r.kind = 1 ∧ 1 ≤ r.mon ∧ r.mon ≤ 12 ∧ 1 ≤ r.day ∧ r.day ≤ mostI r.mon) ∨ (r.kind = 2 ∧ 1 ≤ r.mon ∧ r.mon ≤ 12 ∧ 0 ≤ r.wd ∧ r.wd ≤ 6 ∧ 1 ≤ r.nth ∧ r.nth ≤ 5) ∨ (r.kind = 3 ∧ -100 ≤ r.off ∧ r.off ≤ 100))) := by
  unfold fitB at h
  by_cases k4 : r.kind = 4
  · rw [if_pos k4, decide_eq_true_eq] at h
    exact Or.inl ⟨k4, h.2.2.2.2.2.2.2.1, h.2.2.2.2.2.2.2.2, h.2.2.2.2.2.2.1⟩
  · rw [if_neg k4, Bool.and_eq_true, decide_eq_true_eq] at h
    obtain ⟨⟨a, b, c, d, e, f⟩, h⟩ := h
    refine Or.inr ⟨⟨a, c, d, e, f⟩, ?_⟩
    by_cases k1 : r.kind = 1
    · rw [if_pos k1, decide_eq_true_eq] at h
      exact Or.inl ⟨k1, h.2.2.2⟩
    · rw [if_neg k1] at h
      by_cases k2 : r.kind = 2
      · rw [if_pos k2, decide_eq_true_eq] at h
        exact Or.inr (Or.inl ⟨k2, h.2.2⟩)
      · rw [if_neg k2] at h
        by_cases k3 : r.kind = 3
        · rw [if_pos k3, decide_eq_true_eq] at h
          exact Or.inr (Or.inr ⟨k3, h.2.2.2.2⟩)
        · rw [if_neg k3] at h; exact Bool.noConfusion h
open Classical in
noncomputable def baseO (r : Rul) (y : Int) : Option Int :=
  if y < r.fr ∨ r.to < y then none
  else if r.kind = 1 then (if okD y r.mon r.day then some (dayI y r.mon r.day) else none)
  else if r.kind = 2 then some (nthI y r.mon r.wd r.nth)
  else if r.kind = 3 then some (eaDay y + r.off) else some 0
noncomputable def dayO (W : Int) (r : Rul) (y : Int) : Option Int := (baseO r y).map (fun n => mvI W n r.mv)
noncomputable def hitB (W : Int) (r : Rul) (n Y : Int) : Bool :=
  if r.kind = 4 then r.day == n else dayO W r (Y - 1) == some n || dayO W r Y == some n || dayO W r (Y + 1) == some n
noncomputable def holB (W : Int) (rs : List Rul) (n Y : Int) : Bool := rs.any fun r => hitB W r n Y
theorem nth_rng {y m wd k : Int} (h : ymB y m) (_d0 : 0 ≤ wd) (_d1 : wd ≤ 6) (k1 : 1 ≤ k) (k5 : k ≤ 5) : 0 ≤ nthI y m wd k ∧ nthI y m wd k ≤ 110000 := by
  obtain ⟨f0, f1⟩ := (isD_of (okD_first h 1 (by omega) (by omega))).range
  have l0 := len_lo y m
  show 0 ≤ (if k = 5 ∧ dayI y m 1 + lenI y m ≤ dayI y m 1 + (wd - dayI y m 1) % 7 + 7 * (k - 1) then dayI y m 1 + (wd - dayI y m 1) % 7 + 7 * (k - 1) - 7 else dayI y m 1 + (wd - dayI y m 1) % 7 + 7 * (k - 1)) ∧ (if k = 5 ∧ dayI y m 1 + lenI y m ≤ dayI y m 1 + (wd - dayI y m 1) % 7 + 7 * (k - 1) then dayI y m 1 + (wd - dayI y m 1) % 7 + 7 * (k - 1) - 7 else dayI y m 1 + (wd - dayI y m 1) % 7 + 7 * (k - 1)) ≤ 110000
  split <;> omega
end Go.Proofs.YtphnainibdepbaaGreat
namespace Go.Proofs.YtphnainibdepbaaGreat
open Go.RowKit

def rul0 : Rul := ⟨0, 0, 0, 0, 0, 0, 0, 0, 0⟩
structure RCells (w : World) (b o : Nat) (r : Rul) : Prop where
  c0 : w.cell? ⟨b, o, none⟩ = some (.int .i64 r.kind)
  c1 : w.cell? ⟨b, o + 1, none⟩ = some (.int .i64 r.mon)
  c2 : w.cell? ⟨b, o + 2, none⟩ = some (.int .i64 r.day)
  c3 : w.cell? ⟨b, o + 3, none⟩ = some (.int .i64 r.nth)
  c4 : w.cell? ⟨b, o + 4, none⟩ = some (.int .i64 r.wd)
  c5 : w.cell? ⟨b, o + 5, none⟩ = some (.int .i64 r.off)
  c6 : w.cell? ⟨b, o + 6, none⟩ = some (.int .i64 r.fr)
  c7 : w.cell? ⟨b, o + 7, none⟩ = some (.int .i64 r.to)
  c8 : w.cell? ⟨b, o + 8, none⟩ = some (.int .i64 r.mv)
theorem RCells.below {w w' : World} {B b o : Nat} {r : Rul} (h : RCells w b o r) (hb : Below B w w') (hB : b < B) : RCells w' b o r :=
  ⟨(hb.cell (p := ⟨b, o, none⟩) hB).trans h.c0, (hb.cell (p := ⟨b, o + 1, none⟩) hB).trans h.c1, (hb.cell (p := ⟨b, o + 2, none⟩) hB).trans h.c2, (hb.cell (p := ⟨b, o + 3, none⟩) hB).trans h.c3, (hb.cell (p := ⟨b, o + 4, none⟩) hB).trans h.c4, (hb.cell (p := ⟨b, o + 5, none⟩) hB).trans h.c5, (hb.cell (p := ⟨b, o + 6, none⟩) hB).trans h.c6, (hb.cell (p := ⟨b, o + 7, none⟩) hB).trans h.c7, (hb.cell (p := ⟨b, o + 8, none⟩) hB).trans h.c8⟩
structure RSrc (w : World) (p : Option Addr) (b off : Nat) (rs : List Rul) : Prop where
  at_ : 0 < rs.length → p = some ⟨b, off, none⟩
  lt : 0 < rs.length → b < w.heap.size
  cell : ∀ i, i < rs.length → RCells w b (off + i * 9) (rs.getD i rul0)
theorem RSrc.below {w w' : World} {p : Option Addr} {b off : Nat} {rs : List Rul} (h : RSrc w p b off rs) (hb : Below w.heap.size w w') : RSrc w' p b off rs :=
  ⟨h.at_, fun hx => Nat.lt_of_lt_of_le (h.lt hx) hb.size, fun j hj => (h.cell j hj).below hb (h.lt (by omega))⟩
end Go.Proofs.YtphnainibdepbaaGreat
namespace Go.Proofs.YtphnainibdepbaaGreat
open Go.RowKit

open Classical in
noncomputable def yrI (n : Int) : Int := if h : ∃ y m d, IsD n y m d then h.choose else 0
theorem yr_eq {n y m d : Int} (h : IsD n y m d) : yrI n = y := by
  have hx : ∃ y m d, IsD n y m d := ⟨y, m, d, h⟩
  unfold yrI
  rw [dif_pos hx]
  obtain ⟨m', d', h'⟩ := hx.choose_spec
  exact (h'.unique h).1
noncomputable def opB (W : Int) (rs : List Rul) (n : Int) : Bool := !offB W n && !holB W rs n (yrI n)
def isDayP (n : Int) : Prop := 0 ≤ n ∧ n ≤ 109572
instance (n : Int) : Decidable (isDayP n) := by unfold isDayP; infer_instance
structure OkC (W : Int) (rs : List Rul) : Prop where
  len : rs.length ≤ 64
  w0 : 0 ≤ W
  w1 : W ≤ 126
  fit : ∀ r ∈ rs, fitB r = true
inductive ChkR (W : Int) (rs : List Rul) : Int → Int → Prop where
  | long : 64 < rs.length → ChkR W rs 2 0
  | week : rs.length ≤ 64 → ¬ (0 ≤ W ∧ W ≤ 126) → ChkR W rs 60 (-1)
  | rule (k : Nat) : rs.length ≤ 64 → (0 ≤ W ∧ W ≤ 126) → k < rs.length → fitB (rs.getD k rul0) = false → (∀ j < k, fitB (rs.getD j rul0) = true) → ChkR W rs 60 k
  | ok : OkC W rs → ChkR W rs 0 0
theorem getD_mem {rs : List Rul} {k : Nat} (h : k < rs.length) : rs.getD k rul0 ∈ rs := by
  rw [List.getD_eq_getElem?_getD, List.getElem?_eq_getElem h]; exact List.getElem_mem h
theorem all_of_getD {rs : List Rul} {p : Rul → Bool} (h : ∀ j < rs.length, p (rs.getD j rul0) = true) : ∀ r ∈ rs, p r = true := fun r hr => by
  obtain ⟨j, hj, rfl⟩ := List.getElem_of_mem hr
  have := h j hj
  rw [List.getD_eq_getElem?_getD, List.getElem?_eq_getElem hj] at this
  exact this
theorem chk_ex (W : Int) (rs : List Rul) : ∃ A B, ChkR W rs A B := by
  by_cases h1 : 64 < rs.length
  · exact ⟨_, _, .long h1⟩
  · by_cases h2 : 0 ≤ W ∧ W ≤ 126
    · by_cases h3 : ∃ k ≤ rs.length, (fun j => decide (j = rs.length) || fitB (rs.getD j rul0)) k = false
      · obtain ⟨k, hk, a, b⟩ := least_of (p := fun j => decide (j = rs.length) || fitB (rs.getD j rul0)) rs.length h3
        simp only [Bool.or_eq_false_iff, decide_eq_false_iff_not] at a
        refine ⟨_, _, .rule k (by omega) h2 (by omega) a.2 (fun j hj => ?_)⟩
        have := b j hj
        simp only [Bool.or_eq_true, decide_eq_true_eq] at this
        rcases this with e | e
        · omega
        · exact e
      · refine ⟨_, _, .ok ⟨by omega, h2.1, h2.2, all_of_getD fun j hj => ?_⟩⟩
        cases hf : fitB (rs.getD j rul0)
        · exact absurd ⟨j, by omega, by simp only [hf, Bool.or_false, decide_eq_false_iff_not]; omega⟩ h3
        · rfl
    · exact ⟨_, _, .week (by omega) h2⟩
theorem chk_ok {W : Int} {rs : List Rul} {B : Int} (h : ChkR W rs 0 B) : OkC W rs ∧ B = 0 := by
  cases h with
  | ok h => exact ⟨h, rfl⟩
open Classical in
noncomputable def moI (n : Int) : Int := if h : ∃ k, ∃ y m d, IsD n y m d ∧ k = 12 * y + m then h.choose else 0
theorem mo_eq {n y m d : Int} (h : IsD n y m d) : moI n = 12 * y + m := by
  have hx : ∃ k, ∃ y m d, IsD n y m d ∧ k = 12 * y + m := ⟨_, y, m, d, h, rfl⟩
  unfold moI
  rw [dif_pos hx]
  obtain ⟨y', m', d', h', e⟩ := hx.choose_spec
  obtain ⟨e1, e2, _⟩ := h'.unique h
  rw [e, e1, e2]

def cntN (op : Int → Bool) (a : Int) : Nat → Nat
  | 0 => 0
  | k + 1 => cntN op a k + (if op (a + k) then 1 else 0)
theorem cnt_le (op : Int → Bool) (a : Int) (k : Nat) : cntN op a k ≤ k := by
  induction k with
  | zero => exact Nat.le_refl _
  | succ k ih => show cntN op a k + (if op (a + k) then 1 else 0) ≤ k + 1; split <;> omega

end Go.Proofs.YtphnainibdepbaaGreat
namespace Go.Proofs.YtphnainibdepbaaGreat
open Go.RowKit

theorem isDay_any (n : Int) (w : World) :
    Calls Tryz.prog 128 #[.int .i64 n] w fun e w' => e = .returned (.bool (decide (0 ≤ n ∧ n ≤ 109572))) ∧ w' = w := by
  by_cases h1 : 0 ≤ n <;> by_cases h2 : n ≤ 109572
  all_goals
    first | rw [decide_eq_true (⟨h1, h2⟩ : 0 ≤ n ∧ n ≤ 109572)] | rw [decide_eq_false (fun h : 0 ≤ n ∧ n ≤ 109572 => by omega)]
    go_enter Tryz.func128, Tryz.ntmps128
    go_wp2
    go_ret
    exact ⟨rfl, rfl⟩
theorem isDay_yes (n : Int) (h : 0 ≤ n ∧ n ≤ 109572) (w : World) :
    Calls Tryz.prog 128 #[.int .i64 n] w fun e w' => e = .returned (.bool true) ∧ w' = w := by
  have e := isDay_any n w
  rw [decide_eq_true h] at e; exact e
theorem isDay_no (n : Int) (h : ¬ (0 ≤ n ∧ n ≤ 109572)) (w : World) :
    Calls Tryz.prog 128 #[.int .i64 n] w fun e w' => e = .returned (.bool false) ∧ w' = w := by
  have e := isDay_any n w
  rw [decide_eq_false h] at e; exact e

set_option maxHeartbeats 400000 in
theorem yearOf_any (n y : Int) (w : World) (h1 : 1900 ≤ y) (h2 : y ≤ 2199) (hy : nyI y ≤ n) (hy' : n < nyI (y + 1)) :
    Calls Tryz.prog 129 #[.int .i64 n] w fun e w' => e = .returned (.int .i64 y) ∧ w' = w := by
  have n0 : 0 ≤ n := by have := ny_lo h1; omega
  have n1 : n ≤ 120000 := by have := ny_hi (y := y + 1) (by omega); omega
  have hs : 1900 + n / 366 ≤ y := by have := ny_hi (y := y + 1) (by omega); omega
  have HN := hideS (fun (z : Int) (wx : World) (a : 1900 ≤ z) (b : z ≤ 2200) => newYear_any z wx a b)
  have HY := hideS hy
  have HY' := hideS hy'
  clear hy hy'
  go_enter Tryz.func129, Tryz.ntmps129
  go_wp2_with fail
  go_loop [3] (fun i => ∃ (j : Int), 1900 ≤ j ∧ j ≤ y ∧ i = .int .i64 j) (fun i => (y - intOf i).toNat)
  case atStart => exact ⟨1900 + n / 366, by omega, hs, rfl⟩
  case round =>
    obtain ⟨j, hj1, hj2, rfl⟩ := hrel
    have H := hideS (fun wx => HN.out (j + 1) wx (by omega) (by omega))
    by_cases hlt : j < y
    · have hle : nyI (j + 1) ≤ n := by
        have := ny_mono (y := j + 1) (z := y) (by omega) (by omega)
        have := HY.out
        omega
      generalize nyI (j + 1) = N at *
      go_wp2_with (go_at_call 131; refine (H.out _).mono ?_; rintro e w' ⟨rfl, rfl⟩)
      go_round
      case rel => exact ⟨j + 1, by omega, by omega, rfl⟩
      case measure => simp [intOf]; omega
    · obtain rfl : j = y := by omega
      have hle : ¬ nyI (j + 1) ≤ n := by have := HY'.out; omega
      clear HY'
      generalize nyI (j + 1) = N at *
      go_wp2_with (go_at_call 131; refine (H.out _).mono ?_; rintro e w' ⟨rfl, rfl⟩)
      go_ret
      exact ⟨rfl, rfl⟩

set_option maxHeartbeats 800000 in
theorem monthAndDay_any (y m r : Int) (w : World) (h1 : 1 ≤ m) (h2 : m ≤ 12) (hm : cumI y m ≤ r) (hm' : r < cumI y (m + 1)) :
    Calls Tryz.prog 130 #[.int .i64 y, .int .i64 r] w fun e w' => e = .returned (.tuple #[.int .i64 m, .int .i64 (r - cumI y m + 1)]) ∧ w' = w := by
  have r0 : 0 ≤ r := by have := cum_lo (y := y) h1 (by omega); omega
  have r1 : r ≤ 366 := by have := cum_hi (y := y) (m := m + 1) (by omega) (by omega); omega
  have HLen := hideS (fun (k : Int) (wx : World) (a : 1 ≤ k) (b : k ≤ 12) => length_any y k wx a b)
  have HM := hideS hm
  have HM' := hideS hm'
  clear hm hm'
  obtain ⟨D, hD⟩ : ∃ D, r - cumI y m + 1 = D := ⟨_, rfl⟩
  rw [hD]
  have HD := hideS hD
  clear hD
  go_enter Tryz.func130, Tryz.ntmps130
  go_wp2_with fail
  go_loop [7, 1, 4] (fun i b _ => ∃ (k : Int) (C : Int), 0 ≤ k ∧ k + 1 ≤ m ∧ 0 ≤ C ∧ C ≤ 366 ∧ i = .int .i64 k ∧ b = .int .i64 C ∧ Hid (C = r - cumI y (k + 1))) (fun i _ _ => (m - intOf i).toNat)
  case atStart => exact ⟨0, r, by omega, by omega, by omega, by omega, rfl, rfl, by show _ = _; rw [show ((0 : Int) + 1) = 1 by rfl, cum_first]; omega⟩
  case round =>
    obtain ⟨k, C, hk0, hk, hC0, hC1, rfl, rfl, HC⟩ := hrel
    have H := hideS (fun wx => HLen.out (k + 1) wx (by omega) (by omega))
    have l1 := len_lo y (k + 1)
    have HS : Hid (cumI y (k + 1 + 1) = cumI y (k + 1) + lenI y (k + 1)) := cum_succ (m := k + 1) (by omega) (by omega)
    by_cases hlt : k + 1 < m
    · have hle : ¬ C < lenI y (k + 1) := by
        have := cum_mono (y := y) (m := k + 1 + 1) (k := m) (by omega) (by omega) (by omega)
        have := HM.out
        have := HS.out
        have := HC.out
        omega
      have HC' : Hid (C - lenI y (k + 1) = r - cumI y (k + 1 + 1)) := by
        show _ = _
        rw [HS.out, HC.out]; omega
      generalize lenI y (k + 1) = l at *
      go_wp2_with (go_at_call 141; refine (H.out _).mono ?_; rintro e w' ⟨rfl, rfl⟩)
      go_round
      case rel => exact ⟨k + 1, C - l, by omega, by omega, by omega, by omega, rfl, rfl, HC'⟩
      case measure => simp [intOf]; omega
    · have hle : C < lenI y (k + 1) := by
        have := HM'.out
        rw [show m + 1 = k + 1 + 1 by omega, HS.out] at this
        have := HC.out
        omega
      have hm : m = k + 1 := by omega
      have HE : Hid (C + 1 = D) := by
        show _ = _
        rw [← HD.out, HC.out, hm]
      have HMk := hideS hm
      clear hm HD HC HM HM'
      generalize lenI y (k + 1) = l at *
      go_wp2_with (go_at_call 141; refine (H.out _).mono ?_; rintro e w' ⟨rfl, rfl⟩)
      go_ret2
      obtain rfl := HE.out
      obtain rfl := HMk.out
      exact ⟨rfl, rfl⟩

theorem results_tmp4 {fn : Func} {t u v x : Tmp} (h : fn.results = #[.tmp t, .tmp u, .tmp v, .tmp x]) (tmps : Array Value) (P : Program) (w : World) :
    (results fn tmps).run P w = .ok (.tuple #[tmps.getD t undef, tmps.getD u undef, tmps.getD v undef, tmps.getD x undef]) w := by
  simp [results, h]

set_option maxHeartbeats 400000 in
theorem civil_ok (n y m d : Int) (w : World) (h : IsD n y m d) :
    Calls Tryz.prog 110 #[.int .i64 n] w fun e w' => e = .returned (.tuple #[.int .i64 y, .int .i64 m, .int .i64 d, .int .i64 0]) ∧ w' = w := by
  obtain ⟨n0, n1⟩ := h.range
  obtain ⟨a, b⟩ := h.year
  obtain ⟨a', b'⟩ := h.month
  have HY := hideS (isDay_yes n ⟨n0, n1⟩)
  have hd : n - nyI y - cumI y m + 1 = d := by have := h.2; unfold dayI at this; omega
  obtain ⟨h1, h2, h3, h4, _, _⟩ := h.1
  clear h
  have H1 := hideS (fun wx => yearOf_any n y wx h1 h2 a b)
  have H2 := hideS (fun wx => newYear_any y wx h1 (by omega))
  have h5 := fun wx => monthAndDay_any y m (n - nyI y) wx h3 h4 a' b'
  rw [hd] at h5
  have H3 := hideS h5
  have c1 := cum_lo (y := y) h3 (by omega)
  have n2 := ny_lo h1
  clear h5 hd b b' a'
  generalize nyI y = N at *
  go_enter Tryz.func110, Tryz.ntmps110
  go_wp2_with (first | (go_at_call 128; refine (HY.out _).mono ?_; rintro e w' ⟨rfl, rfl⟩) | (go_at_call 129; refine (H1.out _).mono ?_; rintro e w' ⟨rfl, rfl⟩) | (go_at_call 131; refine (H2.out _).mono ?_; rintro e w' ⟨rfl, rfl⟩) | (go_at_call 130; refine (H3.out _).mono ?_; rintro e w' ⟨rfl, rfl⟩))
  (try simp only [Exit.inBlock, Exit.then])
  refine bodyPost_ret (results_tmp4 rfl _ _ _) rfl ?_
  exact ⟨rfl, rfl⟩
theorem civil_bad (n : Int) (w : World) (h : ¬ (0 ≤ n ∧ n ≤ 109572)) :
    Calls Tryz.prog 110 #[.int .i64 n] w fun e w' => e = .returned (.tuple #[.int .i64 0, .int .i64 0, .int .i64 0, .int .i64 51]) ∧ w' = w := by
  have HY := hideS (isDay_no n h)
  clear h
  go_enter Tryz.func110, Tryz.ntmps110
  go_wp2_with (go_at_call 128; refine (HY.out _).mono ?_; rintro e w' ⟨rfl, rfl⟩)
  (try simp only [Exit.inBlock, Exit.then])
  refine bodyPost_ret (results_tmp4 rfl _ _ _) rfl ?_
  exact ⟨rfl, rfl⟩
end Go.Proofs.YtphnainibdepbaaGreat
namespace Go.Proofs.YtphnainibdepbaaGreat
open Go.RowKit

end Go.Proofs.YtphnainibdepbaaGreat
namespace Go.Proofs.YtphnainibdepbaaGreat
open Go.RowKit

def mthI (y m k : Int) : Int := 12 * (y - 1900) + m - 1 + k
def toY (y m k : Int) : Int := 1900 + mthI y m k / 12
def toM (y m k : Int) : Int := mthI y m k % 12 + 1
def toD (d L l : Int) (e : Bool) : Int := if L < d then L else if e = true ∧ d = l then L else d
def monI (y m d k : Int) (e : Bool) : Int := dayI (toY y m k) (toM y m k) (toD d (lenI (toY y m k) (toM y m k)) (lenI y m) e)
theorem toD_ok {d L l : Int} {e : Bool} (h : 1 ≤ d) (hL : 28 ≤ L) : 1 ≤ toD d L l e ∧ toD d L l e ≤ L := by
  unfold toD
  split
  · omega
  · split <;> omega
theorem toYM {y m k : Int} (h0 : 0 ≤ mthI y m k) (h1 : mthI y m k < 3600) : ymB (toY y m k) (toM y m k) := by
  unfold ymB toY toM
  omega
theorem mon_ok {y m d k : Int} {e : Bool} (hd : 1 ≤ d) (h0 : 0 ≤ mthI y m k) (h1 : mthI y m k < 3600) :
    okD (toY y m k) (toM y m k) (toD d (lenI (toY y m k) (toM y m k)) (lenI y m) e) := by
  obtain ⟨a, b, c, f⟩ := toYM h0 h1
  have := toD_ok (l := lenI y m) (e := e) hd (len_lo (toY y m k) (toM y m k))
  exact ⟨a, b, c, f, this.1, this.2⟩

set_option maxHeartbeats 1600000 in
theorem months_ok (n y m d k : Int) (en : Bool) (w : World) (h : IsD n y m d) (h0 : 0 ≤ mthI y m k) (h1 : mthI y m k < 3600) :
    Calls Tryz.prog 123 #[.int .i64 n, .int .i64 k, .bool en] w fun e w' => e = .returned (.tuple #[.int .i64 (monI y m d k en), .int .i64 0]) ∧ w' = w := by
  have HC := hideS (civil_ok n y m d w h)
  obtain ⟨y1, y2, m1, m2, d1, d2⟩ := h.1
  have HO := hideS (ofP_ok _ _ _ w (mon_ok (y := y) (m := m) (d := d) (k := k) (e := en) d1 h0 h1))
  obtain ⟨a1, a2, a3, a4⟩ := toYM h0 h1
  have HL1 := hideS (fun wx => length_any (toY y m k) (toM y m k) wx a3 a4)
  have HL2 := hideS (fun wx => length_any y m wx m1 m2)
  unfold monI
  have hY : 1900 + (12 * (y - 1900) + m - 1 + k) / 12 = toY y m k := rfl
  have hM : (12 * (y - 1900) + m - 1 + k) % 12 + 1 = toM y m k := rfl
  unfold mthI at h0 h1
  have l1 := len_lo (toY y m k) (toM y m k)
  have l2 := len_lo y m
  clear h
  generalize toY y m k = Y at *
  generalize toM y m k = M at *
  generalize lenI Y M = L at *
  generalize lenI y m = l at *
  rcases (show L < d ∨ (d ≤ L ∧ ((en = true ∧ d = l) ∨ (en = true ∧ d ≠ l) ∨ en = false)) by cases en <;> simp <;> omega) with hd | ⟨hd, ⟨rfl, he⟩ | ⟨rfl, he⟩ | rfl⟩
  · have hD : toD d L l en = L := by unfold toD; rw [if_pos hd]
    rw [hD] at HO ⊢
    clear hD
    generalize dayI Y M L = R at *
    go_enter Tryz.func123, Tryz.ntmps123
    go_wp2_with (first | (go_at_call 110; refine HC.out.mono ?_; rintro e w' ⟨rfl, rfl⟩) | (go_at_call_of 141 (Value.int IntKind.i64 Y); refine (HL1.out _).mono ?_; rintro e w' ⟨rfl, rfl⟩) | (go_at_call_of 141 (Value.int IntKind.i64 y); refine (HL2.out _).mono ?_; rintro e w' ⟨rfl, rfl⟩) | (go_at_call 126; refine HO.out.mono ?_; rintro e w' ⟨rfl, rfl⟩))
    go_ret2
    exact ⟨rfl, rfl⟩
  · have hD : toD d L l true = L := by unfold toD; rw [if_neg (by omega), if_pos ⟨rfl, he⟩]
    rw [hD] at HO ⊢
    clear hD
    have he' : (d == l) = true := by rw [beq_iff_eq]; exact he
    clear he
    generalize dayI Y M L = R at *
    go_enter Tryz.func123, Tryz.ntmps123
    go_wp2_with (first | (go_at_call 110; refine HC.out.mono ?_; rintro e w' ⟨rfl, rfl⟩) | (go_at_call_of 141 (Value.int IntKind.i64 Y); refine (HL1.out _).mono ?_; rintro e w' ⟨rfl, rfl⟩) | (go_at_call_of 141 (Value.int IntKind.i64 y); refine (HL2.out _).mono ?_; rintro e w' ⟨rfl, rfl⟩) | (go_at_call 126; refine HO.out.mono ?_; rintro e w' ⟨rfl, rfl⟩))
    go_ret2
    exact ⟨rfl, rfl⟩
  · have hD : toD d L l true = d := by unfold toD; rw [if_neg (by omega), if_neg (fun a => he a.2)]
    rw [hD] at HO ⊢
    clear hD
    have he' : (d == l) = false := by rw [beq_eq_false_iff_ne]; exact he
    clear he
    generalize dayI Y M d = R at *
    go_enter Tryz.func123, Tryz.ntmps123
    go_wp2_with (first | (go_at_call 110; refine HC.out.mono ?_; rintro e w' ⟨rfl, rfl⟩) | (go_at_call_of 141 (Value.int IntKind.i64 Y); refine (HL1.out _).mono ?_; rintro e w' ⟨rfl, rfl⟩) | (go_at_call_of 141 (Value.int IntKind.i64 y); refine (HL2.out _).mono ?_; rintro e w' ⟨rfl, rfl⟩) | (go_at_call 126; refine HO.out.mono ?_; rintro e w' ⟨rfl, rfl⟩))
    go_ret2
    exact ⟨rfl, rfl⟩
  · have hD : toD d L l false = d := by unfold toD; rw [if_neg (by omega), if_neg (fun a => Bool.noConfusion a.1)]
    rw [hD] at HO ⊢
    clear hD
    generalize dayI Y M d = R at *
    go_enter Tryz.func123, Tryz.ntmps123
    go_wp2_with (first | (go_at_call 110; refine HC.out.mono ?_; rintro e w' ⟨rfl, rfl⟩) | (go_at_call_of 141 (Value.int IntKind.i64 Y); refine (HL1.out _).mono ?_; rintro e w' ⟨rfl, rfl⟩) | (go_at_call_of 141 (Value.int IntKind.i64 y); refine (HL2.out _).mono ?_; rintro e w' ⟨rfl, rfl⟩) | (go_at_call 126; refine HO.out.mono ?_; rintro e w' ⟨rfl, rfl⟩))
    go_ret2
    exact ⟨rfl, rfl⟩
theorem months_far (n y m d k : Int) (en : Bool) (w : World) (h : IsD n y m d) (hk : ¬ (0 ≤ mthI y m k ∧ mthI y m k < 3600)) (k0 : -9223372036854775808 ≤ k) (k1 : k ≤ 9223372036854775807) :
    Calls Tryz.prog 123 #[.int .i64 n, .int .i64 k, .bool en] w fun e w' => e = .returned (.tuple #[.int .i64 0, .int .i64 51]) ∧ w' = w := by
  have HC := hideS (civil_ok n y m d w h)
  obtain ⟨y1, y2, m1, m2, d1, d2⟩ := h.1
  unfold mthI at hk
  clear h
  rcases (show k < -(12 * (y - 1900) + m - 1) ∨ (¬ k < -(12 * (y - 1900) + m - 1) ∧ 3600 - (12 * (y - 1900) + m - 1) ≤ k) by omega) with hd | ⟨hd, hd'⟩
  all_goals
    clear hk
    go_enter Tryz.func123, Tryz.ntmps123
    go_wp2_with (go_at_call 110; refine HC.out.mono ?_; rintro e w' ⟨rfl, rfl⟩)
    go_ret2
    exact ⟨rfl, rfl⟩
end Go.Proofs.YtphnainibdepbaaGreat
namespace Go.Proofs.YtphnainibdepbaaGreat
open Go.RowKit

structure Spc where
  (st en n unit stub roll conv lag : Int)
structure SpcOk (s : Spc) : Prop where
  (s0 : isDayP s.st) (e0 : isDayP s.en) (lt : s.st < s.en) (n1 : 1 ≤ s.n) (n2 : s.n ≤ 1200) (u1 : 1 ≤ s.unit) (u2 : s.unit ≤ 4) (t1 : 1 ≤ s.stub) (t2 : s.stub ≤ 4) (r1 : 0 ≤ s.roll) (r2 : s.roll ≤ 2) (ru : s.roll = 0 ∨ 3 ≤ s.unit) (c1 : 0 ≤ s.conv) (c2 : s.conv ≤ 4) (l1 : 0 ≤ s.lag) (l2 : s.lag ≤ 30)
inductive SpcR (s : Spc) (A : Int) : Int → Prop where
  | range : ¬ (isDayP s.st ∧ isDayP s.en) → SpcR s A 51
  | spec : isDayP s.st → isDayP s.en → ¬ SpcOk s → SpcR s A 80
  | cal : SpcOk s → SpcR s A A
theorem spc_cases {s : Spc} (h0 : isDayP s.st) (h1 : isDayP s.en) (h : ¬ SpcOk s) :
    s.en ≤ s.st ∨ (s.st < s.en ∧ ¬ (1 ≤ s.n ∧ s.n ≤ 1200)) ∨ (s.st < s.en ∧ (1 ≤ s.n ∧ s.n ≤ 1200) ∧ ¬ (1 ≤ s.unit ∧ s.unit ≤ 4)) ∨ (s.st < s.en ∧ (1 ≤ s.n ∧ s.n ≤ 1200) ∧ (1 ≤ s.unit ∧ s.unit ≤ 4) ∧ ¬ (1 ≤ s.stub ∧ s.stub ≤ 4)) ∨
    (s.st < s.en ∧ (1 ≤ s.n ∧ s.n ≤ 1200) ∧ (1 ≤ s.unit ∧ s.unit ≤ 4) ∧ (1 ≤ s.stub ∧ s.stub ≤ 4) ∧ ¬ (0 ≤ s.roll ∧ s.roll ≤ 2)) ∨
    (s.st < s.en ∧ (1 ≤ s.n ∧ s.n ≤ 1200) ∧ (1 ≤ s.unit ∧ s.unit ≤ 4) ∧ (1 ≤ s.stub ∧ s.stub ≤ 4) ∧ (0 ≤ s.roll ∧ s.roll ≤ 2) ∧ s.roll ≠ 0 ∧ s.unit < 3) ∨
    (s.st < s.en ∧ (1 ≤ s.n ∧ s.n ≤ 1200) ∧ (1 ≤ s.unit ∧ s.unit ≤ 4) ∧ (1 ≤ s.stub ∧ s.stub ≤ 4) ∧ (0 ≤ s.roll ∧ s.roll ≤ 2) ∧ (s.roll = 0 ∨ 3 ≤ s.unit) ∧ ¬ (0 ≤ s.conv ∧ s.conv ≤ 4)) ∨
    (s.st < s.en ∧ (1 ≤ s.n ∧ s.n ≤ 1200) ∧ (1 ≤ s.unit ∧ s.unit ≤ 4) ∧ (1 ≤ s.stub ∧ s.stub ≤ 4) ∧ (0 ≤ s.roll ∧ s.roll ≤ 2) ∧ (s.roll = 0 ∨ 3 ≤ s.unit) ∧ (0 ≤ s.conv ∧ s.conv ≤ 4) ∧ ¬ (0 ≤ s.lag ∧ s.lag ≤ 30)) := by
  by_cases a1 : s.st < s.en
  · by_cases a2 : 1 ≤ s.n ∧ s.n ≤ 1200
    · by_cases a3 : 1 ≤ s.unit ∧ s.unit ≤ 4
      · by_cases a4 : 1 ≤ s.stub ∧ s.stub ≤ 4
        · by_cases a5 : 0 ≤ s.roll ∧ s.roll ≤ 2
          · by_cases a6 : s.roll ≠ 0 ∧ s.unit < 3
            · exact Or.inr (Or.inr (Or.inr (Or.inr (Or.inr (Or.inl ⟨a1, a2, a3, a4, a5, a6⟩)))))
            · have a6' : s.roll = 0 ∨ 3 ≤ s.unit := by omega
              by_cases a7 : 0 ≤ s.conv ∧ s.conv ≤ 4
              · refine Or.inr (Or.inr (Or.inr (Or.inr (Or.inr (Or.inr (Or.inr ⟨a1, a2, a3, a4, a5, a6', a7, fun a8 => h ?_⟩))))))
                exact ⟨h0, h1, a1, a2.1, a2.2, a3.1, a3.2, a4.1, a4.2, a5.1, a5.2, a6', a7.1, a7.2, a8.1, a8.2⟩
              · exact Or.inr (Or.inr (Or.inr (Or.inr (Or.inr (Or.inr (Or.inl ⟨a1, a2, a3, a4, a5, a6', a7⟩))))))
          · exact Or.inr (Or.inr (Or.inr (Or.inr (Or.inl ⟨a1, a2, a3, a4, a5⟩))))
        · exact Or.inr (Or.inr (Or.inr (Or.inl ⟨a1, a2, a3, a4⟩)))
      · exact Or.inr (Or.inr (Or.inl ⟨a1, a2, a3⟩))
    · exact Or.inr (Or.inl ⟨a1, a2⟩)
  · exact Or.inl (by omega)

def stepN (s : Spc) (k : Int) : Int := if s.unit = 2 ∨ s.unit = 4 then (if s.unit = 2 then 7 else 12) * (k * s.n) else k * s.n
open Classical in
noncomputable def rollO (roll y m d k : Int) : Option Int :=
  if 0 ≤ mthI y m k ∧ mthI y m k < 3600 then some (if roll = 0 then monI y m d k false else if roll = 1 then dayI (toY y m k) (toM y m k) (lenI (toY y m k) (toM y m k)) else thirdI (toY y m k) (toM y m k)) else none
open Classical in
noncomputable def ptO (s : Spc) (a k : Int) : Option Int :=
  if ¬ isDayP a then none
  else if s.unit ≤ 2 then (if isDayP (a + stepN s k) then some (a + stepN s k) else none)
  else if h : ∃ p : Int × Int × Int, IsD a p.1 p.2.1 p.2.2 then rollO s.roll h.choose.1 h.choose.2.1 h.choose.2.2 (stepN s k) else none
theorem pt_days {s : Spc} {a k : Int} (ha : isDayP a) (hu : s.unit ≤ 2) : ptO s a k = if isDayP (a + stepN s k) then some (a + stepN s k) else none := by
  unfold ptO
  rw [if_neg (fun h => h ha), if_pos hu]
theorem pt_months {s : Spc} {a k y m d : Int} (hd : IsD a y m d) (hu : ¬ s.unit ≤ 2) : ptO s a k = rollO s.roll y m d (stepN s k) := by
  have hx : ∃ p : Int × Int × Int, IsD a p.1 p.2.1 p.2.2 := ⟨(y, m, d), hd⟩
  unfold ptO
  rw [if_neg (fun h => h ⟨hd.range.1, hd.range.2⟩), if_neg hu, dif_pos hx]
  obtain ⟨e1, e2, e3⟩ := hx.choose_spec.unique hd
  rw [e1, e2, e3]
theorem pt_none {s : Spc} {a k : Int} (ha : ¬ isDayP a) : ptO s a k = none := by
  unfold ptO
  rw [if_pos ha]
theorem mul_big {k n : Int} (hn : 1 ≤ n) : (200000 < k → 200000 < k * n) ∧ (k < -200000 → k * n < -200000) := by
  refine ⟨fun h => ?_, fun h => ?_⟩
  · have := Int.mul_le_mul_of_nonneg_left hn (show 0 ≤ k by omega)
    omega
  · have := Int.mul_le_mul_of_nonneg_left hn (show 0 ≤ -k by omega)
    rw [Int.neg_mul, Int.neg_mul] at this
    omega
theorem step_big {s : Spc} {k : Int} (hn : 1 ≤ s.n) (hk : k < -200000 ∨ 200000 < k) : stepN s k < -200000 ∨ 200000 < stepN s k := by
  have h := mul_big (k := k) hn
  unfold stepN
  split
  · split <;> omega
  · omega
theorem pt_far {s : Spc} {a k : Int} (hn : 1 ≤ s.n) (hk : k < -200000 ∨ 200000 < k) : ptO s a k = none := by
  have hb := step_big hn hk
  by_cases ha : isDayP a
  · by_cases hu : s.unit ≤ 2
    · rw [pt_days ha hu, if_neg (fun h => by have h1 := h.1; have h2 := h.2; have := ha.1; have := ha.2; omega)]
    · obtain ⟨y, m, d, hd⟩ := isD_ex ha.1 ha.2
      rw [pt_months hd hu]
      unfold rollO
      obtain ⟨y0, y1, m0, m1, _, _⟩ := hd.1
      rw [if_neg (fun h => by unfold mthI at h; omega)]
  · exact pt_none ha
end Go.Proofs.YtphnainibdepbaaGreat
namespace Go.Proofs.YtphnainibdepbaaGreat
open Go.RowKit

def ancI (s : Spc) : Int := if s.stub ≤ 2 then s.en else s.st
def othI (s : Spc) : Int := if s.stub ≤ 2 then s.st else s.en
def sgnI (s : Spc) : Int := if s.stub ≤ 2 then -1 else 1
noncomputable def pkO (s : Spc) (k : Nat) : Option Int := ptO s (ancI s) (k * sgnI s)
def outB (s : Spc) : Option Int → Bool
  | none => true
  | some x => if s.stub ≤ 2 then decide (x ≤ s.st) else decide (s.en ≤ x)
structure DatR (s : Spc) (K : Nat) : Prop where
  ins : ∀ j < K, outB s (pkO s (j + 1)) = false
  out : outB s (pkO s (K + 1)) = true
theorem dat_ex {s : Spc} (h : SpcOk s) : ∃ K, DatR s K := by
  obtain ⟨K, _, a, b⟩ := least_of (p := fun j => !outB s (pkO s (j + 1))) 200001 ⟨200001, Nat.le_refl _, by
    have : pkO s (200001 + 1) = none := by
      unfold pkO
      refine pt_far h.n1 ?_
      unfold sgnI
      split
      · exact Or.inl (by omega)
      · exact Or.inr (by omega)
    simp only [this]; rfl⟩
  exact ⟨K, fun j hj => by have := b j hj; simpa using this, by simpa using a⟩
noncomputable def innL (s : Spc) (K : Nat) : List Int := (List.range K).map fun j => (pkO s (j + 1)).getD 0
theorem inn_len (s : Spc) (K : Nat) : (innL s K).length = K := by unfold innL; simp
theorem inn_succ (s : Spc) (K : Nat) : innL s (K + 1) = innL s K ++ [(pkO s (K + 1)).getD 0] := by
  unfold innL; rw [List.range_succ, List.map_append]; rfl
theorem inn_get {s : Spc} {K j : Nat} (h : j < K) : (innL s K).getD j 0 = (pkO s (j + 1)).getD 0 := by unfold innL; simp [List.getD, h]
theorem inn_some {s : Spc} {K j : Nat} (h : DatR s K) (hj : j < K) : ∃ x, pkO s (j + 1) = some x ∧ (if s.stub ≤ 2 then s.st < x else x < s.en) := by
  have := h.ins j hj
  cases hp : pkO s (j + 1) with
  | none => rw [hp] at this; exact Bool.noConfusion this
  | some x =>
    rw [hp] at this
    refine ⟨x, rfl, ?_⟩
    have h2 : (if s.stub ≤ 2 then decide (x ≤ s.st) else decide (s.en ≤ x)) = false := this
    by_cases hs : s.stub ≤ 2
    · rw [if_pos hs] at h2 ⊢
      have := of_decide_eq_false h2
      omega
    · rw [if_neg hs] at h2 ⊢
      have := of_decide_eq_false h2
      omega
noncomputable def evenB (s : Spc) (K : Nat) : Bool := pkO s (K + 1) == some (othI s)
noncomputable def cutN (s : Spc) (K : Nat) : Nat := if (s.stub = 2 ∨ s.stub = 4) ∧ evenB s K = false ∧ 0 < K then K - 1 else K
theorem cut_le (s : Spc) (K : Nat) : cutN s K ≤ K := by unfold cutN; split <;> omega
noncomputable def cutI (s : Spc) (C i : Nat) : Int := if s.stub ≤ 2 then (pkO s (C - i)).getD 0 else (pkO s (i + 1)).getD 0
noncomputable def datL (s : Spc) (C : Nat) : List Int := s.st :: ((List.range C).map (cutI s C) ++ [s.en])
theorem dat_len (s : Spc) (C : Nat) : (datL s C).length = C + 2 := by unfold datL; simp
theorem inn_cut {s : Spc} {K C i : Nat} (hC : C ≤ K) (hi : i < C) : (innL s K).getD (if s.stub ≤ 2 then C - 1 - i else i) 0 = cutI s C i := by
  unfold cutI
  by_cases hs : s.stub ≤ 2
  · rw [if_pos hs, if_pos hs, inn_get (by omega), show C - 1 - i + 1 = C - i by omega]
  · rw [if_neg hs, if_neg hs, inn_get (by omega)]

end Go.Proofs.YtphnainibdepbaaGreat
namespace Go.Proofs.YtphnainibdepbaaGreat
open Go.RowKit

theorem isD_lt {n n' y m d y' m' d' : Int} (h : IsD n y m d) (h' : IsD n' y' m' d') (hm : 12 * y + m < 12 * y' + m') : n < n' := by
  obtain ⟨a0, a1⟩ := h.year
  obtain ⟨b0, b1⟩ := h'.year
  obtain ⟨y0, y1, m0, m1, _, _⟩ := h.1
  obtain ⟨y0', y1', m0', m1', _, _⟩ := h'.1
  by_cases e : y < y'
  · have := ny_mono (y := y + 1) (z := y') (by omega) (by omega)
    omega
  · obtain rfl : y = y' := by omega
    have c := h.month
    have c' := h'.month
    have := cum_mono (y := y) (m := m + 1) (k := m') (by omega) (by omega) (by omega)
    omega
theorem third_isD {y m : Int} (h : ymB y m) : ∃ d, IsD (thirdI y m) y m d := by
  refine ⟨15 + (9 - dayI y m 1) % 7, okD_first h _ (by omega) (by omega), ?_⟩
  unfold thirdI wedI dayI
  omega
theorem toYM_at (y m k : Int) : 12 * toY y m k + toM y m k = 22801 + mthI y m k := by
  unfold toY toM
  omega
theorem roll_isD {roll y m d k x : Int} (hd : 1 ≤ d) (h : rollO roll y m d k = some x) : ∃ d', IsD x (toY y m k) (toM y m k) d' := by
  unfold rollO at h
  by_cases hr : 0 ≤ mthI y m k ∧ mthI y m k < 3600
  · rw [if_pos hr] at h
    have e := Option.some.inj h
    have hym := toYM hr.1 hr.2
    by_cases r0 : roll = 0
    · rw [if_pos r0] at e
      have hl := len_lo (toY y m k) (toM y m k)
      have ht := toD_ok (l := lenI y m) (e := false) hd hl
      exact ⟨_, ⟨hym.1, hym.2.1, hym.2.2.1, hym.2.2.2, ht.1, ht.2⟩, e.symm⟩
    · rw [if_neg r0] at e
      by_cases r1 : roll = 1
      · rw [if_pos r1] at e
        have hl := len_lo (toY y m k) (toM y m k)
        exact ⟨_, ⟨hym.1, hym.2.1, hym.2.2.1, hym.2.2.2, by omega, Int.le_refl _⟩, e.symm⟩
      · rw [if_neg r1] at e
        rw [← e]
        exact third_isD hym
  · rw [if_neg hr] at h
    cases h
theorem pt_anchor {s : Spc} {a k x : Int} (h : ptO s a k = some x) : isDayP a := Classical.byContradiction fun ha => by
  rw [pt_none ha] at h; cases h
theorem pt_day {s : Spc} {a k x : Int} (h : ptO s a k = some x) : isDayP x := by
  have ha := pt_anchor h
  by_cases hu : s.unit ≤ 2
  · rw [pt_days ha hu] at h
    by_cases hx : isDayP (a + stepN s k)
    · rw [if_pos hx] at h
      rw [← Option.some.inj h]; exact hx
    · rw [if_neg hx] at h; cases h
  · obtain ⟨y, m, d, hd⟩ := isD_ex ha.1 ha.2
    rw [pt_months hd hu] at h
    obtain ⟨d', hx⟩ := roll_isD hd.1.2.2.2.2.1 h
    exact hx.range
theorem step_lt {s : Spc} {k k' : Int} (hn : 1 ≤ s.n) (hk : k < k') : stepN s k < stepN s k' := by
  have h : k * s.n < k' * s.n := Int.mul_lt_mul_of_pos_right hk (by omega)
  unfold stepN
  split
  · split <;> omega
  · exact h
theorem step_zero (s : Spc) : stepN s 0 = 0 := by unfold stepN; simp
theorem pt_lt {s : Spc} {a k k' x x' : Int} (hn : 1 ≤ s.n) (h : ptO s a k = some x) (h' : ptO s a k' = some x') (hk : k < k') : x < x' := by
  have ha := pt_anchor h
  have hs := step_lt hn hk
  by_cases hu : s.unit ≤ 2
  · rw [pt_days ha hu] at h h'
    by_cases hx : isDayP (a + stepN s k)
    · by_cases hx' : isDayP (a + stepN s k')
      · rw [if_pos hx] at h
        rw [if_pos hx'] at h'
        have := Option.some.inj h
        have := Option.some.inj h'
        omega
      · rw [if_neg hx'] at h'; cases h'
    · rw [if_neg hx] at h; cases h
  · obtain ⟨y, m, d, hd⟩ := isD_ex ha.1 ha.2
    rw [pt_months hd hu] at h h'
    obtain ⟨e, hx⟩ := roll_isD hd.1.2.2.2.2.1 h
    obtain ⟨e', hx'⟩ := roll_isD hd.1.2.2.2.2.1 h'
    refine isD_lt hx hx' ?_
    rw [toYM_at, toYM_at]
    unfold mthI
    omega
theorem pt_side {s : Spc} {a k x : Int} (hn : 1 ≤ s.n) (h : ptO s a k = some x) : (0 < k → a < x) ∧ (k < 0 → x < a) := by
  have ha := pt_anchor h
  have hs : (0 < k → 0 < stepN s k) ∧ (k < 0 → stepN s k < 0) := by
    have := step_zero s
    exact ⟨fun e => by have := step_lt hn e; omega, fun e => by have := step_lt hn e; omega⟩
  by_cases hu : s.unit ≤ 2
  · rw [pt_days ha hu] at h
    by_cases hx : isDayP (a + stepN s k)
    · rw [if_pos hx] at h
      have := Option.some.inj h
      exact ⟨fun e => by have := hs.1 e; omega, fun e => by have := hs.2 e; omega⟩
    · rw [if_neg hx] at h; cases h
  · obtain ⟨y, m, d, hd⟩ := isD_ex ha.1 ha.2
    rw [pt_months hd hu] at h
    obtain ⟨e, hx⟩ := roll_isD hd.1.2.2.2.2.1 h
    refine ⟨fun e => isD_lt hd hx ?_, fun e => isD_lt hx hd ?_⟩
    · have := hs.1 e; rw [toYM_at]; unfold mthI; omega
    · have := hs.2 e; rw [toYM_at]; unfold mthI; omega
theorem pk_in {s : Spc} {K j : Nat} (h : SpcOk s) (hK : DatR s K) (hj : j < K) : ∃ x, pkO s (j + 1) = some x ∧ s.st < x ∧ x < s.en := by
  obtain ⟨x, e, hx⟩ := inn_some hK hj
  refine ⟨x, e, ?_⟩
  have hp := pt_side h.n1 e
  unfold ancI sgnI at hp
  by_cases hs : s.stub ≤ 2
  · rw [if_pos hs] at hx
    rw [if_pos hs, if_pos hs] at hp
    exact ⟨hx, hp.2 (by omega)⟩
  · rw [if_neg hs] at hx
    rw [if_neg hs, if_neg hs] at hp
    exact ⟨hp.1 (by omega), hx⟩
theorem pk_lt {s : Spc} {j j' : Nat} {x x' : Int} (h : SpcOk s) (e : pkO s j = some x) (e' : pkO s j' = some x') (hj : j < j') : if s.stub ≤ 2 then x' < x else x < x' := by
  unfold pkO sgnI at e e'
  by_cases hs : s.stub ≤ 2
  · rw [if_pos hs] at e e' ⊢
    exact pt_lt h.n1 e' e (by omega)
  · rw [if_neg hs] at e e' ⊢
    exact pt_lt h.n1 e e' (by omega)
theorem cut_pt {s : Spc} {K C i : Nat} (h : SpcOk s) (hK : DatR s K) (hC : C ≤ K) (hi : i < C) : pkO s (if s.stub ≤ 2 then C - i else i + 1) = some (cutI s C i) ∧ s.st < cutI s C i ∧ cutI s C i < s.en := by
  unfold cutI
  by_cases hs : s.stub ≤ 2
  · rw [if_pos hs, if_pos hs]
    obtain ⟨x, e, h1, h2⟩ := pk_in (j := C - i - 1) h hK (by omega)
    rw [show C - i - 1 + 1 = C - i by omega] at e
    rw [e]; exact ⟨rfl, h1, h2⟩
  · rw [if_neg hs, if_neg hs]
    obtain ⟨x, e, h1, h2⟩ := pk_in (j := i) h hK (by omega)
    rw [e]; exact ⟨rfl, h1, h2⟩
theorem cut_lt {s : Spc} {K C i : Nat} (h : SpcOk s) (hK : DatR s K) (hC : C ≤ K) (hi : i + 1 < C) : cutI s C i < cutI s C (i + 1) := by
  obtain ⟨e, _, _⟩ := cut_pt h hK hC (show i < C by omega)
  obtain ⟨e', _, _⟩ := cut_pt h hK hC hi
  by_cases hs : s.stub ≤ 2
  · rw [if_pos hs] at e e'
    have := pk_lt h e' e (by omega)
    rw [if_pos hs] at this
    exact this
  · rw [if_neg hs] at e e'
    have := pk_lt h e e' (by omega)
    rw [if_neg hs] at this
    exact this
theorem dat_first (s : Spc) (C : Nat) : (datL s C).getD 0 0 = s.st := rfl
theorem dat_cut {s : Spc} {C i : Nat} (hi : i < C) : (datL s C).getD (i + 1) 0 = cutI s C i := by
  unfold datL
  simp [List.getD, List.getElem?_append_left, hi]
theorem dat_last (s : Spc) (C : Nat) : (datL s C).getD (C + 1) 0 = s.en := by
  unfold datL
  simp [List.getD]
theorem dat_lt {s : Spc} {K C i : Nat} (h : SpcOk s) (hK : DatR s K) (hC : C ≤ K) (hi : i < C + 1) : (datL s C).getD i 0 < (datL s C).getD (i + 1) 0 := by
  cases i with
  | zero =>
    rw [dat_first]
    by_cases hC0 : 0 < C
    · rw [dat_cut hC0]; exact (cut_pt h hK hC hC0).2.1
    · obtain rfl : C = 0 := by omega
      rw [dat_last]; exact h.lt
  | succ i =>
    have hi' : i < C := by omega
    rw [dat_cut hi']
    by_cases e : i + 1 < C
    · rw [dat_cut e]; exact cut_lt h hK hC e
    · obtain rfl : C = i + 1 := by omega
      rw [dat_last]; exact (cut_pt h hK hC hi').2.2
theorem dat_day {s : Spc} {K C i : Nat} (h : SpcOk s) (hK : DatR s K) (hC : C ≤ K) (hi : i < C + 2) : isDayP ((datL s C).getD i 0) := by
  have h0 := h.s0
  have h1 := h.e0
  cases i with
  | zero => rw [dat_first]; exact h0
  | succ i =>
    by_cases e : i < C
    · rw [dat_cut e]
      exact pt_day (cut_pt h hK hC e).1
    · obtain rfl : i = C := by omega
      rw [dat_last]; exact h1
end Go.Proofs.YtphnainibdepbaaGreat
namespace Go.Proofs.YtphnainibdepbaaGreat
open Go.RowKit

def thirI (kind ya ma da yb mb db : Int) : Int := 360 * (yb - ya) + 30 * (mb - ma) + (if kind = 5 ∨ min da 30 = 30 then min db 30 else db) - min da 30
def accI (y n : Int) : Int := 133590 * (y - 1900) + (n - nyI y) * (366 - lpI y)
theorem acc_bd {y n : Int} (h : 1900 ≤ y) (h' : y ≤ 2200) (h0 : nyI y ≤ n) (h1 : n ≤ nyI (y + 1)) : 0 ≤ accI y n ∧ accI y n ≤ 50000000 := by
  unfold accI
  rw [ny_succ h] at h1
  rcases lp_cases y with e | e <;> rw [e] at h1 ⊢ <;> constructor <;> omega
end Go.Proofs.YtphnainibdepbaaGreat
namespace Go.Proofs.YtphnainibdepbaaGreat
open Go.RowKit

def CBox (w : World) (W : Int) (v : Value) (wr : World) : Prop := Below (w.heap.size + 1) (w.alloc (.cells #[.int .i64 W, v] 24)) wr
theorem CBox.step {w wr w' : World} {W : Int} {v : Value} (h : CBox w W v wr) (hb : Below wr.heap.size wr w') : CBox w W v w' :=
  h.trans (hb.mono (by have := h.size; simp at this; omega))
theorem CBox.below {w wr : World} {W : Int} {v : Value} (h : CBox w W v wr) : Below w.heap.size w wr :=
  ((Below.refl w.heap.size w).alloc (Nat.le_refl _) _).trans (h.mono (by omega))
theorem CBox.first {w w' : World} {W : Int} {v : Value} (hb : Below (w.alloc (.cells #[.int .i64 W, v] 24)).heap.size (w.alloc (.cells #[.int .i64 W, v] 24)) w') : CBox w W v w' :=
  hb.mono (by simp)
end Go.Proofs.YtphnainibdepbaaGreat
namespace Go.Proofs.YtphnainibdepbaaGreat
open Go.RowKit

end Go.Proofs.YtphnainibdepbaaGreat
namespace Go.Proofs.YtphnainibdepbaaGreat
open Go.RowKit

structure HK (w : World) (W : Int) (v : Value) (b5 : Nat) (Y m d : Int) (wr : World) : Prop where
  box : CBox w W v wr
  d0 : wr.cell? ⟨b5, 0, none⟩ = some (.int .i64 Y)
  d1 : wr.cell? ⟨b5, 1, none⟩ = some (.int .i64 m)
  d2 : wr.cell? ⟨b5, 2, none⟩ = some (.int .i64 d)
  lt : b5 < wr.heap.size
theorem HK.step {w wr w' : World} {W : Int} {v : Value} {b5 : Nat} {Y m d : Int} (h : HK w W v b5 Y m d wr) (hb : Below wr.heap.size wr w') : HK w W v b5 Y m d w' :=
  ⟨h.box.step hb, (hb.cell (p := ⟨b5, 0, none⟩) h.lt).trans h.d0, (hb.cell (p := ⟨b5, 1, none⟩) h.lt).trans h.d1, (hb.cell (p := ⟨b5, 2, none⟩) h.lt).trans h.d2, Nat.lt_of_lt_of_le h.lt hb.size⟩
structure HK2 (w : World) (W : Int) (v : Value) (b5 : Nat) (Y m d : Int) (b8 : Nat) (r : Rul) (wr : World) : Prop where
  hk : HK w W v b5 Y m d wr
  rc : RCells wr b8 0 r
  lt8 : b8 < wr.heap.size
theorem HK2.step {w wr w' : World} {W : Int} {v : Value} {b5 : Nat} {Y m d : Int} {b8 : Nat} {r : Rul} (h : HK2 w W v b5 Y m d b8 r wr) (hb : Below wr.heap.size wr w') : HK2 w W v b5 Y m d b8 r w' :=
  ⟨h.hk.step hb, h.rc.below hb h.lt8, Nat.lt_of_lt_of_le h.lt8 hb.size⟩
theorem HK2.first {w wr : World} {W : Int} {v : Value} {b5 : Nat} {Y m d : Int} {r : Rul} (h : HK w W v b5 Y m d wr) :
    HK2 w W v b5 Y m d wr.heap.size r (wr.alloc (.cells #[.int .i64 r.kind, .int .i64 r.mon, .int .i64 r.day, .int .i64 r.nth, .int .i64 r.wd, .int .i64 r.off, .int .i64 r.fr, .int .i64 r.to, .int .i64 r.mv] 88)) :=
  ⟨h.step ((Below.refl _ wr).alloc (Nat.le_refl _) _), ⟨by simp, by simp, by simp, by simp, by simp, by simp, by simp, by simp, by simp⟩, by simp⟩

end Go.Proofs.YtphnainibdepbaaGreat
