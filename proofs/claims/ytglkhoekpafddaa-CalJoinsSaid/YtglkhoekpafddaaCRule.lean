/- Rules and their days: no word of the program. -/
import Derived.Test.YtglkhoekpafddaaCPlain
import Derived.Test.YtglkhoekpafddaaDNamed
namespace Go.Proofs.Ytglkhoekpafddaa
open Go.RowKit

theorem ups_unique {W n : Int} {u d u' d' : Nat} (h : Ups W n u d) (h' : Ups W n u' d') : u = u' ∧ d = d' := by
  constructor
  · rcases Nat.lt_trichotomy u u' with e | e | e
    · have := h'.uo u e; rw [h.uf] at this; exact Bool.noConfusion this
    · exact e
    · have := h.uo u' e; rw [h'.uf] at this; exact Bool.noConfusion this
  · rcases Nat.lt_trichotomy d d' with e | e | e
    · have := h'.dn d e; rw [h.df] at this; exact Bool.noConfusion this
    · exact e
    · have := h.dn d' e; rw [h'.df] at this; exact Bool.noConfusion this
open Classical in
/-- Where a rule's day lies. -/
noncomputable def mvI (W n mv : Int) : Int := if h : ∃ p : Nat × Nat, Ups W n p.1 p.2 then movI W n mv h.choose.1 h.choose.2 else n
theorem mv_eq {W n mv : Int} {u d : Nat} (h : Ups W n u d) : mvI W n mv = movI W n mv u d := by
  have hx : ∃ p : Nat × Nat, Ups W n p.1 p.2 := ⟨(u, d), h⟩
  unfold mvI
  rw [dif_pos hx]
  have e := ups_unique hx.choose_spec h
  rw [e.1, e.2]
/-- The most days that a month ever has. -/
def mostI (m : Int) : Int := if m = 2 then 29 else if m = 4 ∨ m = 6 ∨ m = 9 ∨ m = 11 then 30 else 31
/-- May the rule be? -/
def fitB (r : Rul) : Bool :=
  if r.kind = 4 then decide (r.mon = 0 ∧ r.nth = 0 ∧ r.wd = 0 ∧ r.off = 0 ∧ r.fr = 0 ∧ r.to = 0 ∧ r.mv = 0 ∧ 0 ≤ r.day ∧ r.day ≤ 109572)
  else decide (1900 ≤ r.fr ∧ r.fr ≤ 2199 ∧ r.fr ≤ r.to ∧ r.to ≤ 2199 ∧ 0 ≤ r.mv ∧ r.mv ≤ 2) &&
    (if r.kind = 1 then decide (r.nth = 0 ∧ r.wd = 0 ∧ r.off = 0 ∧ 1 ≤ r.mon ∧ r.mon ≤ 12 ∧ 1 ≤ r.day ∧ r.day ≤ mostI r.mon)
    else if r.kind = 2 then decide (r.day = 0 ∧ r.off = 0 ∧ 1 ≤ r.mon ∧ r.mon ≤ 12 ∧ 0 ≤ r.wd ∧ r.wd ≤ 6 ∧ 1 ≤ r.nth ∧ r.nth ≤ 5)
    else if r.kind = 3 then decide (r.mon = 0 ∧ r.day = 0 ∧ r.nth = 0 ∧ r.wd = 0 ∧ -100 ≤ r.off ∧ r.off ≤ 100) else false)
/-- What a rule that may be is. -/
theorem fit_cases {r : Rul} (h : fitB r = true) :
    (r.kind = 4 ∧ 0 ≤ r.day ∧ r.day ≤ 109572 ∧ r.mv = 0) ∨
    ((1900 ≤ r.fr ∧ r.fr ≤ r.to ∧ r.to ≤ 2199 ∧ 0 ≤ r.mv ∧ r.mv ≤ 2) ∧
      ((r.kind = 1 ∧ 1 ≤ r.mon ∧ r.mon ≤ 12 ∧ 1 ≤ r.day ∧ r.day ≤ mostI r.mon) ∨ (r.kind = 2 ∧ 1 ≤ r.mon ∧ r.mon ≤ 12 ∧ 0 ≤ r.wd ∧ r.wd ≤ 6 ∧ 1 ≤ r.nth ∧ r.nth ≤ 5) ∨ (r.kind = 3 ∧ -100 ≤ r.off ∧ r.off ≤ 100))) := by
  unfold fitB at h
  by_cases k4 : r.kind = 4
  · rw [if_pos k4, decide_eq_true_eq] at h
    exact Or.inl ⟨k4, h.2.2.2.2.2.2.2.1, h.2.2.2.2.2.2.2.2, h.2.2.2.2.2.2.1⟩
  · rw [if_neg k4, Bool.and_eq_true, decide_eq_true_eq] at h
    obtain ⟨⟨a, b, c, d, e, f⟩, h⟩ := h
    refine Or.inr ⟨⟨a, c, d, e, f⟩, ?_⟩
    by_cases k1 : r.kind = 1
    · rw [if_pos k1, decide_eq_true_eq] at h
      exact Or.inl ⟨k1, h.2.2.2⟩
    · rw [if_neg k1] at h
      by_cases k2 : r.kind = 2
      · rw [if_pos k2, decide_eq_true_eq] at h
        exact Or.inr (Or.inl ⟨k2, h.2.2⟩)
      · rw [if_neg k2] at h
        by_cases k3 : r.kind = 3
        · rw [if_pos k3, decide_eq_true_eq] at h
          exact Or.inr (Or.inr ⟨k3, h.2.2.2.2⟩)
        · rw [if_neg k3] at h; exact Bool.noConfusion h
open Classical in
/-- A rule's day in a year, ahead of the moving. -/
noncomputable def baseO (r : Rul) (y : Int) : Option Int :=
  if y < r.fr ∨ r.to < y then none
  else if r.kind = 1 then (if okD y r.mon r.day then some (dayI y r.mon r.day) else none)
  else if r.kind = 2 then some (nthI y r.mon r.wd r.nth)
  else if r.kind = 3 then some (eaDay y + r.off) else some 0
noncomputable def dayO (W : Int) (r : Rul) (y : Int) : Option Int := (baseO r y).map (fun n => mvI W n r.mv)
/-- Does the rule give the day n of the year Y? -/
noncomputable def hitB (W : Int) (r : Rul) (n Y : Int) : Bool :=
  if r.kind = 4 then r.day == n else dayO W r (Y - 1) == some n || dayO W r Y == some n || dayO W r (Y + 1) == some n
noncomputable def holB (W : Int) (rs : List Rul) (n Y : Int) : Bool := rs.any fun r => hitB W r n Y
theorem nth_rng {y m wd k : Int} (h : ymB y m) (_d0 : 0 ≤ wd) (_d1 : wd ≤ 6) (k1 : 1 ≤ k) (k5 : k ≤ 5) : 0 ≤ nthI y m wd k ∧ nthI y m wd k ≤ 110000 := by
  obtain ⟨f0, f1⟩ := (isD_of (okD_first h 1 (by omega) (by omega))).range
  have l0 := len_lo y m
  show 0 ≤ (if k = 5 ∧ dayI y m 1 + lenI y m ≤ dayI y m 1 + (wd - dayI y m 1) % 7 + 7 * (k - 1) then dayI y m 1 + (wd - dayI y m 1) % 7 + 7 * (k - 1) - 7 else dayI y m 1 + (wd - dayI y m 1) % 7 + 7 * (k - 1)) ∧ (if k = 5 ∧ dayI y m 1 + lenI y m ≤ dayI y m 1 + (wd - dayI y m 1) % 7 + 7 * (k - 1) then dayI y m 1 + (wd - dayI y m 1) % 7 + 7 * (k - 1) - 7 else dayI y m 1 + (wd - dayI y m 1) % 7 + 7 * (k - 1)) ≤ 110000
  split <;> omega
end Go.Proofs.Ytglkhoekpafddaa
