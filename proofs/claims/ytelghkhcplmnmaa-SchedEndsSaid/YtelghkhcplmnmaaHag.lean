/- The contracts of Months, of the program and of the document's answer. Schedules as whole numbers: no word of the program. -/
import Derived.Test.YtelghkhcplmnmaaHaf
import Derived.Test.YtelghkhcplmnmaaHae
namespace Go.Proofs.Ytelghkhcplmnmaa
open Go.RowKit

/-- The month that lies k months on, counted from January 1900. -/
def atI (y m k : Int) : Int := 12 * (y - 1900) + m - 1 + k
def toY (y m k : Int) : Int := 1900 + atI y m k / 12
def toM (y m k : Int) : Int := atI y m k % 12 + 1
/-- The day's number there: L the new month's length, l the elder one's. -/
def toD (d L l : Int) (e : Bool) : Int := if L < d then L else if e = true ∧ d = l then L else d
def monI (y m d k : Int) (e : Bool) : Int := dayI (toY y m k) (toM y m k) (toD d (lenI (toY y m k) (toM y m k)) (lenI y m) e)
theorem toD_ok {d L l : Int} {e : Bool} (h : 1 ≤ d) (hL : 28 ≤ L) : 1 ≤ toD d L l e ∧ toD d L l e ≤ L := by
  unfold toD
  split
  · omega
  · split <;> omega
theorem toYM {y m k : Int} (h0 : 0 ≤ atI y m k) (h1 : atI y m k < 3600) : ymB (toY y m k) (toM y m k) := by
  unfold ymB toY toM
  omega
theorem mon_ok {y m d k : Int} {e : Bool} (hd : 1 ≤ d) (h0 : 0 ≤ atI y m k) (h1 : atI y m k < 3600) :
    okD (toY y m k) (toM y m k) (toD d (lenI (toY y m k) (toM y m k)) (lenI y m) e) := by
  obtain ⟨a, b, c, f⟩ := toYM h0 h1
  have := toD_ok (l := lenI y m) (e := e) hd (len_lo (toY y m k) (toM y m k))
  exact ⟨a, b, c, f, this.1, this.2⟩

set_option maxHeartbeats 1600000 in
theorem months_ok (n y m d k : Int) (en : Bool) (w : World) (h : IsD n y m d) (h0 : 0 ≤ atI y m k) (h1 : atI y m k < 3600) :
    Calls Try.prog 57 #[.int .i64 n, .int .i64 k, .bool en] w fun e w' => e = .returned (.tuple #[.int .i64 (monI y m d k en), .int .i64 0]) ∧ w' = w := by
  have HC := hideS (civil_ok n y m d w h)
  obtain ⟨y1, y2, m1, m2, d1, d2⟩ := h.1
  have HO := hideS (ofP_ok _ _ _ w (mon_ok (y := y) (m := m) (d := d) (k := k) (e := en) d1 h0 h1))
  obtain ⟨a1, a2, a3, a4⟩ := toYM h0 h1
  have HL1 := hideS (fun wx => length_any (toY y m k) (toM y m k) wx a3 a4)
  have HL2 := hideS (fun wx => length_any y m wx m1 m2)
  unfold monI
  have hY : 1900 + (12 * (y - 1900) + m - 1 + k) / 12 = toY y m k := rfl
  have hM : (12 * (y - 1900) + m - 1 + k) % 12 + 1 = toM y m k := rfl
  unfold atI at h0 h1
  have l1 := len_lo (toY y m k) (toM y m k)
  have l2 := len_lo y m
  clear h
  generalize toY y m k = Y at *
  generalize toM y m k = M at *
  generalize lenI Y M = L at *
  generalize lenI y m = l at *
  rcases (show L < d ∨ (d ≤ L ∧ ((en = true ∧ d = l) ∨ (en = true ∧ d ≠ l) ∨ en = false)) by cases en <;> simp <;> omega) with hd | ⟨hd, ⟨rfl, he⟩ | ⟨rfl, he⟩ | rfl⟩
  · have hD : toD d L l en = L := by unfold toD; rw [if_pos hd]
    rw [hD] at HO ⊢
    clear hD
    generalize dayI Y M L = R at *
    go_enter Try.func57, Try.ntmps57
    go_wp2_with (first | (go_at_call 58; refine HC.out.mono ?_; rintro e w' ⟨rfl, rfl⟩) | (go_at_call_of 67 (Value.int IntKind.i64 Y); refine (HL1.out _).mono ?_; rintro e w' ⟨rfl, rfl⟩) | (go_at_call_of 67 (Value.int IntKind.i64 y); refine (HL2.out _).mono ?_; rintro e w' ⟨rfl, rfl⟩) | (go_at_call 68; refine HO.out.mono ?_; rintro e w' ⟨rfl, rfl⟩))
    go_ret2
    exact ⟨rfl, rfl⟩
  · have hD : toD d L l true = L := by unfold toD; rw [if_neg (by omega), if_pos ⟨rfl, he⟩]
    rw [hD] at HO ⊢
    clear hD
    have he' : (d == l) = true := by rw [beq_iff_eq]; exact he
    clear he
    generalize dayI Y M L = R at *
    go_enter Try.func57, Try.ntmps57
    go_wp2_with (first | (go_at_call 58; refine HC.out.mono ?_; rintro e w' ⟨rfl, rfl⟩) | (go_at_call_of 67 (Value.int IntKind.i64 Y); refine (HL1.out _).mono ?_; rintro e w' ⟨rfl, rfl⟩) | (go_at_call_of 67 (Value.int IntKind.i64 y); refine (HL2.out _).mono ?_; rintro e w' ⟨rfl, rfl⟩) | (go_at_call 68; refine HO.out.mono ?_; rintro e w' ⟨rfl, rfl⟩))
    go_ret2
    exact ⟨rfl, rfl⟩
  · have hD : toD d L l true = d := by unfold toD; rw [if_neg (by omega), if_neg (fun a => he a.2)]
    rw [hD] at HO ⊢
    clear hD
    have he' : (d == l) = false := by rw [beq_eq_false_iff_ne]; exact he
    clear he
    generalize dayI Y M d = R at *
    go_enter Try.func57, Try.ntmps57
    go_wp2_with (first | (go_at_call 58; refine HC.out.mono ?_; rintro e w' ⟨rfl, rfl⟩) | (go_at_call_of 67 (Value.int IntKind.i64 Y); refine (HL1.out _).mono ?_; rintro e w' ⟨rfl, rfl⟩) | (go_at_call_of 67 (Value.int IntKind.i64 y); refine (HL2.out _).mono ?_; rintro e w' ⟨rfl, rfl⟩) | (go_at_call 68; refine HO.out.mono ?_; rintro e w' ⟨rfl, rfl⟩))
    go_ret2
    exact ⟨rfl, rfl⟩
  · have hD : toD d L l false = d := by unfold toD; rw [if_neg (by omega), if_neg (fun a => Bool.noConfusion a.1)]
    rw [hD] at HO ⊢
    clear hD
    generalize dayI Y M d = R at *
    go_enter Try.func57, Try.ntmps57
    go_wp2_with (first | (go_at_call 58; refine HC.out.mono ?_; rintro e w' ⟨rfl, rfl⟩) | (go_at_call_of 67 (Value.int IntKind.i64 Y); refine (HL1.out _).mono ?_; rintro e w' ⟨rfl, rfl⟩) | (go_at_call_of 67 (Value.int IntKind.i64 y); refine (HL2.out _).mono ?_; rintro e w' ⟨rfl, rfl⟩) | (go_at_call 68; refine HO.out.mono ?_; rintro e w' ⟨rfl, rfl⟩))
    go_ret2
    exact ⟨rfl, rfl⟩
theorem months_far (n y m d k : Int) (en : Bool) (w : World) (h : IsD n y m d) (hk : ¬ (0 ≤ atI y m k ∧ atI y m k < 3600)) (k0 : -9223372036854775808 ≤ k) (k1 : k ≤ 9223372036854775807) :
    Calls Try.prog 57 #[.int .i64 n, .int .i64 k, .bool en] w fun e w' => e = .returned (.tuple #[.int .i64 0, .int .i64 51]) ∧ w' = w := by
  have HC := hideS (civil_ok n y m d w h)
  obtain ⟨y1, y2, m1, m2, d1, d2⟩ := h.1
  unfold atI at hk
  clear h
  rcases (show k < -(12 * (y - 1900) + m - 1) ∨ (¬ k < -(12 * (y - 1900) + m - 1) ∧ 3600 - (12 * (y - 1900) + m - 1) ≤ k) by omega) with hd | ⟨hd, hd'⟩
  all_goals
    clear hk
    go_enter Try.func57, Try.ntmps57
    go_wp2_with (go_at_call 58; refine HC.out.mono ?_; rintro e w' ⟨rfl, rfl⟩)
    go_ret2
    exact ⟨rfl, rfl⟩
theorem months_bad (n k : Int) (en : Bool) (w : World) (h : ¬ (0 ≤ n ∧ n ≤ 109572)) :
    Calls Try.prog 57 #[.int .i64 n, .int .i64 k, .bool en] w fun e w' => e = .returned (.tuple #[.int .i64 0, .int .i64 51]) ∧ w' = w := by
  have HC := hideS (civil_bad n w h)
  clear h
  go_enter Try.func57, Try.ntmps57
  go_wp2_with (go_at_call 58; refine HC.out.mono ?_; rintro e w' ⟨rfl, rfl⟩)
  go_ret2
  exact ⟨rfl, rfl⟩
end Go.Proofs.Ytelghkhcplmnmaa
namespace Go.Proofs.Ytelghkhcplmnmaa
open Go.RowKit

/-- A schedule's eight numbers. -/
structure Spc where
  (st en n unit stub roll conv lag : Int)
/-- The numbers of a schedule that may be. -/
structure SpcOk (s : Spc) : Prop where
  (s0 : isDayP s.st) (e0 : isDayP s.en) (lt : s.st < s.en) (n1 : 1 ≤ s.n) (n2 : s.n ≤ 1200) (u1 : 1 ≤ s.unit) (u2 : s.unit ≤ 4) (t1 : 1 ≤ s.stub) (t2 : s.stub ≤ 4) (r1 : 0 ≤ s.roll) (r2 : s.roll ≤ 2) (ru : s.roll = 0 ∨ 3 ≤ s.unit) (c1 : 0 ≤ s.conv) (c2 : s.conv ≤ 4) (l1 : 0 ≤ s.lag) (l2 : s.lag ≤ 30)
/-- What Check tells, A the calendar's own error. -/
inductive SpcR (s : Spc) (A : Int) : Int → Prop where
  | range : ¬ (isDayP s.st ∧ isDayP s.en) → SpcR s A 51
  | spec : isDayP s.st → isDayP s.en → ¬ SpcOk s → SpcR s A 80
  | cal : SpcOk s → SpcR s A A
theorem spc_ex (s : Spc) (A : Int) : ∃ E, SpcR s A E := by
  by_cases h : isDayP s.st ∧ isDayP s.en
  · by_cases h2 : SpcOk s
    · exact ⟨_, .cal h2⟩
    · exact ⟨_, .spec h.1 h.2 h2⟩
  · exact ⟨_, .range h⟩
theorem spc_ok {s : Spc} {A : Int} (h : SpcR s A 0) : SpcOk s ∧ A = 0 := by
  generalize hE : (0 : Int) = E at h
  cases h with
  | range => exact absurd hE (by decide)
  | spec => exact absurd hE (by decide)
  | cal h => exact ⟨h, rfl⟩
/-- Where a schedule's error stands first. -/
theorem spc_cases {s : Spc} (h0 : isDayP s.st) (h1 : isDayP s.en) (h : ¬ SpcOk s) :
    s.en ≤ s.st ∨ (s.st < s.en ∧ ¬ (1 ≤ s.n ∧ s.n ≤ 1200)) ∨ (s.st < s.en ∧ (1 ≤ s.n ∧ s.n ≤ 1200) ∧ ¬ (1 ≤ s.unit ∧ s.unit ≤ 4)) ∨ (s.st < s.en ∧ (1 ≤ s.n ∧ s.n ≤ 1200) ∧ (1 ≤ s.unit ∧ s.unit ≤ 4) ∧ ¬ (1 ≤ s.stub ∧ s.stub ≤ 4)) ∨
    (s.st < s.en ∧ (1 ≤ s.n ∧ s.n ≤ 1200) ∧ (1 ≤ s.unit ∧ s.unit ≤ 4) ∧ (1 ≤ s.stub ∧ s.stub ≤ 4) ∧ ¬ (0 ≤ s.roll ∧ s.roll ≤ 2)) ∨
    (s.st < s.en ∧ (1 ≤ s.n ∧ s.n ≤ 1200) ∧ (1 ≤ s.unit ∧ s.unit ≤ 4) ∧ (1 ≤ s.stub ∧ s.stub ≤ 4) ∧ (0 ≤ s.roll ∧ s.roll ≤ 2) ∧ s.roll ≠ 0 ∧ s.unit < 3) ∨
    (s.st < s.en ∧ (1 ≤ s.n ∧ s.n ≤ 1200) ∧ (1 ≤ s.unit ∧ s.unit ≤ 4) ∧ (1 ≤ s.stub ∧ s.stub ≤ 4) ∧ (0 ≤ s.roll ∧ s.roll ≤ 2) ∧ (s.roll = 0 ∨ 3 ≤ s.unit) ∧ ¬ (0 ≤ s.conv ∧ s.conv ≤ 4)) ∨
    (s.st < s.en ∧ (1 ≤ s.n ∧ s.n ≤ 1200) ∧ (1 ≤ s.unit ∧ s.unit ≤ 4) ∧ (1 ≤ s.stub ∧ s.stub ≤ 4) ∧ (0 ≤ s.roll ∧ s.roll ≤ 2) ∧ (s.roll = 0 ∨ 3 ≤ s.unit) ∧ (0 ≤ s.conv ∧ s.conv ≤ 4) ∧ ¬ (0 ≤ s.lag ∧ s.lag ≤ 30)) := by
  by_cases a1 : s.st < s.en
  · by_cases a2 : 1 ≤ s.n ∧ s.n ≤ 1200
    · by_cases a3 : 1 ≤ s.unit ∧ s.unit ≤ 4
      · by_cases a4 : 1 ≤ s.stub ∧ s.stub ≤ 4
        · by_cases a5 : 0 ≤ s.roll ∧ s.roll ≤ 2
          · by_cases a6 : s.roll ≠ 0 ∧ s.unit < 3
            · exact Or.inr (Or.inr (Or.inr (Or.inr (Or.inr (Or.inl ⟨a1, a2, a3, a4, a5, a6⟩)))))
            · have a6' : s.roll = 0 ∨ 3 ≤ s.unit := by omega
              by_cases a7 : 0 ≤ s.conv ∧ s.conv ≤ 4
              · refine Or.inr (Or.inr (Or.inr (Or.inr (Or.inr (Or.inr (Or.inr ⟨a1, a2, a3, a4, a5, a6', a7, fun a8 => h ?_⟩))))))
                exact ⟨h0, h1, a1, a2.1, a2.2, a3.1, a3.2, a4.1, a4.2, a5.1, a5.2, a6', a7.1, a7.2, a8.1, a8.2⟩
              · exact Or.inr (Or.inr (Or.inr (Or.inr (Or.inr (Or.inr (Or.inl ⟨a1, a2, a3, a4, a5, a6', a7⟩))))))
          · exact Or.inr (Or.inr (Or.inr (Or.inr (Or.inl ⟨a1, a2, a3, a4, a5⟩))))
        · exact Or.inr (Or.inr (Or.inr (Or.inl ⟨a1, a2, a3, a4⟩)))
      · exact Or.inr (Or.inr (Or.inl ⟨a1, a2, a3⟩))
    · exact Or.inr (Or.inl ⟨a1, a2⟩)
  · exact Or.inl (by omega)

/-- How many days (months) k steps are. -/
def stepN (s : Spc) (k : Int) : Int := if s.unit = 2 ∨ s.unit = 4 then (if s.unit = 2 then 7 else 12) * (k * s.n) else k * s.n
open Classical in
/-- The month's day by Roll, of the date y m d and so many months. -/
noncomputable def rollO (roll y m d k : Int) : Option Int :=
  if 0 ≤ atI y m k ∧ atI y m k < 3600 then some (if roll = 0 then monI y m d k false else if roll = 1 then dayI (toY y m k) (toM y m k) (lenI (toY y m k) (toM y m k)) else thirdI (toY y m k) (toM y m k)) else none
open Classical in
/-- k steps from the anchor. -/
noncomputable def ptO (s : Spc) (a k : Int) : Option Int :=
  if ¬ isDayP a then none
  else if s.unit ≤ 2 then (if isDayP (a + stepN s k) then some (a + stepN s k) else none)
  else if h : ∃ p : Int × Int × Int, IsD a p.1 p.2.1 p.2.2 then rollO s.roll h.choose.1 h.choose.2.1 h.choose.2.2 (stepN s k) else none
theorem pt_days {s : Spc} {a k : Int} (ha : isDayP a) (hu : s.unit ≤ 2) : ptO s a k = if isDayP (a + stepN s k) then some (a + stepN s k) else none := by
  unfold ptO
  rw [if_neg (fun h => h ha), if_pos hu]
theorem pt_months {s : Spc} {a k y m d : Int} (hd : IsD a y m d) (hu : ¬ s.unit ≤ 2) : ptO s a k = rollO s.roll y m d (stepN s k) := by
  have hx : ∃ p : Int × Int × Int, IsD a p.1 p.2.1 p.2.2 := ⟨(y, m, d), hd⟩
  unfold ptO
  rw [if_neg (fun h => h ⟨hd.range.1, hd.range.2⟩), if_neg hu, dif_pos hx]
  obtain ⟨e1, e2, e3⟩ := hx.choose_spec.unique hd
  rw [e1, e2, e3]
theorem pt_none {s : Spc} {a k : Int} (ha : ¬ isDayP a) : ptO s a k = none := by
  unfold ptO
  rw [if_pos ha]
/-- What a point is. -/
theorem mul_big {k n : Int} (hn : 1 ≤ n) : (200000 < k → 200000 < k * n) ∧ (k < -200000 → k * n < -200000) := by
  refine ⟨fun h => ?_, fun h => ?_⟩
  · have := Int.mul_le_mul_of_nonneg_left hn (show 0 ≤ k by omega)
    omega
  · have := Int.mul_le_mul_of_nonneg_left hn (show 0 ≤ -k by omega)
    rw [Int.neg_mul, Int.neg_mul] at this
    omega
theorem step_big {s : Spc} {k : Int} (hn : 1 ≤ s.n) (hk : k < -200000 ∨ 200000 < k) : stepN s k < -200000 ∨ 200000 < stepN s k := by
  have h := mul_big (k := k) hn
  unfold stepN
  split
  · split <;> omega
  · omega
theorem pt_far {s : Spc} {a k : Int} (hn : 1 ≤ s.n) (hk : k < -200000 ∨ 200000 < k) : ptO s a k = none := by
  have hb := step_big hn hk
  by_cases ha : isDayP a
  · by_cases hu : s.unit ≤ 2
    · rw [pt_days ha hu, if_neg (fun h => by have h1 := h.1; have h2 := h.2; have := ha.1; have := ha.2; omega)]
    · obtain ⟨y, m, d, hd⟩ := isD_ex ha.1 ha.2
      rw [pt_months hd hu]
      unfold rollO
      obtain ⟨y0, y1, m0, m1, _, _⟩ := hd.1
      rw [if_neg (fun h => by unfold atI at h; omega)]
  · exact pt_none ha
end Go.Proofs.Ytelghkhcplmnmaa
