/- The contract of the document's point: months and years. A schedule's dates and periods: no word of the program. A schedule's points rise: no word of the program. The contracts of sched's rolled, step and Point. The contracts of the document's isDay, asked, open, Holiday, Open and search. The contracts of the document's month and Adjust. The contract of the document's Adjust at any calendar that may be. The contracts of the document's Add and Count. -/
import Derived.Test.YtpcgbcdldkmibaaGreatHan
import Derived.Test.YtpcgbcdldkmibaaGreatHal
import Derived.Test.YtpcgbcdldkmibaaGreatHak
import Derived.Test.YtpcgbcdldkmibaaGreatHam
namespace Go.Proofs.YtpcgbcdldkmibaaGreat
open Go.RowKit

theorem okD_len {y m : Int} (h : ymB y m) : okD y m (lenI y m) := ⟨h.1, h.2.1, h.2.2.1, h.2.2.2, by have := len_lo y m; omega, Int.le_refl _⟩
set_option maxHeartbeats 6400000 in
theorem ref8Point_months (s : Spc) (W a k y m d : Int) (v : Value) (w : World) (h : SpcOk s) (hd : IsD a y m d) (k0 : -200000 ≤ k) (k1 : k ≤ 200000) (hu : ¬ s.unit ≤ 2) :
    Calls Tryz.prog 113 #[.agg #[.int .i64 s.st, .int .i64 s.en, .int .i64 s.n, .int .i64 s.unit, .int .i64 s.stub, .int .i64 s.roll, .int .i64 s.conv, .int .i64 s.lag, .int .i64 W, v], .int .i64 a, .int .i64 k] w fun e w' => e = .returned (.tuple #[.int .i64 ((ptO s a k).getD 0), .bool (ptO s a k).isSome]) ∧ Below w.heap.size w w' := by
  rw [pt_months hd hu]
  have HB := hideS (SBox.zero w s W v)
  obtain ⟨b0, b1⟩ := mul_bdS k0 k1 h.n1 h.n2
  obtain ⟨a0, a1⟩ := hd.range
  obtain ⟨y0, y1, m0, m1, _, _⟩ := hd.1
  have HC := hideS (fun wx => refCiv_ok a y m d wx hd)
  unfold dateV at HC
  have H1 := hideS (fun wx => ref8In_any a 0 109572 wx)
  rw [decide_eq_true (⟨a0, a1⟩ : 0 ≤ a ∧ a ≤ 109572)] at H1
  have k0' : ¬ k < -200000 := by omega
  have k1' : ¬ 200000 < k := by omega
  have hu4 := h.u2
  have r1 := h.r1
  have r2 := h.r2
  have hun : (s.unit = 3 ∧ stepN s k = k * s.n) ∨ (s.unit = 4 ∧ stepN s k = 12 * (k * s.n)) := by
    rcases (show s.unit = 3 ∨ s.unit = 4 by omega) with e | e
    · exact Or.inl ⟨e, step_3 e⟩
    · exact Or.inr ⟨e, step_4 e⟩
  obtain ⟨K, hK⟩ : ∃ K, stepN s k = K := ⟨_, rfl⟩
  rw [hK] at hun ⊢
  clear hK
  have HMo : Hid ((0 ≤ mthI y m K ∧ mthI y m K < 3600) → ∀ wx, Calls Tryz.prog 160 #[.agg #[.int .i64 y, .int .i64 m, .int .i64 d], .int .i64 K] wx fun e w' => e = .returned (.tuple #[.int .i64 (toY y m K), .int .i64 (toM y m K), .bool true]) ∧ Below wx.heap.size wx w') := fun hr wx => refMonth_ok y m d K wx y0 y1 m0 m1 hr.1 hr.2
  have HMf : Hid (¬ (0 ≤ mthI y m K ∧ mthI y m K < 3600) → ∀ wx, Calls Tryz.prog 160 #[.agg #[.int .i64 y, .int .i64 m, .int .i64 d], .int .i64 K] wx fun e w' => e = .returned (.tuple #[.int .i64 0, .int .i64 0, .bool false]) ∧ Below wx.heap.size wx w') := fun hr wx => refMonth_far y m d K wx y0 y1 m0 m1 hr
  have HMs : Hid ((0 ≤ mthI y m K ∧ mthI y m K < 3600) → ∀ wx, Calls Tryz.prog 161 #[.int .i64 a, .int .i64 K, .bool false] wx fun e w' => e = .returned (.tuple #[.int .i64 (monI y m d K false), .int .i64 0]) ∧ Below wx.heap.size wx w') := fun hr wx => refMonths_ok a y m d K false wx hd hr.1 hr.2
  unfold rollO
  by_cases hr : 0 ≤ mthI y m K ∧ mthI y m K < 3600
  · rw [if_pos hr]
    have hym := toYM hr.1 hr.2
    have HM := hideS (HMo.out hr)
    have HS := hideS (HMs.out hr)
    have HL := hideS (fun wx => refLengthP_ok (toY y m K) (toM y m K) wx hym)
    have HO := hideS (fun wx => refOf_ok (toY y m K) (toM y m K) (lenI (toY y m K) (toM y m K)) wx (okD_len hym))
    have HT := hideS (fun wx => refThird_ok (toY y m K) (toM y m K) wx hym)
    generalize monI y m d K false = R0 at *
    generalize lenI (toY y m K) (toM y m K) = L at *
    generalize dayI (toY y m K) (toM y m K) L = R1 at *
    generalize thirdI (toY y m K) (toM y m K) = R2 at *
    generalize toY y m K = Y at *
    generalize toM y m K = Mo at *
    clear h hd hu hr hym HMo HMf HMs a0 a1 y0 y1 m0 m1
    obtain ⟨st, en, n, unit, stub, roll, conv, lag⟩ := s
    dsimp only at *
    obtain ⟨M, hM⟩ : ∃ M, k * n = M := ⟨_, rfl⟩
    rw [hM] at b0 b1 hun
    have hun' : (unit = 3 ∧ K = M) ∨ (unit = 4 ∧ 12 * M = K) := by omega
    clear hun
    rcases hun' with ⟨rfl, rfl⟩ | ⟨rfl, hK⟩
    all_goals rcases (show roll = 0 ∨ roll = 1 ∨ roll = 2 by omega) with rfl | rfl | rfl
    all_goals
      go_enter Tryz.func113, Tryz.ntmps113
      go_wp2_with fail
      refine (H1.out _).mono ?_
      rintro e w1 ⟨rfl, rfl⟩
      go_wp2_with fail
      refine (HC.out _).mono ?_
      rintro e w2 ⟨rfl, hb2⟩
      have HB2 := hideS (HB.out.step hb2)
      have HB3 := hideS (HB2.out.step ((Below.refl _ w2).alloc (Nat.le_refl _) (.cells #[.int .i64 y, .int .i64 m, .int .i64 d] 180)))
      clear hb2
      obtain ⟨_, _, q2, q3, _, q5, _, _, _, _⟩ := HB3.out.cells
      go_wp2_with fail
      refine (HM.out _).mono ?_
      rintro e w4 ⟨rfl, hb4⟩
      have HB4 := hideS (HB3.out.step hb4)
      clear hb4 q2 q3 q5
      obtain ⟨_, _, _, _, _, q5, _, _, _, _⟩ := HB4.out.cells
      first
      | (go_wp2_with (go_at_call 161; refine (HS.out _).mono ?_; rintro e w5 ⟨rfl, hb5⟩)
         go_ret2
         exact ⟨rfl, (HB4.out.step hb5).below⟩)
      | (go_wp2_with (first | (go_at_call 162; refine (HL.out _).mono ?_; rintro e w5 ⟨rfl, rfl⟩) | (go_at_call 121; refine (HO.out _).mono ?_; rintro e w5 ⟨rfl, rfl⟩))
         go_ret2
         exact ⟨rfl, HB4.out.below⟩)
      | (go_wp2_with (go_at_call 163; refine (HT.out _).mono ?_; rintro e w5 ⟨rfl, rfl⟩)
         go_ret2
         exact ⟨rfl, HB4.out.below⟩)
  · rw [if_neg hr]
    have HM := hideS (HMf.out hr)
    clear h hd hu hr HMo HMf HMs a0 a1 y0 y1 m0 m1
    obtain ⟨st, en, n, unit, stub, roll, conv, lag⟩ := s
    dsimp only at *
    obtain ⟨M, hM⟩ : ∃ M, k * n = M := ⟨_, rfl⟩
    rw [hM] at b0 b1 hun
    have hun' : (unit = 3 ∧ K = M) ∨ (unit = 4 ∧ 12 * M = K) := by omega
    clear hun
    rcases hun' with ⟨rfl, rfl⟩ | ⟨rfl, hK⟩
    all_goals
      go_enter Tryz.func113, Tryz.ntmps113
      go_wp2_with fail
      refine (H1.out _).mono ?_
      rintro e w1 ⟨rfl, rfl⟩
      go_wp2_with fail
      refine (HC.out _).mono ?_
      rintro e w2 ⟨rfl, hb2⟩
      have HB2 := hideS (HB.out.step hb2)
      have HB3 := hideS (HB2.out.step ((Below.refl _ w2).alloc (Nat.le_refl _) (.cells #[.int .i64 y, .int .i64 m, .int .i64 d] 180)))
      clear hb2
      go_wp2_with (go_at_call 160; refine (HM.out _).mono ?_; rintro e w4 ⟨rfl, hb4⟩)
      go_ret2
      exact ⟨rfl, (HB3.out.step hb4).below⟩

theorem ref8Point_any (s : Spc) (W a k : Int) (v : Value) (w : World) (h : SpcOk s) :
    Calls Tryz.prog 113 #[.agg #[.int .i64 s.st, .int .i64 s.en, .int .i64 s.n, .int .i64 s.unit, .int .i64 s.stub, .int .i64 s.roll, .int .i64 s.conv, .int .i64 s.lag, .int .i64 W, v], .int .i64 a, .int .i64 k] w fun e w' => e = .returned (.tuple #[.int .i64 ((ptO s a k).getD 0), .bool (ptO s a k).isSome]) ∧ Below w.heap.size w w' := by
  by_cases ha : isDayP a
  · by_cases hk : k < -200000 ∨ 200000 < k
    · rw [pt_far h.n1 hk]
      exact ref8Point_no s W a k v w (Or.inr hk)
    · by_cases hu : s.unit ≤ 2
      · exact ref8Point_days s W a k v w h ha (by omega) (by omega) hu
      · obtain ⟨y, m, d, hd⟩ := isD_ex ha.1 ha.2
        exact ref8Point_months s W a k y m d v w h hd (by omega) (by omega) hu
  · rw [pt_none ha]
    exact ref8Point_no s W a k v w (Or.inl ha)
end Go.Proofs.YtpcgbcdldkmibaaGreat
namespace Go.Proofs.YtpcgbcdldkmibaaGreat
open Go.RowKit

def ancI (s : Spc) : Int := if s.stub ≤ 2 then s.en else s.st
def othI (s : Spc) : Int := if s.stub ≤ 2 then s.st else s.en
def sgnI (s : Spc) : Int := if s.stub ≤ 2 then -1 else 1
noncomputable def pkO (s : Spc) (k : Nat) : Option Int := ptO s (ancI s) (k * sgnI s)
def outB (s : Spc) : Option Int → Bool
  | none => true
  | some x => if s.stub ≤ 2 then decide (x ≤ s.st) else decide (s.en ≤ x)
structure DatR (s : Spc) (K : Nat) : Prop where
  ins : ∀ j < K, outB s (pkO s (j + 1)) = false
  out : outB s (pkO s (K + 1)) = true
theorem dat_ex {s : Spc} (h : SpcOk s) : ∃ K, DatR s K := by
  obtain ⟨K, _, a, b⟩ := least_of (p := fun j => !outB s (pkO s (j + 1))) 200001 ⟨200001, Nat.le_refl _, by
    have : pkO s (200001 + 1) = none := by
      unfold pkO
      refine pt_far h.n1 ?_
      unfold sgnI
      split
      · exact Or.inl (by omega)
      · exact Or.inr (by omega)
    simp only [this]; rfl⟩
  exact ⟨K, fun j hj => by have := b j hj; simpa using this, by simpa using a⟩
noncomputable def innL (s : Spc) (K : Nat) : List Int := (List.range K).map fun j => (pkO s (j + 1)).getD 0
theorem inn_len (s : Spc) (K : Nat) : (innL s K).length = K := by unfold innL; simp
theorem inn_succ (s : Spc) (K : Nat) : innL s (K + 1) = innL s K ++ [(pkO s (K + 1)).getD 0] := by
  unfold innL; rw [List.range_succ, List.map_append]; rfl
theorem inn_get {s : Spc} {K j : Nat} (h : j < K) : (innL s K).getD j 0 = (pkO s (j + 1)).getD 0 := by unfold innL; simp [List.getD, h]
theorem inn_some {s : Spc} {K j : Nat} (h : DatR s K) (hj : j < K) : ∃ x, pkO s (j + 1) = some x ∧ (if s.stub ≤ 2 then s.st < x else x < s.en) := by
  have := h.ins j hj
  cases hp : pkO s (j + 1) with
  | none => rw [hp] at this; exact Bool.noConfusion this
  | some x =>
    rw [hp] at this
    refine ⟨x, rfl, ?_⟩
    have h2 : (if s.stub ≤ 2 then decide (x ≤ s.st) else decide (s.en ≤ x)) = false := this
    by_cases hs : s.stub ≤ 2
    · rw [if_pos hs] at h2 ⊢
      have := of_decide_eq_false h2
      omega
    · rw [if_neg hs] at h2 ⊢
      have := of_decide_eq_false h2
      omega
noncomputable def evenB (s : Spc) (K : Nat) : Bool := pkO s (K + 1) == some (othI s)
noncomputable def cutN (s : Spc) (K : Nat) : Nat := if (s.stub = 2 ∨ s.stub = 4) ∧ evenB s K = false ∧ 0 < K then K - 1 else K
theorem cut_le (s : Spc) (K : Nat) : cutN s K ≤ K := by unfold cutN; split <;> omega
noncomputable def cutI (s : Spc) (C i : Nat) : Int := if s.stub ≤ 2 then (pkO s (C - i)).getD 0 else (pkO s (i + 1)).getD 0
noncomputable def datL (s : Spc) (C : Nat) : List Int := s.st :: ((List.range C).map (cutI s C) ++ [s.en])
theorem dat_len (s : Spc) (C : Nat) : (datL s C).length = C + 2 := by unfold datL; simp
noncomputable def datP (s : Spc) (C i : Nat) : List Int := s.st :: (List.range i).map (cutI s C)
theorem datP_len (s : Spc) (C i : Nat) : (datP s C i).length = i + 1 := by unfold datP; simp
theorem datP_succ (s : Spc) (C i : Nat) : datP s C (i + 1) = datP s C i ++ [cutI s C i] := by
  unfold datP; rw [List.range_succ, List.map_append]; rfl
theorem datP_end (s : Spc) (C : Nat) : datP s C C ++ [s.en] = datL s C := by unfold datP datL; rfl
theorem inn_cut {s : Spc} {K C i : Nat} (hC : C ≤ K) (hi : i < C) : (innL s K).getD (if s.stub ≤ 2 then C - 1 - i else i) 0 = cutI s C i := by
  unfold cutI
  by_cases hs : s.stub ≤ 2
  · rw [if_pos hs, if_pos hs, inn_get (by omega), show C - 1 - i + 1 = C - i by omega]
  · rw [if_neg hs, if_neg hs, inn_get (by omega)]

structure Per where
  (fr to st en pay : Int)
noncomputable def perO (op : Int → Bool) (s : Spc) (a b : Int) : Option Per :=
  match adjO op a s.conv with
  | none => none
  | some x => match adjO op b s.conv with
    | none => none
    | some y => if 0 < s.lag then (match addO op 1 s.lag.toNat y with | none => none | some z => some ⟨a, b, x, y, z⟩) else some ⟨a, b, x, y, y⟩
end Go.Proofs.YtpcgbcdldkmibaaGreat
namespace Go.Proofs.YtpcgbcdldkmibaaGreat
open Go.RowKit

theorem isD_lt {n n' y m d y' m' d' : Int} (h : IsD n y m d) (h' : IsD n' y' m' d') (hm : 12 * y + m < 12 * y' + m') : n < n' := by
  obtain ⟨a0, a1⟩ := h.year
  obtain ⟨b0, b1⟩ := h'.year
  obtain ⟨y0, y1, m0, m1, _, _⟩ := h.1
  obtain ⟨y0', y1', m0', m1', _, _⟩ := h'.1
  by_cases e : y < y'
  · have := ny_mono (y := y + 1) (z := y') (by omega) (by omega)
    omega
  · obtain rfl : y = y' := by omega
    have c := h.month
    have c' := h'.month
    have := cum_mono (y := y) (m := m + 1) (k := m') (by omega) (by omega) (by omega)
    omega
theorem third_isD {y m : Int} (h : ymB y m) : ∃ d, IsD (thirdI y m) y m d := by
  refine ⟨15 + (9 - dayI y m 1) % 7, okD_first h _ (by omega) (by omega), ?_⟩
  unfold thirdI wedI dayI
  omega
theorem toYM_at (y m k : Int) : 12 * toY y m k + toM y m k = 22801 + mthI y m k := by
  unfold toY toM
  omega
theorem roll_isD {roll y m d k x : Int} (hd : 1 ≤ d) (h : rollO roll y m d k = some x) : ∃ d', IsD x (toY y m k) (toM y m k) d' := by
  unfold rollO at h
  by_cases hr : 0 ≤ mthI y m k ∧ mthI y m k < 3600
  · rw [if_pos hr] at h
    have e := Option.some.inj h
    have hym := toYM hr.1 hr.2
    by_cases r0 : roll = 0
    · rw [if_pos r0] at e
      have hl := len_lo (toY y m k) (toM y m k)
      have ht := toD_ok (l := lenI y m) (e := false) hd hl
      exact ⟨_, ⟨hym.1, hym.2.1, hym.2.2.1, hym.2.2.2, ht.1, ht.2⟩, e.symm⟩
    · rw [if_neg r0] at e
      by_cases r1 : roll = 1
      · rw [if_pos r1] at e
        have hl := len_lo (toY y m k) (toM y m k)
        exact ⟨_, ⟨hym.1, hym.2.1, hym.2.2.1, hym.2.2.2, by omega, Int.le_refl _⟩, e.symm⟩
      · rw [if_neg r1] at e
        rw [← e]
        exact third_isD hym
  · rw [if_neg hr] at h
    cases h
theorem pt_anchor {s : Spc} {a k x : Int} (h : ptO s a k = some x) : isDayP a := Classical.byContradiction fun ha => by
  rw [pt_none ha] at h; cases h
theorem pt_day {s : Spc} {a k x : Int} (h : ptO s a k = some x) : isDayP x := by
  have ha := pt_anchor h
  by_cases hu : s.unit ≤ 2
  · rw [pt_days ha hu] at h
    by_cases hx : isDayP (a + stepN s k)
    · rw [if_pos hx] at h
      rw [← Option.some.inj h]; exact hx
    · rw [if_neg hx] at h; cases h
  · obtain ⟨y, m, d, hd⟩ := isD_ex ha.1 ha.2
    rw [pt_months hd hu] at h
    obtain ⟨d', hx⟩ := roll_isD hd.1.2.2.2.2.1 h
    exact hx.range
theorem step_lt {s : Spc} {k k' : Int} (hn : 1 ≤ s.n) (hk : k < k') : stepN s k < stepN s k' := by
  have h : k * s.n < k' * s.n := Int.mul_lt_mul_of_pos_right hk (by omega)
  unfold stepN
  split
  · split <;> omega
  · exact h
theorem step_zero (s : Spc) : stepN s 0 = 0 := by unfold stepN; simp
theorem pt_side {s : Spc} {a k x : Int} (hn : 1 ≤ s.n) (h : ptO s a k = some x) : (0 < k → a < x) ∧ (k < 0 → x < a) := by
  have ha := pt_anchor h
  have hs : (0 < k → 0 < stepN s k) ∧ (k < 0 → stepN s k < 0) := by
    have := step_zero s
    exact ⟨fun e => by have := step_lt hn e; omega, fun e => by have := step_lt hn e; omega⟩
  by_cases hu : s.unit ≤ 2
  · rw [pt_days ha hu] at h
    by_cases hx : isDayP (a + stepN s k)
    · rw [if_pos hx] at h
      have := Option.some.inj h
      exact ⟨fun e => by have := hs.1 e; omega, fun e => by have := hs.2 e; omega⟩
    · rw [if_neg hx] at h; cases h
  · obtain ⟨y, m, d, hd⟩ := isD_ex ha.1 ha.2
    rw [pt_months hd hu] at h
    obtain ⟨e, hx⟩ := roll_isD hd.1.2.2.2.2.1 h
    refine ⟨fun e => isD_lt hd hx ?_, fun e => isD_lt hx hd ?_⟩
    · have := hs.1 e; rw [toYM_at]; unfold mthI; omega
    · have := hs.2 e; rw [toYM_at]; unfold mthI; omega
theorem pk_in {s : Spc} {K j : Nat} (h : SpcOk s) (hK : DatR s K) (hj : j < K) : ∃ x, pkO s (j + 1) = some x ∧ s.st < x ∧ x < s.en := by
  obtain ⟨x, e, hx⟩ := inn_some hK hj
  refine ⟨x, e, ?_⟩
  have hp := pt_side h.n1 e
  unfold ancI sgnI at hp
  by_cases hs : s.stub ≤ 2
  · rw [if_pos hs] at hx
    rw [if_pos hs, if_pos hs] at hp
    exact ⟨hx, hp.2 (by omega)⟩
  · rw [if_neg hs] at hx
    rw [if_neg hs, if_neg hs] at hp
    exact ⟨hp.1 (by omega), hx⟩
theorem cut_pt {s : Spc} {K C i : Nat} (h : SpcOk s) (hK : DatR s K) (hC : C ≤ K) (hi : i < C) : pkO s (if s.stub ≤ 2 then C - i else i + 1) = some (cutI s C i) ∧ s.st < cutI s C i ∧ cutI s C i < s.en := by
  unfold cutI
  by_cases hs : s.stub ≤ 2
  · rw [if_pos hs, if_pos hs]
    obtain ⟨x, e, h1, h2⟩ := pk_in (j := C - i - 1) h hK (by omega)
    rw [show C - i - 1 + 1 = C - i by omega] at e
    rw [e]; exact ⟨rfl, h1, h2⟩
  · rw [if_neg hs, if_neg hs]
    obtain ⟨x, e, h1, h2⟩ := pk_in (j := i) h hK (by omega)
    rw [e]; exact ⟨rfl, h1, h2⟩
theorem dat_first (s : Spc) (C : Nat) : (datL s C).getD 0 0 = s.st := rfl
theorem dat_cut {s : Spc} {C i : Nat} (hi : i < C) : (datL s C).getD (i + 1) 0 = cutI s C i := by
  unfold datL
  simp [List.getD, List.getElem?_append_left, hi]
theorem dat_last (s : Spc) (C : Nat) : (datL s C).getD (C + 1) 0 = s.en := by
  unfold datL
  simp [List.getD]
theorem dat_day {s : Spc} {K C i : Nat} (h : SpcOk s) (hK : DatR s K) (hC : C ≤ K) (hi : i < C + 2) : isDayP ((datL s C).getD i 0) := by
  have h0 := h.s0
  have h1 := h.e0
  cases i with
  | zero => rw [dat_first]; exact h0
  | succ i =>
    by_cases e : i < C
    · rw [dat_cut e]
      exact pt_day (cut_pt h hK hC e).1
    · obtain rfl : i = C := by omega
      rw [dat_last]; exact h1
end Go.Proofs.YtpcgbcdldkmibaaGreat
namespace Go.Proofs.YtpcgbcdldkmibaaGreat
open Go.RowKit

theorem day_more {y m d e : Int} : dayI y m d + (e - d) = dayI y m e := by unfold dayI; omega
theorem rollO_in {roll y m d K : Int} (hr : 0 ≤ mthI y m K ∧ mthI y m K < 3600) : rollO roll y m d K = some (if roll = 0 then monI y m d K false else if roll = 1 then dayI (toY y m K) (toM y m K) (lenI (toY y m K) (toM y m K)) else thirdI (toY y m K) (toM y m K)) := by unfold rollO; rw [if_pos hr]
theorem rollO_out {roll y m d K : Int} (hr : ¬ (0 ≤ mthI y m K ∧ mthI y m K < 3600)) : rollO roll y m d K = none := by unfold rollO; rw [if_neg hr]

set_option maxHeartbeats 3200000 in
theorem rolled_any (a K roll y m d : Int) (w : World) (hd : IsD a y m d) (r1 : 0 ≤ roll) (r2 : roll ≤ 2) (k0 : -9223372036854775808 ≤ K) (k1 : K ≤ 9223372036854775807) :
    Calls Tryz.prog 179 #[.int .i64 a, .int .i64 K, .int .i64 roll] w fun e w' => e = .returned (.tuple #[.int .i64 ((rollO roll y m d K).getD 0), .bool (rollO roll y m d K).isSome]) ∧ w' = w := by
  by_cases hr : 0 ≤ mthI y m K ∧ mthI y m K < 3600
  · have hym := toYM hr.1 hr.2
    have HM := hideS (fun wx => months_ok a y m d K false wx hd hr.1 hr.2)
    have h0 : rollO 0 y m d K = some (monI y m d K false) := rollO_in hr
    obtain ⟨d', hd'⟩ := roll_isD (hd.1.2.2.2.2.1) h0
    rw [rollO_in hr]
    have HC := hideS (fun wx => civil_ok (monI y m d K false) (toY y m K) (toM y m K) d' wx hd')
    have HL := hideS (fun wx => lengthP_ok (toY y m K) (toM y m K) wx hym)
    have HT := hideS (fun wx => third_ok (toY y m K) (toM y m K) wx hym)
    have he : monI y m d K false + (lenI (toY y m K) (toM y m K) - d') = dayI (toY y m K) (toM y m K) (lenI (toY y m K) (toM y m K)) := by
      rw [hd'.2]; exact day_more
    obtain ⟨x0, x1⟩ := hd'.range
    have hL0 := len_lo (toY y m K) (toM y m K)
    have hd0 : 1 ≤ d' := hd'.1.2.2.2.2.1
    have hd1 : d' ≤ lenI (toY y m K) (toM y m K) := hd'.1.2.2.2.2.2
    have hL1 : lenI (toY y m K) (toM y m K) ≤ 31 := by have := len_hi (toY y m K) (toM y m K); omega
    clear hd' h0
    generalize monI y m d K false = R0 at *
    generalize lenI (toY y m K) (toM y m K) = L at *
    generalize dayI (toY y m K) (toM y m K) L = R1 at *
    generalize thirdI (toY y m K) (toM y m K) = R2 at *
    generalize toY y m K = Y at *
    generalize toM y m K = Mo at *
    clear hd hr hym
    rcases (show roll = 0 ∨ roll = 1 ∨ roll = 2 by omega) with rfl | rfl | rfl
    all_goals
      go_enter Tryz.func179, Tryz.ntmps179
      go_wp2_with (first | (go_at_call 188; refine (HM.out _).mono ?_; rintro e w1 ⟨rfl, rfl⟩) | (go_at_call 182; refine (HC.out _).mono ?_; rintro e w2 ⟨rfl, rfl⟩) | (go_at_call 189; refine (HL.out _).mono ?_; rintro e w3 ⟨rfl, rfl⟩) | (go_at_call 190; refine (HT.out _).mono ?_; rintro e w3 ⟨rfl, rfl⟩))
      go_ret2
      exact ⟨rfl, rfl⟩
  · rw [rollO_out hr]
    have HM := hideS (fun wx => months_far a y m d K false wx hd hr k0 k1)
    clear hd hr
    go_enter Tryz.func179, Tryz.ntmps179
    go_wp2_with (go_at_call 188; refine (HM.out _).mono ?_; rintro e w1 ⟨rfl, rfl⟩)
    go_ret2
    exact ⟨rfl, rfl⟩

theorem step_2' {s : Spc} {k : Int} (h : s.unit = 2) : stepN s k = 7 * (k * s.n) := by unfold stepN; rw [if_pos (Or.inl h), if_pos h]

set_option maxHeartbeats 3200000 in
theorem schStep_days (s : Spc) (W a k : Int) (v : Value) (w : World) (h : SpcOk s) (ha : isDayP a) (k0 : -200000 ≤ k) (k1 : k ≤ 200000) (hu : s.unit ≤ 2) :
    Calls Tryz.prog 149 #[.agg #[.int .i64 s.st, .int .i64 s.en, .int .i64 s.n, .int .i64 s.unit, .int .i64 s.stub, .int .i64 s.roll, .int .i64 s.conv, .int .i64 s.lag, .int .i64 W, v], .int .i64 a, .int .i64 k] w fun e w' => e = .returned (.tuple #[.int .i64 ((ptO s a k).getD 0), .bool (ptO s a k).isSome]) ∧ Below w.heap.size w w' := by
  rw [pt_days ha hu]
  have HB := hideS (SBox.zero w s W v).below
  obtain ⟨b0, b1⟩ := mul_bdS k0 k1 h.n1 h.n2
  have hu1 := h.u1
  have hun : ∃ X, stepN s k = X ∧ ((s.unit = 1 ∧ X = k * s.n) ∨ (s.unit = 2 ∧ 7 * (k * s.n) = X)) := by
    rcases (show s.unit = 1 ∨ s.unit = 2 by omega) with u | u
    · exact ⟨_, step_1 u, Or.inl ⟨u, rfl⟩⟩
    · exact ⟨_, step_2' u, Or.inr ⟨u, rfl⟩⟩
  obtain ⟨X, hX, hun⟩ := hun
  rw [hX]
  clear hX h hu hu1
  obtain ⟨st, en, n, unit, stub, roll, conv, lag⟩ := s
  dsimp only at *
  obtain ⟨M, hM⟩ : ∃ M, k * n = M := ⟨_, rfl⟩
  rw [hM] at b0 b1 hun
  obtain ⟨a0, a1⟩ := ha
  have H2 := hideS (fun wx => known_any (a + X) wx)
  have HE : Hid (∀ d : Bool, d = decide (0 ≤ a + X ∧ a + X ≤ 109572) → ((if isDayP (a + X) then some (a + X) else none : Option Int).getD 0 = (if 0 ≤ a + X ∧ a + X ≤ 109572 then a + X else 0) ∧ (if isDayP (a + X) then some (a + X) else none : Option Int).isSome = d)) := fun d hd => by
    by_cases hh : 0 ≤ a + X ∧ a + X ≤ 109572
    · rw [hd, if_pos (show isDayP (a + X) from hh), if_pos hh, decide_eq_true hh]; exact ⟨rfl, rfl⟩
    · rw [hd, if_neg (show ¬ isDayP (a + X) from hh), if_neg hh, decide_eq_false hh]; exact ⟨rfl, rfl⟩
  obtain ⟨e1, e2⟩ := HE.out _ rfl
  rw [e1, e2]
  clear HE e1 e2
  generalize decide (0 ≤ a + X ∧ a + X ≤ 109572) = dd at *
  generalize (if 0 ≤ a + X ∧ a + X ≤ 109572 then a + X else 0) = rr at *
  rcases hun with ⟨rfl, rfl⟩ | ⟨rfl, hX⟩
  all_goals
    go_enter Tryz.func149, Tryz.ntmps149
    go_wp2_with (go_at_call 178; refine (H2.out _).mono ?_; rintro e w1 ⟨rfl, rfl⟩)
    go_ret2
    exact ⟨rfl, HB.out⟩

set_option maxHeartbeats 3200000 in
theorem schStep_months (s : Spc) (W a k y m d : Int) (v : Value) (w : World) (h : SpcOk s) (hd : IsD a y m d) (k0 : -200000 ≤ k) (k1 : k ≤ 200000) (hu : ¬ s.unit ≤ 2) :
    Calls Tryz.prog 149 #[.agg #[.int .i64 s.st, .int .i64 s.en, .int .i64 s.n, .int .i64 s.unit, .int .i64 s.stub, .int .i64 s.roll, .int .i64 s.conv, .int .i64 s.lag, .int .i64 W, v], .int .i64 a, .int .i64 k] w fun e w' => e = .returned (.tuple #[.int .i64 ((ptO s a k).getD 0), .bool (ptO s a k).isSome]) ∧ Below w.heap.size w w' := by
  rw [pt_months hd hu]
  have HB := hideS (SBox.zero w s W v).below
  obtain ⟨b0, b1⟩ := mul_bdS k0 k1 h.n1 h.n2
  have hu4 := h.u2
  have hun : ∃ K, stepN s k = K ∧ -3000000000 ≤ K ∧ K ≤ 3000000000 ∧ ((s.unit = 3 ∧ K = k * s.n) ∨ (s.unit = 4 ∧ k * s.n * 12 = K)) := by
    rcases (show s.unit = 3 ∨ s.unit = 4 by omega) with e | e
    · exact ⟨_, step_3 e, by omega, by omega, Or.inl ⟨e, rfl⟩⟩
    · exact ⟨_, step_4 e, by omega, by omega, Or.inr ⟨e, by omega⟩⟩
  obtain ⟨K, hK, K0, K1, hun⟩ := hun
  rw [hK]
  have HR := hideS (fun wx => rolled_any a K s.roll y m d wx hd h.r1 h.r2 (by omega) (by omega))
  generalize rollO s.roll y m d K = ro at *
  clear hK h hu hu4 hd
  obtain ⟨st, en, n, unit, stub, roll, conv, lag⟩ := s
  dsimp only at *
  obtain ⟨M, hM⟩ : ∃ M, k * n = M := ⟨_, rfl⟩
  rw [hM] at b0 b1 hun
  rcases hun with ⟨rfl, rfl⟩ | ⟨rfl, hX⟩
  all_goals
    go_enter Tryz.func149, Tryz.ntmps149
    go_wp2_with (go_at_call 179; refine (HR.out _).mono ?_; rintro e w1 ⟨rfl, rfl⟩)
    go_ret2
    exact ⟨rfl, HB.out⟩

theorem schStep_any (s : Spc) (W a k : Int) (v : Value) (w : World) (h : SpcOk s) (ha : isDayP a) (k0 : -200000 ≤ k) (k1 : k ≤ 200000) :
    Calls Tryz.prog 149 #[.agg #[.int .i64 s.st, .int .i64 s.en, .int .i64 s.n, .int .i64 s.unit, .int .i64 s.stub, .int .i64 s.roll, .int .i64 s.conv, .int .i64 s.lag, .int .i64 W, v], .int .i64 a, .int .i64 k] w fun e w' => e = .returned (.tuple #[.int .i64 ((ptO s a k).getD 0), .bool (ptO s a k).isSome]) ∧ Below w.heap.size w w' := by
  by_cases hu : s.unit ≤ 2
  · exact schStep_days s W a k v w h ha k0 k1 hu
  · obtain ⟨y, m, d, hd⟩ := isD_ex ha.1 ha.2
    exact schStep_months s W a k y m d v w h hd k0 k1 hu

end Go.Proofs.YtpcgbcdldkmibaaGreat
namespace Go.Proofs.YtpcgbcdldkmibaaGreat
open Go.RowKit

theorem refIsDay_any (n : Int) (w : World) :
    Calls Tryz.prog 115 #[.int .i64 n] w fun e w' => e = .returned (.bool (decide (isDayP n))) ∧ w' = w := by
  have HI := hideS (fun wx => refIn_any n 0 109572 wx)
  rw [show decide (isDayP n) = decide (0 ≤ n ∧ n ≤ 109572) from decide_eq_decide.2 Iff.rfl]
  generalize decide (0 ≤ n ∧ n ≤ 109572) = R at *
  go_enter Tryz.func115, Tryz.ntmps115
  go_wp2_with (go_at_call 114; refine (HI.out _).mono ?_; rintro e w1 ⟨rfl, rfl⟩)
  go_ret
  exact ⟨rfl, rfl⟩

set_option maxHeartbeats 800000 in
theorem refAsked_any (W n : Int) (p : Option Addr) (b off c : Nat) (rs : List Rul) (A B : Int) (w : World) (h : ChkR W rs A B) (hs : RSrc w p b off rs) (hl : rs.length ≤ 1000000) :
    Calls Tryz.prog 118 #[.agg #[.int .i64 W, .slice p rs.length c], .int .i64 n] w fun e w' => e = .returned (.int .i64 (if A ≠ 0 then A else if isDayP n then 0 else 51)) ∧ Below w.heap.size w w' := by
  have HC : Hid (∀ wx, Below w.heap.size w wx → Calls Tryz.prog 66 #[.agg #[.int .i64 W, .slice p rs.length c]] wx fun e w' => e = .returned (.tuple #[.int .i64 A, .int .i64 B]) ∧ Below wx.heap.size wx w') := fun wx hb => refCheck_any W p b off c rs A B wx h (hs.below hb) hl
  generalize rs.length = N at *
  have HB0 : Hid (Below w.heap.size w (w.alloc (.cells #[.int .i64 W, .slice p N c] 25))) := (Below.refl w.heap.size w).alloc (Nat.le_refl _) _
  have hd := fun wx => refIsDay_any n wx
  clear h hs hl
  by_cases hA : A = 0
  · subst hA
    rw [if_neg (by omega)]
    by_cases hn : isDayP n
    · rw [if_pos hn]
      rw [decide_eq_true hn] at hd
      have HD := hideS hd
      clear hd hn
      go_enter Tryz.func118, Tryz.ntmps118
      go_wp2_with (first | (go_at_call 66; refine (HC.out _ HB0.out).mono ?_; rintro e w1 ⟨rfl, hb1⟩) | (go_at_call 115; refine (HD.out _).mono ?_; rintro e w1 ⟨rfl, rfl⟩))
      go_ret
      exact ⟨rfl, HB0.out.trans (hb1.mono HB0.out.size)⟩
    · rw [if_neg hn]
      rw [decide_eq_false hn] at hd
      have HD := hideS hd
      clear hd hn
      go_enter Tryz.func118, Tryz.ntmps118
      go_wp2_with (first | (go_at_call 66; refine (HC.out _ HB0.out).mono ?_; rintro e w1 ⟨rfl, hb1⟩) | (go_at_call 115; refine (HD.out _).mono ?_; rintro e w1 ⟨rfl, rfl⟩))
      go_ret
      exact ⟨rfl, HB0.out.trans (hb1.mono HB0.out.size)⟩
  · rw [if_pos hA]
    have hA' : (A != 0) = true := bne_iff_ne.2 hA
    clear hA hd
    go_enter Tryz.func118, Tryz.ntmps118
    go_wp2_with (go_at_call 66; refine (HC.out _ HB0.out).mono ?_; rintro e w1 ⟨rfl, hb1⟩)
    go_ret
    exact ⟨rfl, HB0.out.trans (hb1.mono HB0.out.size)⟩

set_option maxHeartbeats 800000 in
theorem refOpenD_any (W n : Int) (p : Option Addr) (b off c : Nat) (rs : List Rul) (w : World) (h : OkC W rs) (hs : RSrc w p b off rs) (hn : isDayP n) :
    Calls Tryz.prog 123 #[.agg #[.int .i64 W, .slice p rs.length c], .int .i64 n] w fun e w' => e = .returned (.bool (opB W rs n)) ∧ Below w.heap.size w w' := by
  obtain ⟨y, m, d, hd⟩ := isD_ex hn.1 hn.2
  unfold opB
  rw [yr_eq hd]
  have HH : Hid (∀ wx, Below w.heap.size w wx → Calls Tryz.prog 166 #[.agg #[.int .i64 W, .slice p rs.length c], .int .i64 n] wx fun e w' => e = .returned (.bool (holB W rs n y)) ∧ Below wx.heap.size wx w') := fun wx hb =>
    refHol_any W n y m d p b off c rs wx h.w0 h.w1 (hs.below hb) h.fit (by have := h.len; omega) hd
  have HO := hideS (fun wx => refOff_any W n (.slice p rs.length c) wx)
  clear h hs hd hn
  generalize holB W rs n y = H at *
  generalize rs.length = N at *
  generalize offB W n = F at *
  cases F
  · go_enter Tryz.func123, Tryz.ntmps123
    go_wp2_with fail
    refine (HO.out _).mono ?_
    rintro e w1 ⟨rfl, hb1⟩
    have HB1 := hideS (CBox.first hb1)
    obtain ⟨c0, c1⟩ := cal_cells HB1.out
    clear hb1
    go_wp2_with (go_at_call 166; refine (HH.out _ HB1.out.below).mono ?_; rintro e w2 ⟨rfl, hb2⟩)
    go_ret
    exact ⟨rfl, (HB1.out.step hb2).below⟩
  · go_enter Tryz.func123, Tryz.ntmps123
    go_wp2_with (go_at_call 165; refine (HO.out _).mono ?_; rintro e w1 ⟨rfl, hb1⟩)
    go_ret
    exact ⟨rfl, (CBox.first hb1).below⟩

set_option maxHeartbeats 1600000 in
theorem refSearch_any (W n s : Int) (p : Option Addr) (b off c : Nat) (rs : List Rul) (o : Option Int) (w : World) (h : OkC W rs) (hs : RSrc w p b off rs) (hst : s = 1 ∨ s = -1) (h0 : -10 ≤ n) (h1 : n ≤ 110000) (ho : SrchR (opB W rs) n s o) :
    Calls Tryz.prog 116 #[.agg #[.int .i64 W, .slice p rs.length c], .int .i64 n, .int .i64 s] w fun e w' => e = .returned (.tuple #[.int .i64 (o.getD 0), .bool o.isSome]) ∧ Below w.heap.size w w' := by
  have HO : Hid (∀ x wx, isDayP x → Below w.heap.size w wx → Calls Tryz.prog 123 #[.agg #[.int .i64 W, .slice p rs.length c], .int .i64 x] wx fun e w' => e = .returned (.bool (opB W rs x)) ∧ Below wx.heap.size wx w') := fun x wx hx hb => refOpenD_any W x p b off c rs wx h (hs.below hb) hx
  have HD := hideS (fun (x : Int) (wx : World) => refIsDay_any x wx)
  clear h hs
  generalize opB W rs = op at *
  generalize rs.length = N at *
  have s0 : -1 ≤ s := by omega
  have s1 : s ≤ 1 := by omega
  obtain ⟨K, hK, hend⟩ : ∃ K : Nat, (∀ j < K, isDayP (n + s * (j : Nat)) ∧ op (n + s * (j : Nat)) = false) ∧ ((isDayP (n + s * K) ∧ op (n + s * K) = true ∧ o = some (n + s * K)) ∨ (¬ isDayP (n + s * K) ∧ o = none)) := by
    cases ho with
    | hit k a b c => exact ⟨k, a, Or.inl ⟨b, c, rfl⟩⟩
    | none k a b => exact ⟨k, a, Or.inr ⟨b, rfl⟩⟩
  have HK := hideS hK
  have HE := hideS hend
  have HS := hideS hst
  clear ho hK hend hst
  have HB0 : Hid (CBox w W (.slice p N c) (w.alloc (.cells #[.int .i64 W, .slice p N c] 25))) := Below.refl _ _
  go_enter Tryz.func116, Tryz.ntmps116
  go_wp2_with fail
  go_loopw [1, 6, 7] (fun i _ _ wr => ∃ (k : Nat) (I : Int), k ≤ K ∧ -20 ≤ I ∧ I ≤ 110001 ∧ i = .int .i64 I ∧ Hid (I = n + s * k) ∧ Hid (CBox w W (.slice p N c) wr)) (fun i _ _ _ => ((n + s * K - intOf i) * s).toNat)
  case atStart => exact ⟨0, n, by omega, by omega, by omega, rfl, by show _ = _; omega, HB0⟩
  case round =>
    obtain ⟨k, I, hk, hI0, hI1, rfl, HI, HB⟩ := hrel
    obtain ⟨c0, c1⟩ := cal_cells HB.out
    have hd := fun wx => HD.out I wx
    by_cases hlt : k < K
    · have hx := HK.out k hlt
      rw [← HI.out] at hx
      rw [decide_eq_true hx.1] at hd
      have hop := fun wx hb => HO.out I wx hx.1 hb
      rw [hx.2] at hop
      have HDi := hideS hd
      have HOi := hideS hop
      have HX := hideS hx.1
      clear hd hop hx
      have HM : Hid (((n + s * K - (I + s)) * s).toNat < ((n + s * K - I) * s).toNat) := by
        have e := HI.out
        rcases HS.out with rfl | rfl
        · show _ < _; omega
        · show _ < _; omega
      go_wp2_with (first | (go_at_call 115; refine (HDi.out _).mono ?_; rintro e w2 ⟨rfl, rfl⟩) | (go_at_call 123; refine (HOi.out _ HB.out.below).mono ?_; rintro e w2 ⟨rfl, hb2⟩; have HB2 := hideS (HB.out.step hb2); clear hb2))
      go_roundw
      case rel => exact ⟨k + 1, I + s, by omega, by have := HX.out.1; omega, by have := HX.out.2; omega, rfl, by have := HI.out; rcases HS.out with rfl | rfl <;> (show _ = _; omega), HB2⟩
      case measure => exact HM.out
    · obtain rfl : k = K := by omega
      rcases HE.out with ⟨a1, a2, a3⟩ | ⟨a1, a3⟩
      · rw [← HI.out] at a1 a2 a3
        rw [decide_eq_true a1] at hd
        have hop := fun wx hb => HO.out I wx a1 hb
        rw [a2] at hop
        have HDi := hideS hd
        have HOi := hideS hop
        have H3 := hideS a3
        clear hd hop a1 a2 a3
        go_wp2_with (first | (go_at_call 115; refine (HDi.out _).mono ?_; rintro e w2 ⟨rfl, rfl⟩) | (go_at_call 123; refine (HOi.out _ HB.out.below).mono ?_; rintro e w2 ⟨rfl, hb2⟩; have HB2 := hideS (HB.out.step hb2); clear hb2))
        go_ret2
        obtain rfl := H3.out
        exact ⟨rfl, HB2.out.below⟩
      · rw [← HI.out] at a1
        rw [decide_eq_false a1] at hd
        have HDi := hideS hd
        have H3 := hideS a3
        clear hd a1 a3
        go_wp2_with (go_at_call 115; refine (HDi.out _).mono ?_; rintro e w2 ⟨rfl, rfl⟩)
        go_ret2
        obtain rfl := H3.out
        exact ⟨rfl, HB.out.below⟩
end Go.Proofs.YtpcgbcdldkmibaaGreat
namespace Go.Proofs.YtpcgbcdldkmibaaGreat
open Go.RowKit

set_option maxHeartbeats 400000 in
theorem refMonth6_any (n : Int) (w : World) (hn : isDayP n) :
    Calls Tryz.prog 117 #[.int .i64 n] w fun e w' => e = .returned (.int .i64 (moI n)) ∧ Below w.heap.size w w' := by
  obtain ⟨y, m, d, hd⟩ := isD_ex hn.1 hn.2
  rw [mo_eq hd]
  have HC := hideS (fun wx => refCiv_ok n y m d wx hd)
  unfold dateV at HC
  obtain ⟨y0, y1, m0, m1, _, _⟩ := hd.1
  clear hd
  go_enter Tryz.func117, Tryz.ntmps117
  go_wp2_with (go_at_call 120; refine (HC.out _).mono ?_; rintro e w1 ⟨rfl, hb1⟩)
  go_ret
  exact ⟨rfl, hb1.trans (((Below.refl _ w1).alloc (Nat.le_refl _) _).mono hb1.size)⟩

structure AdjH (w : World) (W : Int) (N : Nat) (p : Option Addr) (c : Nat) (n s : Int) (o1 o2 : Option Int) : Prop where
  chk : ∀ wx, Below w.heap.size w wx → Calls Tryz.prog 66 #[.agg #[.int .i64 W, .slice p N c]] wx fun e w' => e = .returned (.tuple #[.int .i64 0, .int .i64 0]) ∧ Below wx.heap.size wx w'
  one : ∀ wx, Below w.heap.size w wx → Calls Tryz.prog 116 #[.agg #[.int .i64 W, .slice p N c], .int .i64 n, .int .i64 s] wx fun e w' => e = .returned (.tuple #[.int .i64 (o1.getD 0), .bool o1.isSome]) ∧ Below wx.heap.size wx w'
  two : ∀ wx, Below w.heap.size w wx → Calls Tryz.prog 116 #[.agg #[.int .i64 W, .slice p N c], .int .i64 n, .int .i64 (-s)] wx fun e w' => e = .returned (.tuple #[.int .i64 (o2.getD 0), .bool o2.isSome]) ∧ Below wx.heap.size wx w'
  day : ∀ wx, Calls Tryz.prog 115 #[.int .i64 n] wx fun e w' => e = .returned (.bool true) ∧ w' = wx
  mon : ∀ wx, Calls Tryz.prog 117 #[.int .i64 n] wx fun e w' => e = .returned (.int .i64 (moI n)) ∧ Below wx.heap.size wx w'
  monx : ∀ x, o1 = some x → ∀ wx, Calls Tryz.prog 117 #[.int .i64 x] wx fun e w' => e = .returned (.int .i64 (moI x)) ∧ Below wx.heap.size wx w'
theorem adjH_of (W n s : Int) (p : Option Addr) (b off c : Nat) (rs : List Rul) (w : World) (h : OkC W rs) (hs : RSrc w p b off rs) (hst : s = 1 ∨ s = -1) (hn : isDayP n) :
    AdjH w W rs.length p c n s (srch (opB W rs) n s) (srch (opB W rs) n (-s)) := by
  have n0 := hn.1
  have n1 := hn.2
  have r1 := srch_is (opB W rs) n s hst (by omega) (by omega)
  have r2 := srch_is (opB W rs) n (-s) (by omega) (by omega) (by omega)
  refine ⟨fun wx hb => refCheck_any W p b off c rs 0 0 wx (.ok h) (hs.below hb) (by have := h.len; omega), fun wx hb => refSearch_any W n s p b off c rs _ wx h (hs.below hb) hst (by omega) (by omega) r1, fun wx hb => refSearch_any W n (-s) p b off c rs _ wx h (hs.below hb) (by omega) (by omega) (by omega) r2, fun wx => ?_, fun wx => refMonth6_any n wx hn, fun x hx wx => refMonth6_any x wx ?_⟩
  · have := refIsDay_any n wx
    rw [decide_eq_true hn] at this; exact this
  · rw [hx] at r1
    exact (srch_day r1).1

set_option maxHeartbeats 3200000 in
theorem refAdjust_plain (W n way s : Int) (p : Option Addr) (c N : Nat) (o1 o2 : Option Int) (w : World) (H : Hid (AdjH w W N p c n s o1 o2)) (hw : (way = 1 ∧ s = 1) ∨ (way = 2 ∧ s = -1)) :
    Calls Tryz.prog 64 #[.agg #[.int .i64 W, .slice p N c], .int .i64 n, .int .i64 way] w fun e w' => e = .returned (.tuple #[.int .i64 (o1.getD 0), .int .i64 (ansE o1)]) ∧ Below w.heap.size w w' := by
  have hi := fun wx => refIn_any way 0 4 wx
  rw [decide_eq_true (by omega)] at hi
  have HI := hideS hi
  clear hi
  have HB0 : Hid (Below w.heap.size w (w.alloc (.cells #[.int .i64 W, .slice p N c] 25))) := (Below.refl w.heap.size w).alloc (Nat.le_refl _) _
  unfold ansE
  rcases o1 with _ | x
  all_goals
    rcases hw with ⟨rfl, rfl⟩ | ⟨rfl, rfl⟩
    all_goals
      go_enter Tryz.func64, Tryz.ntmps64
      go_wp2_with fail
      refine (H.out.chk _ HB0.out).mono ?_
      rintro e w1 ⟨rfl, hb1⟩
      have HB1 := hideS (CBox.first hb1)
      obtain ⟨c0, c1⟩ := cal_cells HB1.out
      clear hb1
      go_wp2_with (first | (go_at_call 114; refine (HI.out _).mono ?_; rintro e w2 ⟨rfl, hw2⟩; obtain rfl := hw2.symm; clear hw2) | (go_at_call 115; refine (H.out.day _).mono ?_; rintro e w2 ⟨rfl, hw2⟩; obtain rfl := hw2.symm; clear hw2) | (go_at_call 116; refine (H.out.one _ HB1.out.below).mono ?_; rintro e w3 ⟨rfl, hb3⟩; have HB3 := hideS (HB1.out.step hb3); clear hb3))
      go_ret2
      exact ⟨rfl, HB3.out.below⟩
end Go.Proofs.YtpcgbcdldkmibaaGreat
namespace Go.Proofs.YtpcgbcdldkmibaaGreat
open Go.RowKit

theorem refAdjust_none (W n s : Int) (p : Option Addr) (c N : Nat) (o1 o2 : Option Int) (w : World) (H : Hid (AdjH w W N p c n s o1 o2)) :
    Calls Tryz.prog 64 #[.agg #[.int .i64 W, .slice p N c], .int .i64 n, .int .i64 0] w fun e w' => e = .returned (.tuple #[.int .i64 n, .int .i64 0]) ∧ Below w.heap.size w w' := by
  have hi := fun wx => refIn_any 0 0 4 wx
  rw [decide_eq_true (by omega)] at hi
  have HI := hideS hi
  clear hi
  have HB0 : Hid (Below w.heap.size w (w.alloc (.cells #[.int .i64 W, .slice p N c] 25))) := (Below.refl w.heap.size w).alloc (Nat.le_refl _) _
  go_enter Tryz.func64, Tryz.ntmps64
  go_wp2_with (first | (go_at_call 66; refine (H.out.chk _ HB0.out).mono ?_; rintro e w1 ⟨rfl, hb1⟩) | (go_at_call 114; refine (HI.out _).mono ?_; rintro e w2 ⟨rfl, rfl⟩) | (go_at_call 115; refine (H.out.day _).mono ?_; rintro e w2 ⟨rfl, rfl⟩))
  go_ret2
  exact ⟨rfl, HB0.out.trans (hb1.mono HB0.out.size)⟩

set_option maxHeartbeats 3200000 in
theorem refAdjust_turn (W n way s : Int) (p : Option Addr) (c N : Nat) (o2 : Option Int) (w : World) (H : Hid (AdjH w W N p c n s none o2)) (hw : (way = 3 ∧ s = 1) ∨ (way = 4 ∧ s = -1)) :
    Calls Tryz.prog 64 #[.agg #[.int .i64 W, .slice p N c], .int .i64 n, .int .i64 way] w fun e w' => e = .returned (.tuple #[.int .i64 (o2.getD 0), .int .i64 (ansE o2)]) ∧ Below w.heap.size w w' := by
  have hi := fun wx => refIn_any way 0 4 wx
  rw [decide_eq_true (by omega)] at hi
  have HI := hideS hi
  clear hi
  have HB0 : Hid (Below w.heap.size w (w.alloc (.cells #[.int .i64 W, .slice p N c] 25))) := (Below.refl w.heap.size w).alloc (Nat.le_refl _) _
  unfold ansE
  rcases o2 with _ | x
  all_goals
    rcases hw with ⟨rfl, rfl⟩ | ⟨rfl, rfl⟩
    all_goals
      go_enter Tryz.func64, Tryz.ntmps64
      go_wp2_with fail
      refine (H.out.chk _ HB0.out).mono ?_
      rintro e w1 ⟨rfl, hb1⟩
      have HB1 := hideS (CBox.first hb1)
      obtain ⟨c0, c1⟩ := cal_cells HB1.out
      clear hb1
      go_wp2_with (first | (go_at_call 114; refine (HI.out _).mono ?_; rintro e w2 ⟨rfl, hw2⟩; obtain rfl := hw2.symm; clear hw2) | (go_at_call 115; refine (H.out.day _).mono ?_; rintro e w2 ⟨rfl, hw2⟩; obtain rfl := hw2.symm; clear hw2) | fail)
      refine (H.out.one _ HB1.out.below).mono ?_
      rintro e w3 ⟨rfl, hb3⟩
      have HB3 := hideS (HB1.out.step hb3)
      obtain ⟨e0, e1⟩ := cal_cells HB3.out
      clear hb3
      go_wp2_with (go_at_call 116; refine (H.out.two _ HB3.out.below).mono ?_; rintro e w4 ⟨rfl, hb4⟩; have HB4 := hideS (HB3.out.step hb4); clear hb4)
      go_ret2
      exact ⟨rfl, HB4.out.below⟩

set_option maxHeartbeats 3200000 in
theorem refAdjust_stay (W n way s x : Int) (p : Option Addr) (c N : Nat) (o2 : Option Int) (w : World) (H : Hid (AdjH w W N p c n s (some x) o2)) (hw : (way = 3 ∧ s = 1) ∨ (way = 4 ∧ s = -1)) (hm : moI x = moI n) :
    Calls Tryz.prog 64 #[.agg #[.int .i64 W, .slice p N c], .int .i64 n, .int .i64 way] w fun e w' => e = .returned (.tuple #[.int .i64 x, .int .i64 0]) ∧ Below w.heap.size w w' := by
  have hi := fun wx => refIn_any way 0 4 wx
  rw [decide_eq_true (by omega)] at hi
  have HI := hideS hi
  have HM := hideS H.out.mon
  have hmx := H.out.monx x rfl
  rw [hm] at hmx
  have HX := hideS hmx
  clear hi hmx hm
  generalize moI n = m at *
  have HB0 : Hid (Below w.heap.size w (w.alloc (.cells #[.int .i64 W, .slice p N c] 25))) := (Below.refl w.heap.size w).alloc (Nat.le_refl _) _
  rcases hw with ⟨rfl, rfl⟩ | ⟨rfl, rfl⟩
  all_goals
    go_enter Tryz.func64, Tryz.ntmps64
    go_wp2_with fail
    refine (H.out.chk _ HB0.out).mono ?_
    rintro e w1 ⟨rfl, hb1⟩
    have HB1 := hideS (CBox.first hb1)
    obtain ⟨c0, c1⟩ := cal_cells HB1.out
    clear hb1
    go_wp2_with (first | (go_at_call 114; refine (HI.out _).mono ?_; rintro e w2 ⟨rfl, hw2⟩; obtain rfl := hw2.symm; clear hw2) | (go_at_call 115; refine (H.out.day _).mono ?_; rintro e w2 ⟨rfl, hw2⟩; obtain rfl := hw2.symm; clear hw2) | fail)
    refine (H.out.one _ HB1.out.below).mono ?_
    rintro e w3 ⟨rfl, hb3⟩
    have HB3 := hideS (HB1.out.step hb3)
    clear hb3
    go_wp2_with fail
    refine (HX.out _).mono ?_
    rintro e w4 ⟨rfl, hb4⟩
    have HB4 := hideS (HB3.out.step hb4)
    clear hb4
    go_wp2_with fail
    refine (HM.out _).mono ?_
    rintro e w5 ⟨rfl, hb5⟩
    have HB5 := hideS (HB4.out.step hb5)
    clear hb5
    go_wp2_with fail
    go_ret2
    exact ⟨rfl, HB5.out.below⟩

set_option maxHeartbeats 3200000 in
theorem refAdjust_back (W n way s x : Int) (p : Option Addr) (c N : Nat) (o2 : Option Int) (w : World) (H : Hid (AdjH w W N p c n s (some x) o2)) (hw : (way = 3 ∧ s = 1) ∨ (way = 4 ∧ s = -1)) (hm : moI x ≠ moI n) :
    Calls Tryz.prog 64 #[.agg #[.int .i64 W, .slice p N c], .int .i64 n, .int .i64 way] w fun e w' => e = .returned (.tuple #[.int .i64 (o2.getD 0), .int .i64 (ansE o2)]) ∧ Below w.heap.size w w' := by
  have hi := fun wx => refIn_any way 0 4 wx
  rw [decide_eq_true (by omega)] at hi
  have HI := hideS hi
  have HM := hideS H.out.mon
  have HX := hideS (H.out.monx x rfl)
  have hm' : (moI x != moI n) = true := bne_iff_ne.2 hm
  clear hi hm
  generalize moI n = m at *
  generalize moI x = mx at *
  have HB0 : Hid (Below w.heap.size w (w.alloc (.cells #[.int .i64 W, .slice p N c] 25))) := (Below.refl w.heap.size w).alloc (Nat.le_refl _) _
  unfold ansE
  rcases o2 with _ | x2
  all_goals
    rcases hw with ⟨rfl, rfl⟩ | ⟨rfl, rfl⟩
    all_goals
      go_enter Tryz.func64, Tryz.ntmps64
      go_wp2_with fail
      refine (H.out.chk _ HB0.out).mono ?_
      rintro e w1 ⟨rfl, hb1⟩
      have HB1 := hideS (CBox.first hb1)
      obtain ⟨c0, c1⟩ := cal_cells HB1.out
      clear hb1
      go_wp2_with (first | (go_at_call 114; refine (HI.out _).mono ?_; rintro e w2 ⟨rfl, hw2⟩; obtain rfl := hw2.symm; clear hw2) | (go_at_call 115; refine (H.out.day _).mono ?_; rintro e w2 ⟨rfl, hw2⟩; obtain rfl := hw2.symm; clear hw2) | fail)
      refine (H.out.one _ HB1.out.below).mono ?_
      rintro e w3 ⟨rfl, hb3⟩
      have HB3 := hideS (HB1.out.step hb3)
      clear hb3
      go_wp2_with fail
      refine (HX.out _).mono ?_
      rintro e w4 ⟨rfl, hb4⟩
      have HB4 := hideS (HB3.out.step hb4)
      clear hb4
      go_wp2_with fail
      refine (HM.out _).mono ?_
      rintro e w5 ⟨rfl, hb5⟩
      have HB5 := hideS (HB4.out.step hb5)
      obtain ⟨e0, e1⟩ := cal_cells HB5.out
      clear hb5
      go_wp2_with (go_at_call 116; refine (H.out.two _ HB5.out.below).mono ?_; rintro e w6 ⟨rfl, hb6⟩; have HB6 := hideS (HB5.out.step hb6); clear hb6)
      go_ret2
      exact ⟨rfl, HB6.out.below⟩

theorem refAdjust_ok (W n way : Int) (p : Option Addr) (b off c : Nat) (rs : List Rul) (w : World) (h : OkC W rs) (hs : RSrc w p b off rs) (hw : 0 ≤ way ∧ way ≤ 4) (hn : isDayP n) :
    Calls Tryz.prog 64 #[.agg #[.int .i64 W, .slice p rs.length c], .int .i64 n, .int .i64 way] w fun e w' => e = .returned (.tuple #[.int .i64 ((adjO (opB W rs) n way).getD 0), .int .i64 (ansE (adjO (opB W rs) n way))]) ∧ Below w.heap.size w w' := by
  have H := hideS (adjH_of W n (stepI way) p b off c rs w h hs (step_or way) hn)
  unfold adjO
  by_cases w0 : way = 0
  · rw [if_pos w0]
    subst w0
    exact refAdjust_none _ _ _ _ _ _ _ _ _ H
  · rw [if_neg w0]
    by_cases w3 : way = 3 ∨ way = 4
    · have hws : (way = 3 ∧ stepI way = 1) ∨ (way = 4 ∧ stepI way = -1) := by
        rcases w3 with rfl | rfl
        · exact Or.inl ⟨rfl, rfl⟩
        · exact Or.inr ⟨rfl, rfl⟩
      by_cases hx : ∀ x, srch (opB W rs) n (stepI way) = some x → moI x ≠ moI n
      · rw [if_pos ⟨w3, hx⟩]
        cases ho : srch (opB W rs) n (stepI way) with
        | none => rw [ho] at H; exact refAdjust_turn _ _ _ _ _ _ _ _ _ H hws
        | some x => rw [ho] at H; exact refAdjust_back _ _ _ _ _ _ _ _ _ _ H hws (hx x ho)
      · rw [if_neg (fun a => hx a.2)]
        cases ho : srch (opB W rs) n (stepI way) with
        | none => exact absurd (fun x e => by rw [ho] at e; cases e) hx
        | some x =>
          rw [ho] at H
          refine refAdjust_stay _ _ _ _ x _ _ _ _ _ H hws ?_
          by_cases e : moI x = moI n
          · exact e
          · exact absurd (fun y hy => by rw [ho] at hy; cases hy; exact e) hx
    · rw [if_neg (fun a => w3 a.1)]
      refine refAdjust_plain _ _ _ _ _ _ _ _ _ _ H ?_
      rcases (show way = 1 ∨ way = 2 by omega) with rfl | rfl
      · exact Or.inl ⟨rfl, rfl⟩
      · exact Or.inr ⟨rfl, rfl⟩
end Go.Proofs.YtpcgbcdldkmibaaGreat
namespace Go.Proofs.YtpcgbcdldkmibaaGreat
open Go.RowKit

set_option maxHeartbeats 1600000 in
theorem refAdd_ok (W n k : Int) (p : Option Addr) (b off c : Nat) (rs : List Rul) (w : World) (h : OkC W rs) (hs : RSrc w p b off rs) (hn : isDayP n) (hk : k ≠ 0) (k0 : -9223372036854775808 ≤ k) (k1 : k ≤ 9223372036854775807) :
    Calls Tryz.prog 65 #[.agg #[.int .i64 W, .slice p rs.length c], .int .i64 n, .int .i64 k] w fun e w' => e = .returned (.tuple #[.int .i64 ((addO (opB W rs) (if k < 0 then -1 else 1) k.natAbs n).getD 0), .int .i64 (ansE (addO (opB W rs) (if k < 0 then -1 else 1) k.natAbs n))]) ∧ Below w.heap.size w w' := by
  have HA : Hid (∀ wx, Below w.heap.size w wx → Calls Tryz.prog 118 #[.agg #[.int .i64 W, .slice p rs.length c], .int .i64 n] wx fun e w' => e = .returned (.int .i64 0) ∧ Below wx.heap.size wx w') := fun wx hb => by
    have := refAsked_any W n p b off c rs 0 0 wx (.ok h) (hs.below hb) (by have := h.len; omega)
    rw [if_neg (by omega), if_pos hn] at this; exact this
  have HSr : Hid (∀ x s wx, (s = 1 ∨ s = -1) → -10 ≤ x → x ≤ 110000 → Below w.heap.size w wx → SrchR (opB W rs) x s (srch (opB W rs) x s) ∧ Calls Tryz.prog 116 #[.agg #[.int .i64 W, .slice p rs.length c], .int .i64 x, .int .i64 s] wx fun e w' => e = .returned (.tuple #[.int .i64 ((srch (opB W rs) x s).getD 0), .bool (srch (opB W rs) x s).isSome]) ∧ Below wx.heap.size wx w') := fun x s wx hst a1 a2 hb =>
    have r := srch_is (opB W rs) x s hst a1 a2
    ⟨r, refSearch_any W x s p b off c rs _ wx h (hs.below hb) hst a1 a2 r⟩
  clear h hs
  generalize opB W rs = op at *
  generalize rs.length = N at *
  obtain ⟨s, hsd⟩ : ∃ s : Int, (if k < 0 then -1 else 1) = s := ⟨_, rfl⟩
  rw [hsd]
  have hss : (k < 0 ∧ s = -1) ∨ (¬ k < 0 ∧ s = 1) := by
    by_cases e : k < 0
    · rw [if_pos e] at hsd; exact Or.inl ⟨e, hsd.symm⟩
    · rw [if_neg e] at hsd; exact Or.inr ⟨e, hsd.symm⟩
  clear hsd
  obtain ⟨R, hR⟩ : ∃ R, addO op s k.natAbs n = R := ⟨_, rfl⟩
  rw [hR]
  have HR := hideS hR
  clear hR
  have hk' : (k == 0) = false := beq_eq_false_iff_ne.2 hk
  have HB0 : Hid (Below w.heap.size w (w.alloc (.cells #[.int .i64 W, .slice p N c] 25))) := (Below.refl w.heap.size w).alloc (Nat.le_refl _) _
  have HN := hideS hn
  clear hn
  rcases hss with ⟨hneg, rfl⟩ | ⟨hneg, rfl⟩
  · go_enter Tryz.func65, Tryz.ntmps65
    go_wp2_with (go_at_call 118; refine (HA.out _ HB0.out).mono ?_; rintro e w1 ⟨rfl, hb1⟩; have HB1 := hideS (CBox.first hb1); clear hb1)
    clear hk hk' HB0
    go_loopw [1, 2, 10, 11] (fun x j _ _ wr => ∃ (X J : Int), -9223372036854775808 ≤ J ∧ J ≤ 0 ∧ 0 ≤ X ∧ X ≤ 109572 ∧ x = .int .i64 X ∧ j = .int .i64 J ∧ Hid (addO op (-1) J.natAbs X = R) ∧ Hid (CBox w W (.slice p N c) wr)) (fun x _ _ _ _ => (intOf x + 1).toNat)
    case atStart => exact ⟨n, k, by omega, by omega, HN.out.1, HN.out.2, rfl, rfl, HR, HB1⟩
    case round =>
      clear HB1 HR
      obtain ⟨X, J, hJ0, hJ1, hX0, hX1, rfl, rfl, HR, HB⟩ := hrel
      obtain ⟨c0, c1⟩ := cal_cells HB.out
      by_cases hz : J = 0
      · have HE : Hid (some X = R) := by show _ = _; rw [← HR.out, hz]; rfl
        subst hz
        go_wp2_with fail
        go_ret2
        obtain rfl := HE.out
        exact ⟨rfl, HB.out.below⟩
      · have hz' : (J != 0) = true := bne_iff_ne.2 hz
        have hJn : J ≤ -1 := by omega
        obtain ⟨K, hK⟩ : ∃ K, J.natAbs = K + 1 := ⟨J.natAbs - 1, by omega⟩
        have HK := hideS hK
        have hsr := fun wx hb => HSr.out (X + -1) (-1) wx (Or.inr rfl) (by omega) (by omega) hb
        cases ho : srch op (X + -1) (-1) with
        | none =>
          have HE : Hid (none = R) := by show _ = _; rw [← HR.out, HK.out, addO_none ho]
          rw [ho] at hsr
          have HS := hideS (fun wx hb => (hsr wx hb).2)
          clear hsr hz hK ho
          go_wp2_with (go_at_call 116; refine (HS.out _ HB.out.below).mono ?_; rintro e w2 ⟨rfl, hb2⟩; have HB2 := hideS (HB.out.step hb2); clear hb2)
          go_ret2
          obtain rfl := HE.out
          exact ⟨rfl, HB2.out.below⟩
        | some x =>
          rw [ho] at hsr
          have r := (hsr _ HB.out.below).1
          have HX : Hid (isDayP x ∧ x ≤ X + -1) := ⟨(srch_day r).1, (srch_dir r).2 rfl⟩
          have HE : Hid (addO op (-1) (J - -1).natAbs x = R) := by
            show _ = _
            rw [← HR.out, HK.out, addO_some ho, show (J - -1).natAbs = K by omega]
          have HS := hideS (fun wx hb => (hsr wx hb).2)
          clear hsr hz hK ho r
          go_wp2_with (go_at_call 116; refine (HS.out _ HB.out.below).mono ?_; rintro e w2 ⟨rfl, hb2⟩; have HB2 := hideS (HB.out.step hb2); clear hb2)
          go_roundw
          case rel => exact ⟨x, J - -1, by omega, by omega, HX.out.1.1, HX.out.1.2, rfl, rfl, HE, HB2⟩
          case measure => have := HX.out.2; have := HX.out.1.1; simp [intOf]; omega
  · go_enter Tryz.func65, Tryz.ntmps65
    go_wp2_with (go_at_call 118; refine (HA.out _ HB0.out).mono ?_; rintro e w1 ⟨rfl, hb1⟩; have HB1 := hideS (CBox.first hb1); clear hb1)
    clear hk hk' HB0
    go_loopw [1, 2, 10, 11] (fun x j _ _ wr => ∃ (X J : Int), 0 ≤ J ∧ J ≤ 9223372036854775807 ∧ 0 ≤ X ∧ X ≤ 109572 ∧ x = .int .i64 X ∧ j = .int .i64 J ∧ Hid (addO op 1 J.natAbs X = R) ∧ Hid (CBox w W (.slice p N c) wr)) (fun x _ _ _ _ => (109573 - intOf x).toNat)
    case atStart => exact ⟨n, k, by omega, by omega, HN.out.1, HN.out.2, rfl, rfl, HR, HB1⟩
    case round =>
      clear HB1 HR
      obtain ⟨X, J, hJ0, hJ1, hX0, hX1, rfl, rfl, HR, HB⟩ := hrel
      obtain ⟨c0, c1⟩ := cal_cells HB.out
      by_cases hz : J = 0
      · have HE : Hid (some X = R) := by show _ = _; rw [← HR.out, hz]; rfl
        subst hz
        go_wp2_with fail
        go_ret2
        obtain rfl := HE.out
        exact ⟨rfl, HB.out.below⟩
      · have hz' : (J != 0) = true := bne_iff_ne.2 hz
        have hJn : 1 ≤ J := by omega
        obtain ⟨K, hK⟩ : ∃ K, J.natAbs = K + 1 := ⟨J.natAbs - 1, by omega⟩
        have HK := hideS hK
        have hsr := fun wx hb => HSr.out (X + 1) 1 wx (Or.inl rfl) (by omega) (by omega) hb
        cases ho : srch op (X + 1) 1 with
        | none =>
          have HE : Hid (none = R) := by show _ = _; rw [← HR.out, HK.out, addO_none ho]
          rw [ho] at hsr
          have HS := hideS (fun wx hb => (hsr wx hb).2)
          clear hsr hz hK ho
          go_wp2_with (go_at_call 116; refine (HS.out _ HB.out.below).mono ?_; rintro e w2 ⟨rfl, hb2⟩; have HB2 := hideS (HB.out.step hb2); clear hb2)
          go_ret2
          obtain rfl := HE.out
          exact ⟨rfl, HB2.out.below⟩
        | some x =>
          rw [ho] at hsr
          have r := (hsr _ HB.out.below).1
          have HX : Hid (isDayP x ∧ X + 1 ≤ x) := ⟨(srch_day r).1, (srch_dir r).1 rfl⟩
          have HE : Hid (addO op 1 (J - 1).natAbs x = R) := by
            show _ = _
            rw [← HR.out, HK.out, addO_some ho, show (J - 1).natAbs = K by omega]
          have HS := hideS (fun wx hb => (hsr wx hb).2)
          clear hsr hz hK ho r
          go_wp2_with (go_at_call 116; refine (HS.out _ HB.out.below).mono ?_; rintro e w2 ⟨rfl, hb2⟩; have HB2 := hideS (HB.out.step hb2); clear hb2)
          go_roundw
          case rel => exact ⟨x, J - 1, by omega, by omega, HX.out.1.1, HX.out.1.2, rfl, rfl, HE, HB2⟩
          case measure => have := HX.out.2; have := HX.out.1.2; simp [intOf]; omega

set_option maxHeartbeats 1600000 in
theorem refCount_up (W x y : Int) (p : Option Addr) (b off c : Nat) (rs : List Rul) (w : World) (h : OkC W rs) (hs : RSrc w p b off rs) (hx : isDayP x) (hy : isDayP y) (hxy : x ≤ y) :
    Calls Tryz.prog 68 #[.agg #[.int .i64 W, .slice p rs.length c], .int .i64 x, .int .i64 y] w fun e w' => e = .returned (.tuple #[.int .i64 (cntN (opB W rs) x (y - x).toNat : Nat), .int .i64 0]) ∧ Below w.heap.size w w' := by
  have HC : Hid (∀ wx, Below w.heap.size w wx → Calls Tryz.prog 66 #[.agg #[.int .i64 W, .slice p rs.length c]] wx fun e w' => e = .returned (.tuple #[.int .i64 0, .int .i64 0]) ∧ Below wx.heap.size wx w') := fun wx hb => refCheck_any W p b off c rs 0 0 wx (.ok h) (hs.below hb) (by have := h.len; omega)
  have HO : Hid (∀ z wx, isDayP z → Below w.heap.size w wx → Calls Tryz.prog 123 #[.agg #[.int .i64 W, .slice p rs.length c], .int .i64 z] wx fun e w' => e = .returned (.bool (opB W rs z)) ∧ Below wx.heap.size wx w') := fun z wx hz hb => refOpenD_any W z p b off c rs wx h (hs.below hb) hz
  have hd1 := fun wx => refIsDay_any x wx
  have hd2 := fun wx => refIsDay_any y wx
  rw [decide_eq_true hx] at hd1
  rw [decide_eq_true hy] at hd2
  have HD1 := hideS hd1
  have HD2 := hideS hd2
  obtain ⟨x0, x1⟩ := hx
  obtain ⟨y0, y1⟩ := hy
  clear h hs hd1 hd2
  generalize opB W rs = op at *
  generalize rs.length = N at *
  have hlt : ¬ y < x := by omega
  obtain ⟨R, hR⟩ : ∃ R : Int, ((cntN op x (y - x).toNat : Nat) : Int) = R := ⟨_, rfl⟩
  rw [hR]
  have HR := hideS hR
  clear hR
  have HB0 : Hid (Below w.heap.size w (w.alloc (.cells #[.int .i64 W, .slice p N c] 25))) := (Below.refl w.heap.size w).alloc (Nat.le_refl _) _
  go_enter Tryz.func68, Tryz.ntmps68
  go_wp2_with fail
  refine (HC.out _ HB0.out).mono ?_
  rintro e w1 ⟨rfl, hb1⟩
  have HB1 := hideS (CBox.first hb1)
  clear hb1
  go_wp2_with fail
  refine (HD1.out _).mono ?_
  rintro e w2 ⟨rfl, hw2⟩
  obtain rfl := hw2.symm
  clear hw2
  go_wp2_with fail
  refine (HD2.out _).mono ?_
  rintro e w2 ⟨rfl, hw2⟩
  obtain rfl := hw2.symm
  clear hw2
  go_wp2_with fail
  go_loopw [12, 13] (fun m i wr => ∃ (k : Nat) (I M : Int), x ≤ I ∧ I ≤ y ∧ 0 ≤ M ∧ M ≤ 200000 ∧ i = .int .i64 I ∧ m = .int .i64 M ∧ Hid (I = x + k ∧ M = (cntN op x k : Nat)) ∧ Hid (CBox w W (.slice p N c) wr)) (fun _ i _ => (y - intOf i).toNat)
  case atStart => exact ⟨0, x, 0, by omega, by omega, by omega, by omega, rfl, rfl, ⟨by omega, rfl⟩, HB1⟩
  case round =>
    clear HB1
    obtain ⟨k, I, M, hI0, hI1, hM0, hM1, rfl, rfl, HI, HB⟩ := hrel
    obtain ⟨c0, c1⟩ := cal_cells HB.out
    by_cases hIy : I < y
    · have hop := fun wx hb => HO.out I wx ⟨by omega, by omega⟩ hb
      have HB5 : Hid (cntN op x (k + 1) ≤ 150000) := by
        have := cnt_le op x (k + 1)
        have := HI.out.1
        show _ ≤ _
        omega
      cases ho : op I
      · rw [ho] at hop
        have HOi := hideS hop
        have HI' : Hid (I + 1 = x + (k + 1 : Nat) ∧ M = (cntN op x (k + 1) : Nat)) := by
          obtain ⟨e1, e2⟩ := HI.out
          refine ⟨by omega, ?_⟩
          show M = ((cntN op x k + (if op (x + k) then 1 else 0) : Nat) : Int)
          rw [← e1, ho, e2]; simp
        clear hop ho
        go_wp2_with (go_at_call 123; refine (HOi.out _ HB.out.below).mono ?_; rintro e w2 ⟨rfl, hb2⟩; have HB2 := hideS (HB.out.step hb2); clear hb2)
        go_roundw
        case rel => exact ⟨k + 1, I + 1, M, by omega, by omega, by omega, by omega, rfl, rfl, HI', HB2⟩
        case measure => simp [intOf]; omega
      · rw [ho] at hop
        have HOi := hideS hop
        have HI' : Hid (I + 1 = x + (k + 1 : Nat) ∧ M + 1 = (cntN op x (k + 1) : Nat)) := by
          obtain ⟨e1, e2⟩ := HI.out
          refine ⟨by omega, ?_⟩
          show M + 1 = ((cntN op x k + (if op (x + k) then 1 else 0) : Nat) : Int)
          rw [← e1, ho, e2]; simp
        clear hop ho
        go_wp2_with (go_at_call 123; refine (HOi.out _ HB.out.below).mono ?_; rintro e w2 ⟨rfl, hb2⟩; have HB2 := hideS (HB.out.step hb2); clear hb2)
        go_roundw
        case rel => exact ⟨k + 1, I + 1, M + 1, by omega, by omega, by omega, by have := HI'.out.2; have := HB5.out; omega, rfl, rfl, HI', HB2⟩
        case measure => simp [intOf]; omega
    · have HE : Hid (M = R) := by
        obtain ⟨e1, e2⟩ := HI.out
        show _ = _
        rw [e2, ← HR.out, show (y - x).toNat = k by omega]
      go_wp2_with fail
      go_ret2
      obtain rfl := HE.out
      exact ⟨rfl, HB.out.below⟩
end Go.Proofs.YtpcgbcdldkmibaaGreat
