/- A slice of rules that came in. Open days and the search for one: no word of the program. -/
import Derived.Test.YtelghkhcplmnmaaHad
namespace Go.Proofs.Ytelghkhcplmnmaa
open Go.RowKit

def rul0 : Rul := ⟨0, 0, 0, 0, 0, 0, 0, 0, 0⟩
/-- A rule's nine cells. -/
structure RCells (w : World) (b o : Nat) (r : Rul) : Prop where
  c0 : w.cell? ⟨b, o, none⟩ = some (.int .i64 r.kind)
  c1 : w.cell? ⟨b, o + 1, none⟩ = some (.int .i64 r.mon)
  c2 : w.cell? ⟨b, o + 2, none⟩ = some (.int .i64 r.day)
  c3 : w.cell? ⟨b, o + 3, none⟩ = some (.int .i64 r.nth)
  c4 : w.cell? ⟨b, o + 4, none⟩ = some (.int .i64 r.wd)
  c5 : w.cell? ⟨b, o + 5, none⟩ = some (.int .i64 r.off)
  c6 : w.cell? ⟨b, o + 6, none⟩ = some (.int .i64 r.fr)
  c7 : w.cell? ⟨b, o + 7, none⟩ = some (.int .i64 r.to)
  c8 : w.cell? ⟨b, o + 8, none⟩ = some (.int .i64 r.mv)
theorem RCells.below {w w' : World} {B b o : Nat} {r : Rul} (h : RCells w b o r) (hb : Below B w w') (hB : b < B) : RCells w' b o r :=
  ⟨(hb.cell (p := ⟨b, o, none⟩) hB).trans h.c0, (hb.cell (p := ⟨b, o + 1, none⟩) hB).trans h.c1, (hb.cell (p := ⟨b, o + 2, none⟩) hB).trans h.c2, (hb.cell (p := ⟨b, o + 3, none⟩) hB).trans h.c3, (hb.cell (p := ⟨b, o + 4, none⟩) hB).trans h.c4, (hb.cell (p := ⟨b, o + 5, none⟩) hB).trans h.c5, (hb.cell (p := ⟨b, o + 6, none⟩) hB).trans h.c6, (hb.cell (p := ⟨b, o + 7, none⟩) hB).trans h.c7, (hb.cell (p := ⟨b, o + 8, none⟩) hB).trans h.c8⟩
/-- A slice that reads as a list of rules. -/
structure RSrc (w : World) (p : Option Addr) (b off : Nat) (rs : List Rul) : Prop where
  at_ : 0 < rs.length → p = some ⟨b, off, none⟩
  lt : 0 < rs.length → b < w.heap.size
  cell : ∀ i, i < rs.length → RCells w b (off + i * 9) (rs.getD i rul0)
theorem RSrc.below {w w' : World} {p : Option Addr} {b off : Nat} {rs : List Rul} (h : RSrc w p b off rs) (hb : Below w.heap.size w w') : RSrc w' p b off rs :=
  ⟨h.at_, fun hx => Nat.lt_of_lt_of_le (h.lt hx) hb.size, fun j hj => (h.cell j hj).below hb (h.lt (by omega))⟩
end Go.Proofs.Ytelghkhcplmnmaa
namespace Go.Proofs.Ytelghkhcplmnmaa
open Go.RowKit

open Classical in
/-- A day's year. -/
noncomputable def yrI (n : Int) : Int := if h : ∃ y m d, IsD n y m d then h.choose else 0
theorem yr_eq {n y m d : Int} (h : IsD n y m d) : yrI n = y := by
  have hx : ∃ y m d, IsD n y m d := ⟨y, m, d, h⟩
  unfold yrI
  rw [dif_pos hx]
  obtain ⟨m', d', h'⟩ := hx.choose_spec
  exact (h'.unique h).1
/-- Is the day open? -/
noncomputable def opB (W : Int) (rs : List Rul) (n : Int) : Bool := !offB W n && !holB W rs n (yrI n)
def isDayP (n : Int) : Prop := 0 ≤ n ∧ n ≤ 109572
instance (n : Int) : Decidable (isDayP n) := by unfold isDayP; infer_instance
/-- What a search from n on, by steps s, tells. -/
inductive SrchR (op : Int → Bool) (n s : Int) : Option Int → Prop where
  | hit (k : Nat) : (∀ j < k, isDayP (n + s * (j : Nat)) ∧ op (n + s * (j : Nat)) = false) → isDayP (n + s * k) → op (n + s * k) = true → SrchR op n s (some (n + s * k))
  | none (k : Nat) : (∀ j < k, isDayP (n + s * (j : Nat)) ∧ op (n + s * (j : Nat)) = false) → ¬ isDayP (n + s * k) → SrchR op n s none
theorem srch_ex (op : Int → Bool) (n s : Int) (hs : s = 1 ∨ s = -1) (h0 : -10 ≤ n) (h1 : n ≤ 110000) : ∃ o, SrchR op n s o := by
  obtain ⟨k, hk, a, b⟩ := least_of (p := fun j => decide (isDayP (n + s * (j : Nat))) && !op (n + s * (j : Nat))) 120000 ⟨120000, Nat.le_refl _, by
    rw [Bool.and_eq_false_iff]
    refine Or.inl (decide_eq_false fun c => ?_)
    unfold isDayP at c
    rcases hs with rfl | rfl <;> omega⟩
  have hb : ∀ j < k, isDayP (n + s * (j : Nat)) ∧ op (n + s * (j : Nat)) = false := fun j hj => by
    have := b j hj
    rw [Bool.and_eq_true, decide_eq_true_eq] at this
    exact ⟨this.1, by simpa using this.2⟩
  by_cases hd : isDayP (n + s * k)
  · refine ⟨_, .hit k hb hd ?_⟩
    have := a
    rw [decide_eq_true hd, Bool.true_and] at this
    simpa using this
  · exact ⟨_, .none k hb hd⟩
theorem srch_unique {op : Int → Bool} {n s : Int} {o o' : Option Int} (h : SrchR op n s o) (h' : SrchR op n s o') : o = o' := by
  cases h with
  | hit k a b c =>
    cases h' with
    | hit k' a' b' c' =>
      rcases Nat.lt_trichotomy k k' with e | e | e
      · have := (a' k e).2; rw [c] at this; exact Bool.noConfusion this
      · rw [e]
      · have := (a k' e).2; rw [c'] at this; exact Bool.noConfusion this
    | none k' a' b' =>
      rcases Nat.lt_trichotomy k k' with e | e | e
      · have := (a' k e).2; rw [c] at this; exact Bool.noConfusion this
      · rw [e] at b; exact absurd b b'
      · exact absurd (a k' e).1 b'
  | none k a b =>
    cases h' with
    | hit k' a' b' c' =>
      rcases Nat.lt_trichotomy k k' with e | e | e
      · exact absurd (a' k e).1 b
      · rw [← e] at b'; exact absurd b' b
      · have := (a k' e).2; rw [c'] at this; exact Bool.noConfusion this
    | none => rfl
open Classical in
noncomputable def srch (op : Int → Bool) (n s : Int) : Option Int := if h : ∃ o, SrchR op n s o then h.choose else none
theorem srch_eq {op : Int → Bool} {n s : Int} {o : Option Int} (h : SrchR op n s o) : srch op n s = o := by
  have hx : ∃ o, SrchR op n s o := ⟨o, h⟩
  unfold srch
  rw [dif_pos hx]
  exact srch_unique hx.choose_spec h
theorem srch_is (op : Int → Bool) (n s : Int) (hs : s = 1 ∨ s = -1) (h0 : -10 ≤ n) (h1 : n ≤ 110000) : SrchR op n s (srch op n s) := by
  obtain ⟨o, h⟩ := srch_ex op n s hs h0 h1
  rw [srch_eq h]; exact h
theorem srch_day {op : Int → Bool} {n s x : Int} (h : SrchR op n s (some x)) : isDayP x ∧ op x = true := by
  cases h with
  | hit k a b c => exact ⟨b, c⟩

/-- A calendar that may be. -/
structure OkC (W : Int) (rs : List Rul) : Prop where
  len : rs.length ≤ 64
  w0 : 0 ≤ W
  w1 : W ≤ 126
  fit : ∀ r ∈ rs, fitB r = true
/-- What Check tells. -/
inductive ChkR (W : Int) (rs : List Rul) : Int → Int → Prop where
  | long : 64 < rs.length → ChkR W rs 2 0
  | week : rs.length ≤ 64 → ¬ (0 ≤ W ∧ W ≤ 126) → ChkR W rs 60 (-1)
  | rule (k : Nat) : rs.length ≤ 64 → (0 ≤ W ∧ W ≤ 126) → k < rs.length → fitB (rs.getD k rul0) = false → (∀ j < k, fitB (rs.getD j rul0) = true) → ChkR W rs 60 k
  | ok : OkC W rs → ChkR W rs 0 0
theorem getD_mem {rs : List Rul} {k : Nat} (h : k < rs.length) : rs.getD k rul0 ∈ rs := by
  rw [List.getD_eq_getElem?_getD, List.getElem?_eq_getElem h]; exact List.getElem_mem h
theorem all_of_getD {rs : List Rul} {p : Rul → Bool} (h : ∀ j < rs.length, p (rs.getD j rul0) = true) : ∀ r ∈ rs, p r = true := fun r hr => by
  obtain ⟨j, hj, rfl⟩ := List.getElem_of_mem hr
  have := h j hj
  rw [List.getD_eq_getElem?_getD, List.getElem?_eq_getElem hj] at this
  exact this
theorem chk_ex (W : Int) (rs : List Rul) : ∃ A B, ChkR W rs A B := by
  by_cases h1 : 64 < rs.length
  · exact ⟨_, _, .long h1⟩
  · by_cases h2 : 0 ≤ W ∧ W ≤ 126
    · by_cases h3 : ∃ k ≤ rs.length, (fun j => decide (j = rs.length) || fitB (rs.getD j rul0)) k = false
      · obtain ⟨k, hk, a, b⟩ := least_of (p := fun j => decide (j = rs.length) || fitB (rs.getD j rul0)) rs.length h3
        simp only [Bool.or_eq_false_iff, decide_eq_false_iff_not] at a
        refine ⟨_, _, .rule k (by omega) h2 (by omega) a.2 (fun j hj => ?_)⟩
        have := b j hj
        simp only [Bool.or_eq_true, decide_eq_true_eq] at this
        rcases this with e | e
        · omega
        · exact e
      · refine ⟨_, _, .ok ⟨by omega, h2.1, h2.2, all_of_getD fun j hj => ?_⟩⟩
        cases hf : fitB (rs.getD j rul0)
        · exact absurd ⟨j, by omega, by simp only [hf, Bool.or_false, decide_eq_false_iff_not]; omega⟩ h3
        · rfl
    · exact ⟨_, _, .week (by omega) h2⟩
theorem chk_ok {W : Int} {rs : List Rul} {B : Int} (h : ChkR W rs 0 B) : OkC W rs ∧ B = 0 := by
  cases h with
  | ok h => exact ⟨h, rfl⟩
theorem chk_pos {W : Int} {rs : List Rul} {A B : Int} (h : ChkR W rs A B) : 0 ≤ A ∧ A ≤ 60 := by
  cases h <;> omega

open Classical in
/-- A day's month, counted. -/
noncomputable def moI (n : Int) : Int := if h : ∃ k, ∃ y m d, IsD n y m d ∧ k = 12 * y + m then h.choose else 0
theorem mo_eq {n y m d : Int} (h : IsD n y m d) : moI n = 12 * y + m := by
  have hx : ∃ k, ∃ y m d, IsD n y m d ∧ k = 12 * y + m := ⟨_, y, m, d, h, rfl⟩
  unfold moI
  rw [dif_pos hx]
  obtain ⟨y', m', d', h', e⟩ := hx.choose_spec
  obtain ⟨e1, e2, _⟩ := h'.unique h
  rw [e, e1, e2]

def stepI (way : Int) : Int := if way = 2 ∨ way = 4 then -1 else 1
theorem step_or (way : Int) : stepI way = 1 ∨ stepI way = -1 := by unfold stepI; split <;> omega
/-- The day that Adjust tells, of an open-day test and a month. -/
noncomputable def adjO (op : Int → Bool) (n way : Int) : Option Int :=
  if way = 0 then some n
  else if (way = 3 ∨ way = 4) ∧ (∀ x, srch op n (stepI way) = some x → moI x ≠ moI n) then srch op n (-stepI way) else srch op n (stepI way)


/-- An answer: a day, or none in range. -/
def ansE (o : Option Int) : Int := if o.isSome then 0 else 51

/-- The K-th open day behind n, by steps s. -/
noncomputable def addO (op : Int → Bool) (s : Int) : Nat → Int → Option Int
  | 0, n => some n
  | K + 1, n => match srch op (n + s) s with
    | none => none
    | some x => addO op s K x
theorem addO_none {op : Int → Bool} {s : Int} {K : Nat} {n : Int} (h : srch op (n + s) s = none) : addO op s (K + 1) n = none := by
  show (match srch op (n + s) s with | none => none | some x => addO op s K x) = none
  rw [h]
theorem addO_some {op : Int → Bool} {s : Int} {K : Nat} {n x : Int} (h : srch op (n + s) s = some x) : addO op s (K + 1) n = addO op s K x := by
  show (match srch op (n + s) s with | none => none | some x => addO op s K x) = _
  rw [h]
theorem srch_dir {op : Int → Bool} {n s x : Int} (h : SrchR op n s (some x)) : (s = 1 → n ≤ x) ∧ (s = -1 → x ≤ n) := by
  cases h with
  | hit k a b c => exact ⟨fun e => by rw [e]; omega, fun e => by rw [e]; omega⟩

/-- How many of the k days from a on are open. -/
def cntN (op : Int → Bool) (a : Int) : Nat → Nat
  | 0 => 0
  | k + 1 => cntN op a k + (if op (a + k) then 1 else 0)
theorem cnt_le (op : Int → Bool) (a : Int) (k : Nat) : cntN op a k ≤ k := by
  induction k with
  | zero => exact Nat.le_refl _
  | succ k ih => show cntN op a k + (if op (a + k) then 1 else 0) ≤ k + 1; split <;> omega

/-- Has some rule a Move? -/
def movesB (rs : List Rul) : Bool := rs.any fun r => r.mv != 0

end Go.Proofs.Ytelghkhcplmnmaa
