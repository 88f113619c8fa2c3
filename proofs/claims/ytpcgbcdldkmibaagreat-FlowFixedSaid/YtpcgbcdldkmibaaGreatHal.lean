/- Open days and the search for one: no word of the program. Schedules as whole numbers: no word of the program. The contracts of the document's off, moved and nth. The contract of the document's day. The contract of the document's holiday. The contracts of the document's in, fit and Check. -/
import Derived.Test.YtpcgbcdldkmibaaGreatHak
import Derived.Test.YtpcgbcdldkmibaaGreatHad
import Derived.Laws.BitsAllLaws
import Derived.Laws.Bits64b
namespace Go.Proofs.YtpcgbcdldkmibaaGreat
open Go.RowKit

open Classical in
noncomputable def yrI (n : Int) : Int := if h : ∃ y m d, IsD n y m d then h.choose else 0
theorem yr_eq {n y m d : Int} (h : IsD n y m d) : yrI n = y := by
  have hx : ∃ y m d, IsD n y m d := ⟨y, m, d, h⟩
  unfold yrI
  rw [dif_pos hx]
  obtain ⟨m', d', h'⟩ := hx.choose_spec
  exact (h'.unique h).1
noncomputable def opB (W : Int) (rs : List Rul) (n : Int) : Bool := !offB W n && !holB W rs n (yrI n)
def isDayP (n : Int) : Prop := 0 ≤ n ∧ n ≤ 109572
instance (n : Int) : Decidable (isDayP n) := by unfold isDayP; infer_instance
inductive SrchR (op : Int → Bool) (n s : Int) : Option Int → Prop where
  | hit (k : Nat) : (∀ j < k, isDayP (n + s * (j : Nat)) ∧ op (n + s * (j : Nat)) = false) → isDayP (n + s * k) → op (n + s * k) = true → SrchR op n s (some (n + s * k))
  | none (k : Nat) : (∀ j < k, isDayP (n + s * (j : Nat)) ∧ op (n + s * (j : Nat)) = false) → ¬ isDayP (n + s * k) → SrchR op n s none
theorem srch_ex (op : Int → Bool) (n s : Int) (hs : s = 1 ∨ s = -1) (h0 : -10 ≤ n) (h1 : n ≤ 110000) : ∃ o, SrchR op n s o := by
  obtain ⟨k, hk, a, b⟩ := least_of (p := fun j => decide (isDayP (n + s * (j : Nat))) && !op (n + s * (j : Nat))) 120000 ⟨120000, Nat.le_refl _, by
    rw [Bool.and_eq_false_iff]
    refine Or.inl (decide_eq_false fun c => ?_)
    unfold isDayP at c
    rcases hs with rfl | rfl <;> omega⟩
  have hb : ∀ j < k, isDayP (n + s * (j : Nat)) ∧ op (n + s * (j : Nat)) = false := fun j hj => by
    have := b j hj
    rw [Bool.and_eq_true, decide_eq_true_eq] at this
    exact ⟨this.1, by simpa using this.2⟩
  by_cases hd : isDayP (n + s * k)
  · refine ⟨_, .hit k hb hd ?_⟩
    have := a
    rw [decide_eq_true hd, Bool.true_and] at this
    simpa using this
  · exact ⟨_, .none k hb hd⟩
theorem srch_unique {op : Int → Bool} {n s : Int} {o o' : Option Int} (h : SrchR op n s o) (h' : SrchR op n s o') : o = o' := by
  cases h with
  | hit k a b c =>
    cases h' with
    | hit k' a' b' c' =>
      rcases Nat.lt_trichotomy k k' with e | e | e
      · have := (a' k e).2; rw [c] at this; exact Bool.noConfusion this
      · rw [e]
      · have := (a k' e).2; rw [c'] at this; exact Bool.noConfusion this
    | none k' a' b' =>
      rcases Nat.lt_trichotomy k k' with e | e | e
      · have := (a' k e).2; rw [c] at this; exact Bool.noConfusion this
      · rw [e] at b; exact absurd b b'
      · exact absurd (a k' e).1 b'
  | none k a b =>
    cases h' with
    | hit k' a' b' c' =>
      rcases Nat.lt_trichotomy k k' with e | e | e
      · exact absurd (a' k e).1 b
      · rw [← e] at b'; exact absurd b' b
      · have := (a k' e).2; rw [c'] at this; exact Bool.noConfusion this
    | none => rfl
open Classical in
noncomputable def srch (op : Int → Bool) (n s : Int) : Option Int := if h : ∃ o, SrchR op n s o then h.choose else none
theorem srch_eq {op : Int → Bool} {n s : Int} {o : Option Int} (h : SrchR op n s o) : srch op n s = o := by
  have hx : ∃ o, SrchR op n s o := ⟨o, h⟩
  unfold srch
  rw [dif_pos hx]
  exact srch_unique hx.choose_spec h
theorem srch_is (op : Int → Bool) (n s : Int) (hs : s = 1 ∨ s = -1) (h0 : -10 ≤ n) (h1 : n ≤ 110000) : SrchR op n s (srch op n s) := by
  obtain ⟨o, h⟩ := srch_ex op n s hs h0 h1
  rw [srch_eq h]; exact h
theorem srch_day {op : Int → Bool} {n s x : Int} (h : SrchR op n s (some x)) : isDayP x ∧ op x = true := by
  cases h with
  | hit k a b c => exact ⟨b, c⟩

structure OkC (W : Int) (rs : List Rul) : Prop where
  len : rs.length ≤ 64
  w0 : 0 ≤ W
  w1 : W ≤ 126
  fit : ∀ r ∈ rs, fitB r = true
inductive ChkR (W : Int) (rs : List Rul) : Int → Int → Prop where
  | long : 64 < rs.length → ChkR W rs 2 0
  | week : rs.length ≤ 64 → ¬ (0 ≤ W ∧ W ≤ 126) → ChkR W rs 60 (-1)
  | rule (k : Nat) : rs.length ≤ 64 → (0 ≤ W ∧ W ≤ 126) → k < rs.length → fitB (rs.getD k rul0) = false → (∀ j < k, fitB (rs.getD j rul0) = true) → ChkR W rs 60 k
  | ok : OkC W rs → ChkR W rs 0 0
theorem getD_mem {rs : List Rul} {k : Nat} (h : k < rs.length) : rs.getD k rul0 ∈ rs := by
  rw [List.getD_eq_getElem?_getD, List.getElem?_eq_getElem h]; exact List.getElem_mem h
theorem all_of_getD {rs : List Rul} {p : Rul → Bool} (h : ∀ j < rs.length, p (rs.getD j rul0) = true) : ∀ r ∈ rs, p r = true := fun r hr => by
  obtain ⟨j, hj, rfl⟩ := List.getElem_of_mem hr
  have := h j hj
  rw [List.getD_eq_getElem?_getD, List.getElem?_eq_getElem hj] at this
  exact this
theorem chk_ex (W : Int) (rs : List Rul) : ∃ A B, ChkR W rs A B := by
  by_cases h1 : 64 < rs.length
  · exact ⟨_, _, .long h1⟩
  · by_cases h2 : 0 ≤ W ∧ W ≤ 126
    · by_cases h3 : ∃ k ≤ rs.length, (fun j => decide (j = rs.length) || fitB (rs.getD j rul0)) k = false
      · obtain ⟨k, hk, a, b⟩ := least_of (p := fun j => decide (j = rs.length) || fitB (rs.getD j rul0)) rs.length h3
        simp only [Bool.or_eq_false_iff, decide_eq_false_iff_not] at a
        refine ⟨_, _, .rule k (by omega) h2 (by omega) a.2 (fun j hj => ?_)⟩
        have := b j hj
        simp only [Bool.or_eq_true, decide_eq_true_eq] at this
        rcases this with e | e
        · omega
        · exact e
      · refine ⟨_, _, .ok ⟨by omega, h2.1, h2.2, all_of_getD fun j hj => ?_⟩⟩
        cases hf : fitB (rs.getD j rul0)
        · exact absurd ⟨j, by omega, by simp only [hf, Bool.or_false, decide_eq_false_iff_not]; omega⟩ h3
        · rfl
    · exact ⟨_, _, .week (by omega) h2⟩
theorem chk_ok {W : Int} {rs : List Rul} {B : Int} (h : ChkR W rs 0 B) : OkC W rs ∧ B = 0 := by
  cases h with
  | ok h => exact ⟨h, rfl⟩
open Classical in
noncomputable def moI (n : Int) : Int := if h : ∃ k, ∃ y m d, IsD n y m d ∧ k = 12 * y + m then h.choose else 0
theorem mo_eq {n y m d : Int} (h : IsD n y m d) : moI n = 12 * y + m := by
  have hx : ∃ k, ∃ y m d, IsD n y m d ∧ k = 12 * y + m := ⟨_, y, m, d, h, rfl⟩
  unfold moI
  rw [dif_pos hx]
  obtain ⟨y', m', d', h', e⟩ := hx.choose_spec
  obtain ⟨e1, e2, _⟩ := h'.unique h
  rw [e, e1, e2]

def stepI (way : Int) : Int := if way = 2 ∨ way = 4 then -1 else 1
theorem step_or (way : Int) : stepI way = 1 ∨ stepI way = -1 := by unfold stepI; split <;> omega
noncomputable def adjO (op : Int → Bool) (n way : Int) : Option Int :=
  if way = 0 then some n
  else if (way = 3 ∨ way = 4) ∧ (∀ x, srch op n (stepI way) = some x → moI x ≠ moI n) then srch op n (-stepI way) else srch op n (stepI way)


def ansE (o : Option Int) : Int := if o.isSome then 0 else 51

noncomputable def addO (op : Int → Bool) (s : Int) : Nat → Int → Option Int
  | 0, n => some n
  | K + 1, n => match srch op (n + s) s with
    | none => none
    | some x => addO op s K x
theorem addO_none {op : Int → Bool} {s : Int} {K : Nat} {n : Int} (h : srch op (n + s) s = none) : addO op s (K + 1) n = none := by
  show (match srch op (n + s) s with | none => none | some x => addO op s K x) = none
  rw [h]
theorem addO_some {op : Int → Bool} {s : Int} {K : Nat} {n x : Int} (h : srch op (n + s) s = some x) : addO op s (K + 1) n = addO op s K x := by
  show (match srch op (n + s) s with | none => none | some x => addO op s K x) = _
  rw [h]
theorem srch_dir {op : Int → Bool} {n s x : Int} (h : SrchR op n s (some x)) : (s = 1 → n ≤ x) ∧ (s = -1 → x ≤ n) := by
  cases h with
  | hit k a b c => exact ⟨fun e => by rw [e]; omega, fun e => by rw [e]; omega⟩

def cntN (op : Int → Bool) (a : Int) : Nat → Nat
  | 0 => 0
  | k + 1 => cntN op a k + (if op (a + k) then 1 else 0)
theorem cnt_le (op : Int → Bool) (a : Int) (k : Nat) : cntN op a k ≤ k := by
  induction k with
  | zero => exact Nat.le_refl _
  | succ k ih => show cntN op a k + (if op (a + k) then 1 else 0) ≤ k + 1; split <;> omega

end Go.Proofs.YtpcgbcdldkmibaaGreat
namespace Go.Proofs.YtpcgbcdldkmibaaGreat
open Go.RowKit

structure Spc where
  (st en n unit stub roll conv lag : Int)
structure SpcOk (s : Spc) : Prop where
  (s0 : isDayP s.st) (e0 : isDayP s.en) (lt : s.st < s.en) (n1 : 1 ≤ s.n) (n2 : s.n ≤ 1200) (u1 : 1 ≤ s.unit) (u2 : s.unit ≤ 4) (t1 : 1 ≤ s.stub) (t2 : s.stub ≤ 4) (r1 : 0 ≤ s.roll) (r2 : s.roll ≤ 2) (ru : s.roll = 0 ∨ 3 ≤ s.unit) (c1 : 0 ≤ s.conv) (c2 : s.conv ≤ 4) (l1 : 0 ≤ s.lag) (l2 : s.lag ≤ 30)
inductive SpcR (s : Spc) (A : Int) : Int → Prop where
  | range : ¬ (isDayP s.st ∧ isDayP s.en) → SpcR s A 51
  | spec : isDayP s.st → isDayP s.en → ¬ SpcOk s → SpcR s A 80
  | cal : SpcOk s → SpcR s A A
theorem spc_ex (s : Spc) (A : Int) : ∃ E, SpcR s A E := by
  by_cases h : isDayP s.st ∧ isDayP s.en
  · by_cases h2 : SpcOk s
    · exact ⟨_, .cal h2⟩
    · exact ⟨_, .spec h.1 h.2 h2⟩
  · exact ⟨_, .range h⟩
theorem spc_ok {s : Spc} {A : Int} (h : SpcR s A 0) : SpcOk s ∧ A = 0 := by
  generalize hE : (0 : Int) = E at h
  cases h with
  | range => exact absurd hE (by decide)
  | spec => exact absurd hE (by decide)
  | cal h => exact ⟨h, rfl⟩
theorem spc_cases {s : Spc} (h0 : isDayP s.st) (h1 : isDayP s.en) (h : ¬ SpcOk s) :
    s.en ≤ s.st ∨ (s.st < s.en ∧ ¬ (1 ≤ s.n ∧ s.n ≤ 1200)) ∨ (s.st < s.en ∧ (1 ≤ s.n ∧ s.n ≤ 1200) ∧ ¬ (1 ≤ s.unit ∧ s.unit ≤ 4)) ∨ (s.st < s.en ∧ (1 ≤ s.n ∧ s.n ≤ 1200) ∧ (1 ≤ s.unit ∧ s.unit ≤ 4) ∧ ¬ (1 ≤ s.stub ∧ s.stub ≤ 4)) ∨
    (s.st < s.en ∧ (1 ≤ s.n ∧ s.n ≤ 1200) ∧ (1 ≤ s.unit ∧ s.unit ≤ 4) ∧ (1 ≤ s.stub ∧ s.stub ≤ 4) ∧ ¬ (0 ≤ s.roll ∧ s.roll ≤ 2)) ∨
    (s.st < s.en ∧ (1 ≤ s.n ∧ s.n ≤ 1200) ∧ (1 ≤ s.unit ∧ s.unit ≤ 4) ∧ (1 ≤ s.stub ∧ s.stub ≤ 4) ∧ (0 ≤ s.roll ∧ s.roll ≤ 2) ∧ s.roll ≠ 0 ∧ s.unit < 3) ∨
    (s.st < s.en ∧ (1 ≤ s.n ∧ s.n ≤ 1200) ∧ (1 ≤ s.unit ∧ s.unit ≤ 4) ∧ (1 ≤ s.stub ∧ s.stub ≤ 4) ∧ (0 ≤ s.roll ∧ s.roll ≤ 2) ∧ (s.roll = 0 ∨ 3 ≤ s.unit) ∧ ¬ (0 ≤ s.conv ∧ s.conv ≤ 4)) ∨
    (s.st < s.en ∧ (1 ≤ s.n ∧ s.n ≤ 1200) ∧ (1 ≤ s.unit ∧ s.unit ≤ 4) ∧ (1 ≤ s.stub ∧ s.stub ≤ 4) ∧ (0 ≤ s.roll ∧ s.roll ≤ 2) ∧ (s.roll = 0 ∨ 3 ≤ s.unit) ∧ (0 ≤ s.conv ∧ s.conv ≤ 4) ∧ ¬ (0 ≤ s.lag ∧ s.lag ≤ 30)) := by
  by_cases a1 : s.st < s.en
  · by_cases a2 : 1 ≤ s.n ∧ s.n ≤ 1200
    · by_cases a3 : 1 ≤ s.unit ∧ s.unit ≤ 4
      · by_cases a4 : 1 ≤ s.stub ∧ s.stub ≤ 4
        · by_cases a5 : 0 ≤ s.roll ∧ s.roll ≤ 2
          · by_cases a6 : s.roll ≠ 0 ∧ s.unit < 3
            · exact Or.inr (Or.inr (Or.inr (Or.inr (Or.inr (Or.inl ⟨a1, a2, a3, a4, a5, a6⟩)))))
            · have a6' : s.roll = 0 ∨ 3 ≤ s.unit := by omega
              by_cases a7 : 0 ≤ s.conv ∧ s.conv ≤ 4
              · refine Or.inr (Or.inr (Or.inr (Or.inr (Or.inr (Or.inr (Or.inr ⟨a1, a2, a3, a4, a5, a6', a7, fun a8 => h ?_⟩))))))
                exact ⟨h0, h1, a1, a2.1, a2.2, a3.1, a3.2, a4.1, a4.2, a5.1, a5.2, a6', a7.1, a7.2, a8.1, a8.2⟩
              · exact Or.inr (Or.inr (Or.inr (Or.inr (Or.inr (Or.inr (Or.inl ⟨a1, a2, a3, a4, a5, a6', a7⟩))))))
          · exact Or.inr (Or.inr (Or.inr (Or.inr (Or.inl ⟨a1, a2, a3, a4, a5⟩))))
        · exact Or.inr (Or.inr (Or.inr (Or.inl ⟨a1, a2, a3, a4⟩)))
      · exact Or.inr (Or.inr (Or.inl ⟨a1, a2, a3⟩))
    · exact Or.inr (Or.inl ⟨a1, a2⟩)
  · exact Or.inl (by omega)

def stepN (s : Spc) (k : Int) : Int := if s.unit = 2 ∨ s.unit = 4 then (if s.unit = 2 then 7 else 12) * (k * s.n) else k * s.n
open Classical in
noncomputable def rollO (roll y m d k : Int) : Option Int :=
  if 0 ≤ mthI y m k ∧ mthI y m k < 3600 then some (if roll = 0 then monI y m d k false else if roll = 1 then dayI (toY y m k) (toM y m k) (lenI (toY y m k) (toM y m k)) else thirdI (toY y m k) (toM y m k)) else none
open Classical in
noncomputable def ptO (s : Spc) (a k : Int) : Option Int :=
  if ¬ isDayP a then none
  else if s.unit ≤ 2 then (if isDayP (a + stepN s k) then some (a + stepN s k) else none)
  else if h : ∃ p : Int × Int × Int, IsD a p.1 p.2.1 p.2.2 then rollO s.roll h.choose.1 h.choose.2.1 h.choose.2.2 (stepN s k) else none
theorem pt_days {s : Spc} {a k : Int} (ha : isDayP a) (hu : s.unit ≤ 2) : ptO s a k = if isDayP (a + stepN s k) then some (a + stepN s k) else none := by
  unfold ptO
  rw [if_neg (fun h => h ha), if_pos hu]
theorem pt_months {s : Spc} {a k y m d : Int} (hd : IsD a y m d) (hu : ¬ s.unit ≤ 2) : ptO s a k = rollO s.roll y m d (stepN s k) := by
  have hx : ∃ p : Int × Int × Int, IsD a p.1 p.2.1 p.2.2 := ⟨(y, m, d), hd⟩
  unfold ptO
  rw [if_neg (fun h => h ⟨hd.range.1, hd.range.2⟩), if_neg hu, dif_pos hx]
  obtain ⟨e1, e2, e3⟩ := hx.choose_spec.unique hd
  rw [e1, e2, e3]
theorem pt_none {s : Spc} {a k : Int} (ha : ¬ isDayP a) : ptO s a k = none := by
  unfold ptO
  rw [if_pos ha]
theorem mul_big {k n : Int} (hn : 1 ≤ n) : (200000 < k → 200000 < k * n) ∧ (k < -200000 → k * n < -200000) := by
  refine ⟨fun h => ?_, fun h => ?_⟩
  · have := Int.mul_le_mul_of_nonneg_left hn (show 0 ≤ k by omega)
    omega
  · have := Int.mul_le_mul_of_nonneg_left hn (show 0 ≤ -k by omega)
    rw [Int.neg_mul, Int.neg_mul] at this
    omega
theorem step_big {s : Spc} {k : Int} (hn : 1 ≤ s.n) (hk : k < -200000 ∨ 200000 < k) : stepN s k < -200000 ∨ 200000 < stepN s k := by
  have h := mul_big (k := k) hn
  unfold stepN
  split
  · split <;> omega
  · omega
theorem pt_far {s : Spc} {a k : Int} (hn : 1 ≤ s.n) (hk : k < -200000 ∨ 200000 < k) : ptO s a k = none := by
  have hb := step_big hn hk
  by_cases ha : isDayP a
  · by_cases hu : s.unit ≤ 2
    · rw [pt_days ha hu, if_neg (fun h => by have h1 := h.1; have h2 := h.2; have := ha.1; have := ha.2; omega)]
    · obtain ⟨y, m, d, hd⟩ := isD_ex ha.1 ha.2
      rw [pt_months hd hu]
      unfold rollO
      obtain ⟨y0, y1, m0, m1, _, _⟩ := hd.1
      rw [if_neg (fun h => by unfold mthI at h; omega)]
  · exact pt_none ha
end Go.Proofs.YtpcgbcdldkmibaaGreat
namespace Go.Proofs.YtpcgbcdldkmibaaGreat
open Go.RowKit

theorem and_one (n : Int) : bits .and .i64 n 1 = n % 2 := by
  have h1 : (BitVec.ofInt 64 1).toNat = 2 ^ 1 - 1 := by decide
  have key : (BitVec.ofInt 64 n &&& BitVec.ofInt 64 1).toNat = (n % ((2 ^ 64 : Nat) : Int)).toNat % 2 ^ 1 := by
    rw [BitVec.toNat_and, BitVec.toNat_ofInt, h1, Nat.and_two_pow_sub_one_eq_mod]
  show IntKind.i64.wrap ((BitVec.ofInt 64 n &&& BitVec.ofInt 64 1).toNat : Nat) = n % 2
  rw [key, IntKind.wrap_i64]
  omega
theorem tmod7 (n : Int) : ∃ a, n.tmod 7 = a ∧ -6 ≤ a ∧ a ≤ 6 ∧ (a + 7) % 7 = n % 7 := by
  rcases Int.le_total 0 n with h | h
  · exact ⟨n % 7, Int.tmod_eq_emod_of_nonneg h, by omega, by omega, by omega⟩
  · refine ⟨-((-n) % 7), ?_, by omega, by omega, by omega⟩
    have e := Int.neg_tmod (-n) 7
    rw [Int.neg_neg] at e
    rw [e, Int.tmod_eq_emod_of_nonneg (by omega)]

set_option maxHeartbeats 400000 in
theorem refOff_any (W n : Int) (v : Value) (w : World) :
    Calls Tryz.prog 165 #[.agg #[.int .i64 W, v], .int .i64 n] w fun e w' => e = .returned (.bool (offB W n)) ∧ Below w.heap.size w w' := by
  obtain ⟨a, ha, a0, a1, hak0⟩ := tmod7 n
  obtain ⟨k, hk⟩ : ∃ k : Nat, n % 7 = k := ⟨(n % 7).toNat, by omega⟩
  have hak : (a + 7) % 7 = (k : Int) := by omega
  have hk6 : k ≤ 6 := by omega
  have hand := and_one (W / 2 ^ k)
  unfold offB
  rw [hk]
  have HE : Hid ((W / ((2 ^ (((k : Nat) : Int)).toNat : Nat) : Int) % 2 == 1) = (W / 2 ^ k % 2 == 1)) := by
    show _ = _
    rw [Int.toNat_natCast, Int.natCast_pow]; rfl
  clear hak0 hk
  rw [HE.out]
  clear HE
  go_enter Tryz.func165, Tryz.ntmps165
  go_wp2_with fail
  go_ret
  exact ⟨rfl, (Below.refl w.heap.size w).alloc (Nat.le_refl _) _⟩

theorem cal_cells {w w1 : World} {W : Int} {v : Value} (hb : Below (w.heap.size + 1) (w.alloc (.cells #[.int .i64 W, v] 25)) w1) :
    w1.cell? ⟨w.heap.size, 0, none⟩ = some (.int .i64 W) ∧ w1.cell? ⟨w.heap.size, 1, none⟩ = some v := by
  refine ⟨?_, ?_⟩
  · rw [hb.cell (p := ⟨w.heap.size, 0, none⟩) (by simp)]; simp
  · rw [hb.cell (p := ⟨w.heap.size, 1, none⟩) (by simp)]; simp

def CBox (w : World) (W : Int) (v : Value) (wr : World) : Prop := Below (w.heap.size + 1) (w.alloc (.cells #[.int .i64 W, v] 25)) wr
theorem CBox.step {w wr w' : World} {W : Int} {v : Value} (h : CBox w W v wr) (hb : Below wr.heap.size wr w') : CBox w W v w' :=
  h.trans (hb.mono (by have := h.size; simp at this; omega))
theorem CBox.below {w wr : World} {W : Int} {v : Value} (h : CBox w W v wr) : Below w.heap.size w wr :=
  ((Below.refl w.heap.size w).alloc (Nat.le_refl _) _).trans (h.mono (by omega))
theorem CBox.first {w w' : World} {W : Int} {v : Value} (hb : Below (w.alloc (.cells #[.int .i64 W, v] 25)).heap.size (w.alloc (.cells #[.int .i64 W, v] 25)) w') : CBox w W v w' :=
  hb.mono (by simp)
theorem mov_cases {n mv : Int} {u d : Nat} {R : Int} (h : (if mv = 2 ∧ (d : Int) < u then n - d else n + u) = R) : (mv = 2 ∧ (d : Int) < u ∧ n - d = R) ∨ (mv = 2 ∧ ¬ (d : Int) < u ∧ n + u = R) ∨ (mv ≠ 2 ∧ n + u = R) := by
  by_cases a : mv = 2
  · by_cases b : (d : Int) < u
    · rw [if_pos ⟨a, b⟩] at h; exact Or.inl ⟨a, b, h⟩
    · rw [if_neg (fun c => b c.2)] at h; exact Or.inr (Or.inl ⟨a, b, h⟩)
  · rw [if_neg (fun c => a c.1)] at h; exact Or.inr (Or.inr ⟨a, h⟩)

set_option maxHeartbeats 1600000 in
theorem refMoved_any (W n mv : Int) (v : Value) (u d : Nat) (w : World) (n0 : -500000 ≤ n) (n1 : n ≤ 500000) (hu : Ups W n u d) :
    Calls Tryz.prog 200 #[.agg #[.int .i64 W, v], .int .i64 n, .int .i64 mv] w fun e w' => e = .returned (.int .i64 (movI W n mv u d)) ∧ Below w.heap.size w w' := by
  have HO := hideS (fun (k : Int) (wx : World) => refOff_any W k v wx)
  have HU := hideS hu
  have u6 := hu.ub
  have d6 := hu.db
  obtain ⟨R, hR⟩ : ∃ R, movI W n mv u d = R := ⟨_, rfl⟩
  rw [hR]
  have HR := hideS hR
  clear hR hu
  by_cases hz : mv = 0
  · have HE : Hid (n = R) := by
      show _ = _
      rw [← HR.out]; unfold movI; rw [if_pos (Or.inl hz)]
    go_enter Tryz.func200, Tryz.ntmps200
    go_wp2_with fail
    go_ret
    obtain rfl := HE.out
    exact ⟨rfl, (Below.refl w.heap.size w).alloc (Nat.le_refl _) _⟩
  · have hz' : (mv == 0) = false := by rw [beq_eq_false_iff_ne]; exact hz
    have HOn := hideS (fun wx => HO.out n wx)
    cases ho : offB W n
    · rw [ho] at HOn
      have HE : Hid (n = R) := by
        show _ = _
        rw [← HR.out]; unfold movI; rw [if_pos (Or.inr ho)]
      clear hz
      go_enter Tryz.func200, Tryz.ntmps200
      go_wp2_with (go_at_call 165; refine (HOn.out _).mono ?_; rintro e w1 ⟨rfl, hb1⟩)
      go_ret
      obtain rfl := HE.out
      exact ⟨rfl, ((Below.refl w.heap.size w).alloc (Nat.le_refl _) _).trans (hb1.mono (by simp))⟩
    · rw [ho] at HOn
      have HE : Hid ((if mv = 2 ∧ (d : Int) < u then n - d else n + u) = R) := by
        show _ = _
        rw [← HR.out]
        show _ = if mv = 0 ∨ offB W n = false then n else _
        rw [if_neg (show ¬ (mv = 0 ∨ offB W n = false) from fun a => by
          rcases a with a | a
          · exact hz a
          · rw [ho] at a; exact Bool.noConfusion a)]
      clear hz ho HR
      go_enter Tryz.func200, Tryz.ntmps200
      go_wp2_with (go_at_call 165; refine (HOn.out _).mono ?_; rintro e w1 ⟨rfl, hb1⟩; have HB1 := hideS (CBox.first hb1); clear hb1)
      go_loopw [7] (fun i wr => ∃ (j : Nat) (I : Int), j ≤ u ∧ n ≤ I ∧ I ≤ n + 6 ∧ i = .int .i64 I ∧ Hid (I = n + j) ∧ Hid (CBox w W v wr)) (fun i _ => (n + u - intOf i).toNat)
      case atStart => exact ⟨0, n, by omega, by omega, by omega, rfl, by show _ = _; omega, HB1⟩
      case round =>
        obtain ⟨j, I, hj, hI0, hI1, rfl, HI, HB⟩ := hrel
        obtain ⟨c0, c1⟩ := cal_cells HB.out
        have HOi := hideS (fun wx => HO.out I wx)
        by_cases hlt : j < u
        · have e1 : offB W I = true := by rw [HI.out]; exact HU.out.uo j hlt
          rw [e1] at HOi
          have HIl : Hid (I < n + u) := by have := HI.out; show _ < _; omega
          clear e1
          go_wp2_with (go_at_call 165; refine (HOi.out _).mono ?_; rintro e w2 ⟨rfl, hb2⟩; have HB2 := hideS (HB.out.step hb2); clear hb2)
          go_roundw
          case rel => exact ⟨j + 1, I + 1, by omega, by omega, by have := HIl.out; omega, rfl, by have := HI.out; show _ = _; omega, HB2⟩
          case measure => have := HIl.out; simp [intOf]; omega
        · have hju : j = u := by omega
          have e1 : offB W I = false := by rw [HI.out, hju]; exact HU.out.uf
          rw [e1] at HOi
          have HIu : Hid (I = n + u) := by have := HI.out; show _ = _; omega
          clear e1 hju hlt hj HI HB1
          go_wp2_with (go_at_call 165; refine (HOi.out _).mono ?_; rintro e w2 ⟨rfl, hb2⟩; have HB2 := hideS (HB.out.step hb2); clear hb2)
          go_loopw [8] (fun i wr => ∃ (j : Nat) (K : Int), j ≤ d ∧ n - 6 ≤ K ∧ K ≤ n ∧ i = .int .i64 K ∧ Hid (K = n - j) ∧ Hid (CBox w W v wr)) (fun i _ => (intOf i - (n - d)).toNat)
          case atStart => exact ⟨0, n, by omega, by omega, by omega, rfl, by show _ = _; omega, HB2⟩
          case round =>
            clear c0 c1 HB HB2 HOi
            obtain ⟨j, K, hj, hK0, hK1, rfl, HK, HB⟩ := hrel
            obtain ⟨c0, c1⟩ := cal_cells HB.out
            have HOi := hideS (fun wx => HO.out K wx)
            by_cases hlt : j < d
            · have e1 : offB W K = true := by rw [HK.out]; exact HU.out.dn j hlt
              rw [e1] at HOi
              have HKl : Hid (n - d < K) := by have := HK.out; show _ < _; omega
              clear e1
              go_wp2_with (go_at_call 165; refine (HOi.out _).mono ?_; rintro e w2 ⟨rfl, hb2⟩; have HB2 := hideS (HB.out.step hb2); clear hb2)
              go_roundw
              case rel => exact ⟨j + 1, K - 1, by omega, by have := HKl.out; omega, by omega, rfl, by have := HK.out; show _ = _; omega, HB2⟩
              case measure => have := HKl.out; simp [intOf]; omega
            · have hju : j = d := by omega
              have e1 : offB W K = false := by rw [HK.out, hju]; exact HU.out.df
              rw [e1] at HOi
              have HKd : Hid (K = n - d) := by have := HK.out; show _ = _; omega
              clear e1 hju hlt hj HK
              rcases mov_cases HE.out with ⟨a, b, c⟩ | ⟨a, b, c⟩ | ⟨a, c⟩
              · have hlt : n - K < I - n := by have := HKd.out; have := HIu.out; omega
                have HRR : Hid (K = R) := by have := HKd.out; show _ = _; omega
                clear b c HE HKd HIu
                go_wp2_with (go_at_call 165; refine (HOi.out _).mono ?_; rintro e w2 ⟨rfl, hb2⟩; have HB2 := hideS (HB.out.step hb2); clear hb2)
                go_ret
                obtain rfl := HRR.out
                exact ⟨rfl, HB2.out.below⟩
              · have hlt : ¬ n - K < I - n := by have := HKd.out; have := HIu.out; omega
                have HRR : Hid (I = R) := by have := HIu.out; show _ = _; omega
                clear b c HE HKd HIu
                go_wp2_with (go_at_call 165; refine (HOi.out _).mono ?_; rintro e w2 ⟨rfl, hb2⟩; have HB2 := hideS (HB.out.step hb2); clear hb2)
                go_ret
                obtain rfl := HRR.out
                exact ⟨rfl, HB2.out.below⟩
              · have ha : (mv == 2) = false := by rw [beq_eq_false_iff_ne]; exact a
                have HRR : Hid (I = R) := by have := HIu.out; show _ = _; omega
                clear a c HE HKd HIu
                go_wp2_with (go_at_call 165; refine (HOi.out _).mono ?_; rintro e w2 ⟨rfl, hb2⟩; have HB2 := hideS (HB.out.step hb2); clear hb2)
                go_ret
                obtain rfl := HRR.out
                exact ⟨rfl, HB2.out.below⟩

set_option maxHeartbeats 800000 in
theorem refNth_any (y m wd k : Int) (w : World) (h : ymB y m) (d0 : 0 ≤ wd) (d1 : wd ≤ 6) (k1 : 1 ≤ k) (k5 : k ≤ 5) :
    Calls Tryz.prog 198 #[.int .i64 y, .int .i64 m, .int .i64 wd, .int .i64 k] w fun e w' => e = .returned (.int .i64 (nthI y m wd k)) ∧ w' = w := by
  have HOf := hideS (refOf_ok y m 1 w (okD_first h 1 (by omega) (by omega)))
  have HL := hideS (refLengthP_ok y m w h)
  obtain ⟨f0, f1⟩ := (isD_of (okD_first h 1 (by omega) (by omega))).range
  have l0 := len_lo y m
  have l1 := len_hi y m
  obtain ⟨R, hR⟩ : ∃ R, nthI y m wd k = R := ⟨_, rfl⟩
  rw [hR]
  have HR : Hid ((if k = 5 ∧ dayI y m 1 + lenI y m ≤ dayI y m 1 + (wd - dayI y m 1) % 7 + 7 * (k - 1) then dayI y m 1 + (wd - dayI y m 1) % 7 + 7 * (k - 1) - 7 else dayI y m 1 + (wd - dayI y m 1) % 7 + 7 * (k - 1)) = R) := hR
  clear hR h
  generalize dayI y m 1 = f at *
  generalize lenI y m = L at *
  obtain ⟨t, ht⟩ : ∃ t, (wd - f) % 7 = t := ⟨_, rfl⟩
  rw [ht] at HR
  have HT := hideS ht
  have t0 : 0 ≤ t := by omega
  have t1 : t ≤ 6 := by omega
  clear ht
  go_enter Tryz.func198, Tryz.ntmps198
  go_wp2_with (first | (go_at_call 121; refine HOf.out.mono ?_; rintro e w' ⟨rfl, rfl⟩) | (go_at_call 162; refine HL.out.mono ?_; rintro e w' ⟨rfl, rfl⟩))
  clear HOf HL
  go_loop [13] (fun i => ∃ (I : Int), f ≤ I ∧ I ≤ f + t ∧ i = .int .i64 I ∧ Hid ((I + (wd - I) % 7) = f + t)) (fun i => (f + t - intOf i).toNat)
  case atStart => exact ⟨f, by omega, by omega, rfl, by have := HT.out; show _ = _; omega⟩
  case round =>
    obtain ⟨I, hI0, hI1, rfl, HI⟩ := hrel
    by_cases hw : I % 7 = wd
    · have HIt : Hid (I = f + t) := by have := HI.out; show _ = _; omega
      by_cases ha : k = 5
      · by_cases hb : f + L ≤ I + 7 * (k - 1)
        · have HRR : Hid (I + 7 * (k - 1) - 7 = R) := by
            have := HIt.out
            show _ = _
            rw [← HR.out, if_pos ⟨ha, by omega⟩]; omega
          clear HR HI HIt HT
          subst ha
          go_wp2_with fail
          go_ret
          obtain rfl := HRR.out
          exact ⟨rfl, rfl⟩
        · have HRR : Hid (I + 7 * (k - 1) = R) := by
            have := HIt.out
            show _ = _
            rw [← HR.out, if_neg (fun c => hb (by omega))]; omega
          clear HR HI HIt HT
          subst ha
          go_wp2_with fail
          go_ret
          obtain rfl := HRR.out
          exact ⟨rfl, rfl⟩
      · have HRR : Hid (I + 7 * (k - 1) = R) := by
          have := HIt.out
          show _ = _
          rw [← HR.out, if_neg (fun c => ha c.1)]; omega
        have ha' : (k == 5) = false := by rw [beq_eq_false_iff_ne]; exact ha
        clear HR HI HIt HT ha
        go_wp2_with fail
        go_ret
        obtain rfl := HRR.out
        exact ⟨rfl, rfl⟩
    · have HI' : Hid (I + 1 + (wd - (I + 1)) % 7 = f + t) := by have := HI.out; show _ = _; omega
      have hlt : I < f + t := by have := HI.out; omega
      have hw' : (I % 7 != wd) = true := by rw [bne_iff_ne]; exact hw
      clear hw
      go_wp2_with fail
      go_round
      case rel => exact ⟨I + 1, by omega, by omega, rfl, HI'⟩
      case measure => simp [intOf]; omega
end Go.Proofs.YtpcgbcdldkmibaaGreat
namespace Go.Proofs.YtpcgbcdldkmibaaGreat
open Go.RowKit

theorem day_none {W : Int} {r : Rul} {y : Int} (h : y < r.fr ∨ r.to < y) : dayO W r y = none := by unfold dayO baseO; rw [if_pos h]; rfl

set_option maxHeartbeats 1600000 in
theorem refDay_any (W y : Int) (r : Rul) (v : Value) (w : World) (h0 : 0 ≤ W) (h1 : W ≤ 126) (hf : fitB r = true) (hk : r.kind ≠ 4) :
    Calls Tryz.prog 185 #[.agg #[.int .i64 W, v], .agg #[.int .i64 r.kind, .int .i64 r.mon, .int .i64 r.day, .int .i64 r.nth, .int .i64 r.wd, .int .i64 r.off, .int .i64 r.fr, .int .i64 r.to, .int .i64 r.mv], .int .i64 y] w fun e w' => e = .returned (.tuple #[.int .i64 ((dayO W r y).getD 0), .bool (dayO W r y).isSome]) ∧ Below w.heap.size w w' := by
  have hb2 : ∀ (o1 o2 : Obj), Below w.heap.size w ((w.alloc o1).alloc o2) := fun o1 o2 => ((Below.refl w.heap.size w).alloc (Nat.le_refl _) _).alloc (by simp) _
  have HB2 := hideS hb2
  clear hb2
  by_cases hy : y < r.fr ∨ r.to < y
  · rw [day_none hy]
    obtain ⟨kind, mon, day, nth, wd, off, fr, to, mv⟩ := r
    dsimp only at *
    rcases (show y < fr ∨ (¬ y < fr ∧ to < y) by omega) with a | ⟨a, b⟩
    all_goals
      clear hy hf hk
      go_enter Tryz.func185, Tryz.ntmps185
      go_wp2_with fail
      go_ret2
      exact ⟨rfl, HB2.out _ _⟩
  · rcases fit_cases hf with ⟨a, _⟩ | ⟨⟨f0, f1, f2, v0, v1⟩, hkd⟩
    · exact absurd a hk
    · have y0 : 1900 ≤ y := by omega
      have y1 : y ≤ 2199 := by omega
      have hy1 : ¬ y < r.fr := by omega
      have hy2 : ¬ r.to < y := by omega
      obtain ⟨R, hR⟩ : ∃ R, dayO W r y = R := ⟨_, rfl⟩
      rw [hR]
      have HR := hideS hR
      clear hR
      rcases hkd with ⟨k1, m0, m1, d0, d1⟩ | ⟨k2, m0, m1, w0, w1, c0, c1⟩ | ⟨k3, o0, o1⟩
      · by_cases ho : okD y r.mon r.day
        · obtain ⟨n0, n1⟩ := (isD_of ho).range
          have HO := hideS (fun wx => refOf_ok y r.mon r.day wx ho)
          obtain ⟨u, d, hu⟩ := ups_ex h0 h1 (dayI y r.mon r.day)
          have HM := hideS (fun wx => refMoved_any W (dayI y r.mon r.day) r.mv v u d wx (by omega) (by omega) hu)
          have HE : Hid (some (movI W (dayI y r.mon r.day) r.mv u d) = R) := by
            show _ = R
            rw [← HR.out]
            unfold dayO baseO
            rw [if_neg hy, if_pos k1, if_pos ho, Option.map_some, mv_eq hu]
          generalize movI W (dayI y r.mon r.day) r.mv u d = X at *
          generalize dayI y r.mon r.day = N at *
          obtain ⟨kind, mon, day, nth, wd, off, fr, to, mv⟩ := r
          dsimp only at *
          subst k1
          clear hf hk hy ho hu HR d1
          go_enter Tryz.func185, Tryz.ntmps185
          go_wp2_with (first | (go_at_call 121; refine (HO.out _).mono ?_; rintro e w1 ⟨rfl, rfl⟩) | (go_at_call 200; refine (HM.out _).mono ?_; rintro e w1 ⟨rfl, hb1⟩))
          go_ret2
          obtain rfl := HE.out
          exact ⟨rfl, (HB2.out _ _).trans (hb1.mono (by simp; omega))⟩
        · have HO := hideS (fun wx => refOf_bad y r.mon r.day wx ho)
          have HE : Hid (none = R) := by
            show _ = R
            rw [← HR.out]
            unfold dayO baseO
            rw [if_neg hy, if_pos k1, if_neg ho]; rfl
          obtain ⟨kind, mon, day, nth, wd, off, fr, to, mv⟩ := r
          dsimp only at *
          subst k1
          clear hf hk hy ho HR d1
          go_enter Tryz.func185, Tryz.ntmps185
          go_wp2_with (go_at_call 121; refine (HO.out _).mono ?_; rintro e w1 ⟨rfl, rfl⟩)
          go_ret2
          obtain rfl := HE.out
          exact ⟨rfl, HB2.out _ _⟩
      · have hym : ymB y r.mon := ⟨y0, y1, m0, m1⟩
        obtain ⟨n0, n1⟩ := nth_rng hym w0 w1 c0 c1
        have HN := hideS (fun wx => refNth_any y r.mon r.wd r.nth wx hym w0 w1 c0 c1)
        obtain ⟨u, d, hu⟩ := ups_ex h0 h1 (nthI y r.mon r.wd r.nth)
        have HM := hideS (fun wx => refMoved_any W (nthI y r.mon r.wd r.nth) r.mv v u d wx (by omega) (by omega) hu)
        have HE : Hid (some (movI W (nthI y r.mon r.wd r.nth) r.mv u d) = R) := by
          show _ = R
          rw [← HR.out]
          unfold dayO baseO
          rw [if_neg hy, if_neg (by omega), if_pos k2, Option.map_some, mv_eq hu]
        generalize movI W (nthI y r.mon r.wd r.nth) r.mv u d = X at *
        generalize nthI y r.mon r.wd r.nth = N at *
        obtain ⟨kind, mon, day, nth, wd, off, fr, to, mv⟩ := r
        dsimp only at *
        subst k2
        clear hf hk hy hym hu HR
        go_enter Tryz.func185, Tryz.ntmps185
        go_wp2_with (first | (go_at_call 198; refine (HN.out _).mono ?_; rintro e w1 ⟨rfl, rfl⟩) | (go_at_call 200; refine (HM.out _).mono ?_; rintro e w1 ⟨rfl, hb1⟩))
        go_ret2
        obtain rfl := HE.out
        exact ⟨rfl, (HB2.out _ _).trans (hb1.mono (by simp; omega))⟩
      · obtain ⟨n0, n1⟩ : 0 ≤ eaDay y ∧ eaDay y ≤ 109572 := (isD_of (ea_ok y0 y1).ok).range
        have HN := hideS (fun wx => refEaster_ok y wx y0 y1)
        obtain ⟨u, d, hu⟩ := ups_ex h0 h1 (eaDay y + r.off)
        have HM := hideS (fun wx => refMoved_any W (eaDay y + r.off) r.mv v u d wx (by omega) (by omega) hu)
        have HE : Hid (some (movI W (eaDay y + r.off) r.mv u d) = R) := by
          show _ = R
          rw [← HR.out]
          unfold dayO baseO
          rw [if_neg hy, if_neg (by omega), if_neg (by omega), if_pos k3, Option.map_some, mv_eq hu]
        generalize movI W (eaDay y + r.off) r.mv u d = X at *
        generalize eaDay y = N at *
        obtain ⟨kind, mon, day, nth, wd, off, fr, to, mv⟩ := r
        dsimp only at *
        subst k3
        clear hf hk hy hu HR
        go_enter Tryz.func185, Tryz.ntmps185
        go_wp2_with (first | (go_at_call 199; refine (HN.out _).mono ?_; rintro e w1 ⟨rfl, rfl⟩) | (go_at_call 200; refine (HM.out _).mono ?_; rintro e w1 ⟨rfl, hb1⟩))
        go_ret2
        obtain rfl := HE.out
        exact ⟨rfl, (HB2.out _ _).trans (hb1.mono (by simp; omega))⟩
end Go.Proofs.YtpcgbcdldkmibaaGreat
namespace Go.Proofs.YtpcgbcdldkmibaaGreat
open Go.RowKit

structure HK (w : World) (W : Int) (v : Value) (b5 : Nat) (Y m d : Int) (wr : World) : Prop where
  box : CBox w W v wr
  d0 : wr.cell? ⟨b5, 0, none⟩ = some (.int .i64 Y)
  d1 : wr.cell? ⟨b5, 1, none⟩ = some (.int .i64 m)
  d2 : wr.cell? ⟨b5, 2, none⟩ = some (.int .i64 d)
  lt : b5 < wr.heap.size
theorem HK.step {w wr w' : World} {W : Int} {v : Value} {b5 : Nat} {Y m d : Int} (h : HK w W v b5 Y m d wr) (hb : Below wr.heap.size wr w') : HK w W v b5 Y m d w' :=
  ⟨h.box.step hb, (hb.cell (p := ⟨b5, 0, none⟩) h.lt).trans h.d0, (hb.cell (p := ⟨b5, 1, none⟩) h.lt).trans h.d1, (hb.cell (p := ⟨b5, 2, none⟩) h.lt).trans h.d2, Nat.lt_of_lt_of_le h.lt hb.size⟩
theorem HK.first {w w1 : World} {W : Int} {v : Value} {Y m d : Int} (h : CBox w W v w1) : HK w W v w1.heap.size Y m d (w1.alloc (.cells #[.int .i64 Y, .int .i64 m, .int .i64 d] 180)) :=
  ⟨h.step ((Below.refl _ w1).alloc (Nat.le_refl _) _), by simp, by simp, by simp, by simp⟩

structure HK2 (w : World) (W : Int) (v : Value) (b5 : Nat) (Y m d : Int) (b8 : Nat) (r : Rul) (wr : World) : Prop where
  hk : HK w W v b5 Y m d wr
  rc : RCells wr b8 0 r
  lt8 : b8 < wr.heap.size
theorem HK2.step {w wr w' : World} {W : Int} {v : Value} {b5 : Nat} {Y m d : Int} {b8 : Nat} {r : Rul} (h : HK2 w W v b5 Y m d b8 r wr) (hb : Below wr.heap.size wr w') : HK2 w W v b5 Y m d b8 r w' :=
  ⟨h.hk.step hb, h.rc.below hb h.lt8, Nat.lt_of_lt_of_le h.lt8 hb.size⟩
theorem HK2.first {w wr : World} {W : Int} {v : Value} {b5 : Nat} {Y m d : Int} {r : Rul} (h : HK w W v b5 Y m d wr) :
    HK2 w W v b5 Y m d wr.heap.size r (wr.alloc (.cells #[.int .i64 r.kind, .int .i64 r.mon, .int .i64 r.day, .int .i64 r.nth, .int .i64 r.wd, .int .i64 r.off, .int .i64 r.fr, .int .i64 r.to, .int .i64 r.mv] 178)) :=
  ⟨h.step ((Below.refl _ wr).alloc (Nat.le_refl _) _), ⟨by simp, by simp, by simp, by simp, by simp, by simp, by simp, by simp, by simp⟩, by simp⟩

set_option maxHeartbeats 1600000 in
theorem refHol_any (W n Y m d : Int) (p : Option Addr) (b off c : Nat) (rs : List Rul) (w : World) (h0 : 0 ≤ W) (h1 : W ≤ 126) (hs : RSrc w p b off rs) (hf : ∀ r ∈ rs, fitB r = true) (hn : rs.length ≤ 100) (hd : IsD n Y m d) :
    Calls Tryz.prog 166 #[.agg #[.int .i64 W, .slice p rs.length c], .int .i64 n] w fun e w' => e = .returned (.bool (holB W rs n Y)) ∧ Below w.heap.size w w' := by
  have HC := hideS (fun wx => refCiv_ok n Y m d wx hd)
  unfold dateV at HC
  have HS := hideS hs
  have HF := hideS hf
  obtain ⟨N, hN⟩ : ∃ N, rs.length = N := ⟨_, rfl⟩
  have HN := hideS hN
  rw [hN] at hn ⊢
  obtain ⟨R, hR⟩ : ∃ R, holB W rs n Y = R := ⟨_, rfl⟩
  rw [hR]
  have HR := hideS hR
  obtain ⟨y0, y1, _, _, _, _⟩ := hd.1
  clear hN hR hs hf hd
  go_enter Tryz.func166, Tryz.ntmps166
  go_wp2_with (go_at_call 120; refine (HC.out _).mono ?_; rintro e w1 ⟨rfl, hb1⟩; have HB1 := hideS (CBox.first hb1); clear hb1)
  have HK1 := hideS (HK.first (Y := Y) (m := m) (d := d) HB1.out)
  clear HB1 HC
  generalize w1.heap.size = b5 at *
  go_loopw [7, 8] (fun i _ wr => ∃ (k : Nat), k ≤ N ∧ i = .int .i64 k ∧ Hid (HK w W (.slice p N c) b5 Y m d wr) ∧ Hid (∀ j < k, hitB W (rs.getD j rul0) n Y = false)) (fun i _ _ => N - (intOf i).toNat)
  case atStart => exact ⟨0, by omega, rfl, HK1, fun j hj => by omega⟩
  case round =>
    obtain ⟨k, hk, rfl, HB, HNo⟩ := hrel
    obtain ⟨c0, c1⟩ := cal_cells HB.out.box
    by_cases hlt : k < N
    · have hx : k < rs.length := by rw [HN.out]; exact hlt
      obtain rfl := HS.out.at_ (by omega)
      have hrc := (HS.out.cell k hx).below HB.out.box.below (HS.out.lt (by omega))
      have HFk := hideS (HF.out (rs.getD k rul0) (by rw [List.getD_eq_getElem?_getD, List.getElem?_eq_getElem hx]; exact List.getElem_mem hx))
      obtain ⟨r, hr⟩ : ∃ r, rs.getD k rul0 = r := ⟨_, rfl⟩
      rw [hr] at hrc HFk
      have HRk := hideS hr
      clear hr hx
      obtain ⟨g0, g1, g2, g3, g4, g5, g6, g7, g8⟩ := hrc
      by_cases k4 : r.kind = 4
      · have HH : Hid (hitB W r n Y = (r.day == n)) := by show _ = _; unfold hitB; rw [if_pos k4]
        by_cases hd : r.day = n
        · have HE : Hid (true = R) := by
            show _ = _
            rw [← HR.out]
            refine (List.any_eq_true.2 ⟨r, ?_, ?_⟩).symm
            · rw [← HRk.out, List.getD_eq_getElem?_getD, List.getElem?_eq_getElem (by rw [HN.out]; exact hlt)]; exact List.getElem_mem _
            · rw [HH.out]; exact beq_iff_eq.2 hd
          obtain ⟨kind, mon, day, nth, wd, offs, fr, to, mv⟩ := r
          dsimp only at *
          subst k4 hd
          clear HH HFk HRk
          go_wp2_with fail
          go_ret
          obtain rfl := HE.out
          exact ⟨rfl, (HB.out.step ((Below.refl _ wr).alloc (Nat.le_refl _) _)).box.below⟩
        · have HNk : Hid (∀ j < k + 1, hitB W (rs.getD j rul0) n Y = false) := fun j hj => by
            by_cases hjk : j < k
            · exact HNo.out j hjk
            · obtain rfl : j = k := by omega
              rw [HRk.out, HH.out]; exact beq_eq_false_iff_ne.2 hd
          have hd' : (r.day == n) = false := beq_eq_false_iff_ne.2 hd
          obtain ⟨kind, mon, day, nth, wd, offs, fr, to, mv⟩ := r
          dsimp only at *
          subst k4
          clear HH HFk HRk hd
          go_wp2_with fail
          go_roundw
          case rel => exact ⟨k + 1, by omega, by go_num, HB.out.step ((Below.refl _ wr).alloc (Nat.le_refl _) _), HNk⟩
          case measure => simp [intOf]; omega
      · have HD := hideS (fun (y : Int) (wx : World) => refDay_any W y r (.slice (some ⟨b, off, none⟩) N c) wx h0 h1 HFk.out k4)
        have k4' : (r.kind == 4) = false := beq_eq_false_iff_ne.2 k4
        have HH : Hid (hitB W r n Y = (dayO W r (Y - 1) == some n || dayO W r Y == some n || dayO W r (Y + 1) == some n)) := by show _ = _; unfold hitB; rw [if_neg k4]
        clear k4
        have e0 : ∀ o, (wr.alloc o).cell? ⟨b5, 0, none⟩ = some (.int .i64 Y) := fun o => (((Below.refl _ wr).alloc (Nat.le_refl _) o).cell (p := ⟨b5, 0, none⟩) HB.out.lt).trans HB.out.d0
        have HKb := hideS (HK2.first (r := r) HB.out)
        have hrk : ∃ r', r' = r := ⟨r, rfl⟩
        obtain ⟨r', hr'⟩ := hrk
        rw [← hr'] at HH HFk HRk HD HKb
        have HR' := hideS hr'
        obtain ⟨kind, mon, day, nth, wd, offs, fr, to, mv⟩ := r
        dsimp only at *
        clear hr'
        go_wp2_with fail
        clear e0 g0 g1 g2 g3 g4 g5 g6 g7 g8 c0 c1
        generalize wr.heap.size = b8 at *
        go_loopw [9, 10, 11] (fun y _ _ w2 => ∃ (t : Nat) (I : Int), t ≤ 3 ∧ 1899 ≤ I ∧ I ≤ 2201 ∧ y = .int .i64 I ∧ Hid (I = Y - 1 + t) ∧ Hid (HK2 w W (.slice (some ⟨b, off, none⟩) N c) b5 Y m d b8 r' w2) ∧ Hid (∀ s < t, (dayO W r' (Y - 1 + (s : Nat)) == some n) = false)) (fun y _ _ _ => (Y + 2 - intOf y).toNat)
        case atStart => exact ⟨0, Y - 1, by omega, by omega, by omega, rfl, by show _ = _; omega, by have := HR'.out; subst this; exact HKb, fun s hs => by omega⟩
        case round =>
          clear HKb HB
          obtain ⟨t, I, ht, hI0, hI1, rfl, HI, HKb, HNt⟩ := hrel
          obtain ⟨c0, c1⟩ := cal_cells HKb.out.hk.box
          have d0 := HKb.out.hk.d0
          have q0 : wr.cell? ⟨b8, 0, none⟩ = some (.int .i64 r'.kind) := HKb.out.rc.c0
          have q1 : wr.cell? ⟨b8, 1, none⟩ = some (.int .i64 r'.mon) := HKb.out.rc.c1
          have q2 : wr.cell? ⟨b8, 2, none⟩ = some (.int .i64 r'.day) := HKb.out.rc.c2
          have q3 : wr.cell? ⟨b8, 3, none⟩ = some (.int .i64 r'.nth) := HKb.out.rc.c3
          have q4 : wr.cell? ⟨b8, 4, none⟩ = some (.int .i64 r'.wd) := HKb.out.rc.c4
          have q5 : wr.cell? ⟨b8, 5, none⟩ = some (.int .i64 r'.off) := HKb.out.rc.c5
          have q6 : wr.cell? ⟨b8, 6, none⟩ = some (.int .i64 r'.fr) := HKb.out.rc.c6
          have q7 : wr.cell? ⟨b8, 7, none⟩ = some (.int .i64 r'.to) := HKb.out.rc.c7
          have q8 : wr.cell? ⟨b8, 8, none⟩ = some (.int .i64 r'.mv) := HKb.out.rc.c8
          by_cases ht3 : t < 3
          · have hIY : I ≤ Y + 1 := by have := HI.out; omega
            have HDy := hideS (fun wx => HD.out I wx)
            obtain ⟨o, ho⟩ : ∃ o, dayO W r' I = o := ⟨_, rfl⟩
            rw [ho] at HDy
            have HOo := hideS ho
            clear ho
            rcases o with _ | x
            · have HNt' : Hid (∀ s < t + 1, (dayO W r' (Y - 1 + (s : Nat)) == some n) = false) := fun s hs => by
                by_cases hst : s < t
                · exact HNt.out s hst
                · obtain rfl : s = t := by omega
                  rw [← HI.out, HOo.out]; rfl
              dsimp only [Option.getD, Option.isSome] at HDy
              go_wp2_with (go_at_call 185; refine (HDy.out _).mono ?_; rintro e w3 ⟨rfl, hb3⟩; have HKc := hideS (HKb.out.step hb3); clear hb3)
              go_roundw
              case rel => exact ⟨t + 1, I + 1, by omega, by omega, by omega, rfl, by have := HI.out; show _ = _; omega, HKc, HNt'⟩
              case measure => simp [intOf]; omega
            · by_cases hxn : x = n
              · have HE : Hid (true = R) := by
                  show _ = _
                  rw [← HR.out]
                  refine (List.any_eq_true.2 ⟨r', ?_, ?_⟩).symm
                  · rw [← HRk.out, List.getD_eq_getElem?_getD, List.getElem?_eq_getElem (by rw [HN.out]; exact hlt)]; exact List.getElem_mem _
                  · rw [HH.out]
                    have e1 : (dayO W r' I == some n) = true := by rw [HOo.out, hxn]; exact beq_self_eq_true _
                    have := HI.out
                    rcases (show t = 0 ∨ t = 1 ∨ t = 2 by omega) with rfl | rfl | rfl
                    · rw [show Y - 1 = I by omega, e1]; rfl
                    · rw [show Y = I by omega, e1, Bool.or_true]; rfl
                    · rw [show Y + 1 = I by omega, e1, Bool.or_true]
                subst hxn
                dsimp only [Option.getD, Option.isSome] at HDy
                go_wp2_with (go_at_call 185; refine (HDy.out _).mono ?_; rintro e w3 ⟨rfl, hb3⟩; have HKc := hideS (HKb.out.step hb3); clear hb3)
                go_ret
                obtain rfl := HE.out
                exact ⟨rfl, HKc.out.hk.box.below⟩
              · have HNt' : Hid (∀ s < t + 1, (dayO W r' (Y - 1 + (s : Nat)) == some n) = false) := fun s hs => by
                  by_cases hst : s < t
                  · exact HNt.out s hst
                  · obtain rfl : s = t := by omega
                    rw [← HI.out, HOo.out]
                    exact beq_eq_false_iff_ne.2 (fun a => hxn (Option.some.inj a))
                have hxn' : (x == n) = false := beq_eq_false_iff_ne.2 hxn
                clear hxn
                dsimp only [Option.getD, Option.isSome] at HDy
                go_wp2_with (go_at_call 185; refine (HDy.out _).mono ?_; rintro e w3 ⟨rfl, hb3⟩; have HKc := hideS (HKb.out.step hb3); clear hb3)
                go_roundw
                case rel => exact ⟨t + 1, I + 1, by omega, by omega, by omega, rfl, by have := HI.out; show _ = _; omega, HKc, HNt'⟩
                case measure => simp [intOf]; omega
          · have hIY : ¬ I ≤ Y + 1 := by have := HI.out; omega
            have HNk : Hid (∀ j < k + 1, hitB W (rs.getD j rul0) n Y = false) := fun j hj => by
              by_cases hjk : j < k
              · exact HNo.out j hjk
              · obtain rfl : j = k := by omega
                rw [HRk.out, HH.out]
                have a0 := HNt.out 0 (by omega)
                have a1 := HNt.out 1 (by omega)
                have a2 := HNt.out 2 (by omega)
                rw [show Y - 1 + ((0 : Nat) : Int) = Y - 1 by omega] at a0
                rw [show Y - 1 + ((1 : Nat) : Int) = Y by omega] at a1
                rw [show Y - 1 + ((2 : Nat) : Int) = Y + 1 by omega] at a2
                rw [a0, a1, a2]; rfl
            go_wp2_with fail
            go_roundw
            case rel => exact ⟨k + 1, by omega, by go_num, HKb.out.hk, HNk⟩
            case measure => simp [intOf]; omega
    · have HE : Hid (false = R) := by
        show _ = _
        rw [← HR.out]
        refine (Bool.eq_false_iff.2 fun a => ?_).symm
        obtain ⟨r, hm, hr⟩ := List.any_eq_true.1 a
        obtain ⟨j, hj, rfl⟩ := List.getElem_of_mem hm
        have := HNo.out j (by have := HN.out; omega)
        rw [List.getD_eq_getElem?_getD, List.getElem?_eq_getElem hj] at this
        exact Bool.noConfusion (this.symm.trans hr)
      have hge : ¬ (k : Int) < N := by omega
      go_wp2_with fail
      go_ret
      obtain rfl := HE.out
      exact ⟨rfl, HB.out.box.below⟩
end Go.Proofs.YtpcgbcdldkmibaaGreat
namespace Go.Proofs.YtpcgbcdldkmibaaGreat
open Go.RowKit

theorem refIn_any (n lo hi : Int) (w : World) :
    Calls Tryz.prog 114 #[.int .i64 n, .int .i64 lo, .int .i64 hi] w fun e w' => e = .returned (.bool (decide (lo ≤ n ∧ n ≤ hi))) ∧ w' = w := by
  by_cases h1 : lo ≤ n <;> by_cases h2 : n ≤ hi
  all_goals
    first | rw [decide_eq_true (⟨h1, h2⟩ : lo ≤ n ∧ n ≤ hi)] | rw [decide_eq_false (fun h : lo ≤ n ∧ n ≤ hi => by omega)]
    go_enter Tryz.func114, Tryz.ntmps114
    go_wp2
    go_ret
    exact ⟨rfl, rfl⟩

theorem retB {a b : Bool} (h : a = b) : Ending.returned (.bool a) = .returned (.bool b) := by rw [h]
theorem fit4 (mon day nth wd off fr to mv : Int) : fitB ⟨4, mon, day, nth, wd, off, fr, to, mv⟩ = decide (mon = 0 ∧ nth = 0 ∧ wd = 0 ∧ off = 0 ∧ fr = 0 ∧ to = 0 ∧ mv = 0 ∧ 0 ≤ day ∧ day ≤ 109572) := by
  unfold fitB; dsimp only; rw [if_pos rfl]
def RngR (fr to mv : Int) : Prop := 1900 ≤ fr ∧ fr ≤ 2199 ∧ fr ≤ to ∧ to ≤ 2199 ∧ 0 ≤ mv ∧ mv ≤ 2
theorem fit_rng {kind mon day nth wd off fr to mv : Int} (h4 : kind ≠ 4) (h : ¬ RngR fr to mv) : fitB ⟨kind, mon, day, nth, wd, off, fr, to, mv⟩ = false := by
  unfold fitB; dsimp only; rw [if_neg h4, show decide (1900 ≤ fr ∧ fr ≤ 2199 ∧ fr ≤ to ∧ to ≤ 2199 ∧ 0 ≤ mv ∧ mv ≤ 2) = false from decide_eq_false h, Bool.false_and]
theorem fit1 {mon day nth wd off fr to mv : Int} (h : RngR fr to mv) : fitB ⟨1, mon, day, nth, wd, off, fr, to, mv⟩ = decide (nth = 0 ∧ wd = 0 ∧ off = 0 ∧ 1 ≤ mon ∧ mon ≤ 12 ∧ 1 ≤ day ∧ day ≤ mostI mon) := by
  unfold fitB; dsimp only
  rw [if_neg (by decide), show decide (1900 ≤ fr ∧ fr ≤ 2199 ∧ fr ≤ to ∧ to ≤ 2199 ∧ 0 ≤ mv ∧ mv ≤ 2) = true from decide_eq_true h, Bool.true_and, if_pos rfl]
theorem fit2 {mon day nth wd off fr to mv : Int} (h : RngR fr to mv) : fitB ⟨2, mon, day, nth, wd, off, fr, to, mv⟩ = decide (day = 0 ∧ off = 0 ∧ 1 ≤ mon ∧ mon ≤ 12 ∧ 0 ≤ wd ∧ wd ≤ 6 ∧ 1 ≤ nth ∧ nth ≤ 5) := by
  unfold fitB; dsimp only
  rw [if_neg (by decide), show decide (1900 ≤ fr ∧ fr ≤ 2199 ∧ fr ≤ to ∧ to ≤ 2199 ∧ 0 ≤ mv ∧ mv ≤ 2) = true from decide_eq_true h, Bool.true_and, if_neg (by decide), if_pos rfl]
theorem fit3 {mon day nth wd off fr to mv : Int} (h : RngR fr to mv) : fitB ⟨3, mon, day, nth, wd, off, fr, to, mv⟩ = decide (mon = 0 ∧ day = 0 ∧ nth = 0 ∧ wd = 0 ∧ -100 ≤ off ∧ off ≤ 100) := by
  unfold fitB; dsimp only
  rw [if_neg (by decide), show decide (1900 ≤ fr ∧ fr ≤ 2199 ∧ fr ≤ to ∧ to ≤ 2199 ∧ 0 ≤ mv ∧ mv ≤ 2) = true from decide_eq_true h, Bool.true_and, if_neg (by decide), if_neg (by decide), if_pos rfl]
theorem fit_no {kind mon day nth wd off fr to mv : Int} (h1 : kind ≠ 1) (h2 : kind ≠ 2) (h3 : kind ≠ 3) (h4 : kind ≠ 4) : fitB ⟨kind, mon, day, nth, wd, off, fr, to, mv⟩ = false := by
  unfold fitB; dsimp only
  rw [if_neg h4, if_neg h1, if_neg h2, if_neg h3, Bool.and_false]

set_option maxHeartbeats 1600000 in
theorem refFit_four (mon day nth wd off fr to mv : Int) (w : World) :
    Calls Tryz.prog 119 #[.agg #[.int .i64 4, .int .i64 mon, .int .i64 day, .int .i64 nth, .int .i64 wd, .int .i64 off, .int .i64 fr, .int .i64 to, .int .i64 mv]] w fun e w' => e = .returned (.bool (fitB ⟨4, mon, day, nth, wd, off, fr, to, mv⟩)) ∧ Below w.heap.size w w' := by
  rw [fit4]
  obtain ⟨R, hR⟩ : ∃ R, decide (mon = 0 ∧ nth = 0 ∧ wd = 0 ∧ off = 0 ∧ fr = 0 ∧ to = 0 ∧ mv = 0 ∧ 0 ≤ day ∧ day ≤ 109572) = R := ⟨_, rfl⟩
  rw [hR]
  have HR := hideS hR
  clear hR
  go_enter Tryz.func119, Tryz.ntmps119
  go_wp2_with (go_at_call 114; refine (refIn_any _ _ _ _).mono ?_; rintro e w1 ⟨rfl, rfl⟩)
  all_goals
    go_ret
    refine ⟨retB (Eq.trans ?_ HR.out), (Below.refl w.heap.size w).alloc (Nat.le_refl _) _⟩
    first | exact (decide_eq_false (by omega)).symm | (rw [Bool.eq_iff_iff]; simp only [Bool.and_eq_true, decide_eq_true_eq]; omega)

set_option maxHeartbeats 1600000 in
theorem refFit_rng (kind mon day nth wd off fr to mv : Int) (w : World) (h4 : kind ≠ 4) (h : ¬ RngR fr to mv) :
    Calls Tryz.prog 119 #[.agg #[.int .i64 kind, .int .i64 mon, .int .i64 day, .int .i64 nth, .int .i64 wd, .int .i64 off, .int .i64 fr, .int .i64 to, .int .i64 mv]] w fun e w' => e = .returned (.bool (fitB ⟨kind, mon, day, nth, wd, off, fr, to, mv⟩)) ∧ Below w.heap.size w w' := by
  rw [fit_rng h4 h]
  have h4' : (kind == 4) = false := beq_eq_false_iff_ne.2 h4
  have HI := hideS (fun (n lo hi : Int) (wx : World) => refIn_any n lo hi wx)
  unfold RngR at h
  by_cases a : 1900 ≤ fr ∧ fr ≤ 2199
  · by_cases b : fr ≤ to ∧ to ≤ 2199
    · have c : ¬ (0 ≤ mv ∧ mv ≤ 2) := by omega
      have ia := hideS (fun wx => HI.out fr 1900 2199 wx)
      have ib := hideS (fun wx => HI.out to fr 2199 wx)
      have ic := hideS (fun wx => HI.out mv 0 2 wx)
      rw [decide_eq_true a] at ia
      rw [decide_eq_true b] at ib
      rw [decide_eq_false c] at ic
      clear h h4 a b c HI
      go_enter Tryz.func119, Tryz.ntmps119
      go_wp2_with (first | (go_at_call_of 114 (Value.int IntKind.i64 1900); refine (ia.out _).mono ?_; rintro e w1 ⟨rfl, rfl⟩) | (go_at_call_of 114 (Value.int IntKind.i64 to); refine (ib.out _).mono ?_; rintro e w1 ⟨rfl, rfl⟩) | (go_at_call_of 114 (Value.int IntKind.i64 mv); refine (ic.out _).mono ?_; rintro e w1 ⟨rfl, rfl⟩))
      go_ret
      exact ⟨rfl, (Below.refl w.heap.size w).alloc (Nat.le_refl _) _⟩
    · have ia := hideS (fun wx => HI.out fr 1900 2199 wx)
      have ib := hideS (fun wx => HI.out to fr 2199 wx)
      rw [decide_eq_true a] at ia
      rw [decide_eq_false b] at ib
      clear h h4 a b HI
      go_enter Tryz.func119, Tryz.ntmps119
      go_wp2_with (first | (go_at_call_of 114 (Value.int IntKind.i64 1900); refine (ia.out _).mono ?_; rintro e w1 ⟨rfl, rfl⟩) | (go_at_call_of 114 (Value.int IntKind.i64 to); refine (ib.out _).mono ?_; rintro e w1 ⟨rfl, rfl⟩))
      go_ret
      exact ⟨rfl, (Below.refl w.heap.size w).alloc (Nat.le_refl _) _⟩
  · have ia := hideS (fun wx => HI.out fr 1900 2199 wx)
    rw [decide_eq_false a] at ia
    clear h h4 a HI
    go_enter Tryz.func119, Tryz.ntmps119
    go_wp2_with (go_at_call 114; refine (ia.out _).mono ?_; rintro e w1 ⟨rfl, rfl⟩)
    go_ret
    exact ⟨rfl, (Below.refl w.heap.size w).alloc (Nat.le_refl _) _⟩

set_option maxHeartbeats 3200000 in
theorem refFit_rest (kind mon day nth wd off fr to mv : Int) (w : World) (h1 : kind ≠ 1) (h4 : kind ≠ 4) (h : RngR fr to mv) :
    Calls Tryz.prog 119 #[.agg #[.int .i64 kind, .int .i64 mon, .int .i64 day, .int .i64 nth, .int .i64 wd, .int .i64 off, .int .i64 fr, .int .i64 to, .int .i64 mv]] w fun e w' => e = .returned (.bool (fitB ⟨kind, mon, day, nth, wd, off, fr, to, mv⟩)) ∧ Below w.heap.size w w' := by
  have HI := hideS (fun (n lo hi : Int) (wx : World) => refIn_any n lo hi wx)
  have ia := hideS (fun wx => HI.out fr 1900 2199 wx)
  have ib := hideS (fun wx => HI.out to fr 2199 wx)
  have ic := hideS (fun wx => HI.out mv 0 2 wx)
  rw [decide_eq_true ⟨h.1, h.2.1⟩] at ia
  rw [decide_eq_true ⟨h.2.2.1, h.2.2.2.1⟩] at ib
  rw [decide_eq_true ⟨h.2.2.2.2.1, h.2.2.2.2.2⟩] at ic
  have HB2 : Hid (∀ (o1 o2 : Obj), Below w.heap.size w ((w.alloc o1).alloc o2)) := fun o1 o2 => ((Below.refl w.heap.size w).alloc (Nat.le_refl _) _).alloc (by simp) _
  have h4' : (kind == 4) = false := beq_eq_false_iff_ne.2 h4
  have h1' : (kind == 1) = false := beq_eq_false_iff_ne.2 h1
  by_cases k2 : kind = 2
  · subst k2
    rw [fit2 h]
    obtain ⟨R, hR⟩ : ∃ R, decide (day = 0 ∧ off = 0 ∧ 1 ≤ mon ∧ mon ≤ 12 ∧ 0 ≤ wd ∧ wd ≤ 6 ∧ 1 ≤ nth ∧ nth ≤ 5) = R := ⟨_, rfl⟩
    rw [hR]
    have HR := hideS hR
    clear hR h h1 h4 h1' h4'
    go_enter Tryz.func119, Tryz.ntmps119
    go_wp2_with (first | (go_at_call_of 114 (Value.int IntKind.i64 1900); refine (ia.out _).mono ?_; rintro e w1 ⟨rfl, rfl⟩) | (go_at_call_of 114 (Value.int IntKind.i64 2199); refine (ib.out _).mono ?_; rintro e w1 ⟨rfl, rfl⟩) | (go_at_call_of 114 (Value.int IntKind.i64 2); refine (ic.out _).mono ?_; rintro e w1 ⟨rfl, rfl⟩) | (go_at_call 114; refine (refIn_any _ _ _ _).mono ?_; rintro e w1 ⟨rfl, rfl⟩))
    all_goals
      go_ret
      refine ⟨retB (Eq.trans ?_ HR.out), HB2.out _ _⟩
      first | exact (decide_eq_false (by omega)).symm | (rw [Bool.eq_iff_iff]; simp only [Bool.and_eq_true, decide_eq_true_eq]; omega)
  · by_cases k3 : kind = 3
    · subst k3
      rw [fit3 h]
      obtain ⟨R, hR⟩ : ∃ R, decide (mon = 0 ∧ day = 0 ∧ nth = 0 ∧ wd = 0 ∧ -100 ≤ off ∧ off ≤ 100) = R := ⟨_, rfl⟩
      rw [hR]
      have HR := hideS hR
      clear hR h h1 h4 h1' h4' k2
      go_enter Tryz.func119, Tryz.ntmps119
      go_wp2_with (first | (go_at_call_of 114 (Value.int IntKind.i64 1900); refine (ia.out _).mono ?_; rintro e w1 ⟨rfl, rfl⟩) | (go_at_call_of 114 (Value.int IntKind.i64 2199); refine (ib.out _).mono ?_; rintro e w1 ⟨rfl, rfl⟩) | (go_at_call_of 114 (Value.int IntKind.i64 2); refine (ic.out _).mono ?_; rintro e w1 ⟨rfl, rfl⟩) | (go_at_call 114; refine (refIn_any _ _ _ _).mono ?_; rintro e w1 ⟨rfl, rfl⟩))
      all_goals
        go_ret
        refine ⟨retB (Eq.trans ?_ HR.out), HB2.out _ _⟩
        first | exact (decide_eq_false (by omega)).symm | (rw [Bool.eq_iff_iff]; simp only [Bool.and_eq_true, decide_eq_true_eq]; omega)
    · rw [fit_no h1 k2 k3 h4]
      have k2' : (kind == 2) = false := beq_eq_false_iff_ne.2 k2
      have k3' : (kind == 3) = false := beq_eq_false_iff_ne.2 k3
      clear h h1 h4 k2 k3
      go_enter Tryz.func119, Tryz.ntmps119
      go_wp2_with (first | (go_at_call_of 114 (Value.int IntKind.i64 1900); refine (ia.out _).mono ?_; rintro e w1 ⟨rfl, rfl⟩) | (go_at_call_of 114 (Value.int IntKind.i64 2199); refine (ib.out _).mono ?_; rintro e w1 ⟨rfl, rfl⟩) | (go_at_call_of 114 (Value.int IntKind.i64 2); refine (ic.out _).mono ?_; rintro e w1 ⟨rfl, rfl⟩))
      go_ret
      exact ⟨rfl, HB2.out _ _⟩
end Go.Proofs.YtpcgbcdldkmibaaGreat
