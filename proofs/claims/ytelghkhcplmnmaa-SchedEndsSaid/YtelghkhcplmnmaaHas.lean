/- The document's schedules, for any schedule and any calendar. Schedules that come out even; long stubs and short ones: no word of the program. -/
import Derived.Test.YtelghkhcplmnmaaHao
import Derived.Test.YtelghkhcplmnmaaHap
import Derived.Test.YtelghkhcplmnmaaHar
namespace Go.Proofs.Ytelghkhcplmnmaa
open Go.RowKit

theorem srch_day' {op : Int → Bool} {n s x : Int} (hs : s = 1 ∨ s = -1) (hn : isDayP n) (h : srch op n s = some x) : isDayP x := by
  have := srch_is op n s hs (by have := hn.1; omega) (by have := hn.2; omega)
  rw [h] at this
  exact (srch_day this).1
theorem adj_day {op : Int → Bool} {n way x : Int} (hn : isDayP n) (h : adjO op n way = some x) : isDayP x := by
  have hs := step_or way
  unfold adjO at h
  split at h
  · rw [← Option.some.inj h]; exact hn
  · split at h
    · exact srch_day' (by omega) hn h
    · exact srch_day' hs hn h

theorem ref8Check_any (s : Spc) (W A B E : Int) (p : Option Addr) (b off c : Nat) (rs : List Rul) (w : World) (hA : ChkR W rs A B) (h : SpcR s A E) (hs : RSrc w p b off rs) (hl : rs.length ≤ 1000000) :
    Calls Try.prog 25 #[.agg #[.int .i64 s.st, .int .i64 s.en, .int .i64 s.n, .int .i64 s.unit, .int .i64 s.stub, .int .i64 s.roll, .int .i64 s.conv, .int .i64 s.lag, .int .i64 W, .slice p rs.length c]] w fun e w' => e = .returned (.int .i64 E) ∧ Below w.heap.size w w' := by
  cases h with
  | range h => exact ref8Check_range s W _ w h
  | spec h0 h1 h => exact ref8Check_spec s W _ w h0 h1 h
  | cal h => exact ref8Check_cal s W A B _ w h (fun wx hb => refCheck_any W p b off c rs A B wx hA (hs.below hb) hl)

theorem ref8_datH (s : Spc) (W : Int) (p : Option Addr) (b off c : Nat) (rs : List Rul) (w : World) (h : SpcOk s) (hC : OkC W rs) (hs : RSrc w p b off rs) : DatH s W (.slice p rs.length c) w := by
  have := hC.len
  exact ⟨fun wx hb => ref8Check_any s W 0 0 0 p b off c rs wx (.ok hC) (.cal h) (hs.below hb) (by omega), fun a k wx => ref8Point_any s W a k _ wx h⟩

/-- The document's Dates, of a schedule that may not be. -/
theorem ref8Dates_no (s : Spc) (W A B E : Int) (p : Option Addr) (b off c : Nat) (rs : List Rul) (w : World) (hA : ChkR W rs A B) (h : SpcR s A E) (hE : E ≠ 0) (hs : RSrc w p b off rs) (hl : rs.length ≤ 1000000) :
    Calls Try.prog 11 #[.agg #[.int .i64 s.st, .int .i64 s.en, .int .i64 s.n, .int .i64 s.unit, .int .i64 s.stub, .int .i64 s.roll, .int .i64 s.conv, .int .i64 s.lag, .int .i64 W, .slice p rs.length c]] w fun e w' => e = .returned (.tuple #[.slice none 0 0, .int .i64 E]) ∧ Below w.heap.size w w' :=
  ref8Dates_bad s W E _ w hE (fun wx hb => ref8Check_any s W A B E p b off c rs wx hA h (hs.below hb) hl)

/-- The document's Dates, of a schedule that may be. -/
theorem ref8Dates_ok (s : Spc) (W : Int) (K : Nat) (p : Option Addr) (b off c : Nat) (rs : List Rul) (w : World) (h : SpcOk s) (hC : OkC W rs) (hK : DatR s K) (hs : RSrc w p b off rs) :
    Calls Try.prog 11 #[.agg #[.int .i64 s.st, .int .i64 s.en, .int .i64 s.n, .int .i64 s.unit, .int .i64 s.stub, .int .i64 s.roll, .int .i64 s.conv, .int .i64 s.lag, .int .i64 W, .slice p rs.length c]] w fun e w' => DatO s K w e w' ∧ Below w.heap.size w w' :=
  ref8Dates_any s W _ K w h hK (ref8_datH s W p b off c rs w h hC hs)

theorem ref8Periods_no (s : Spc) (W A B E : Int) (p : Option Addr) (b off c : Nat) (rs : List Rul) (w : World) (hA : ChkR W rs A B) (h : SpcR s A E) (hE : E ≠ 0) (hs : RSrc w p b off rs) (hl : rs.length ≤ 1000000) :
    Calls Try.prog 12 #[.agg #[.int .i64 s.st, .int .i64 s.en, .int .i64 s.n, .int .i64 s.unit, .int .i64 s.stub, .int .i64 s.roll, .int .i64 s.conv, .int .i64 s.lag, .int .i64 W, .slice p rs.length c]] w fun e w' => e = .returned (.tuple #[.slice none 0 0, .int .i64 E]) ∧ Below w.heap.size w w' :=
  ref8Periods_bad s W E _ w hE (fun wx hb => ref8Dates_no s W A B E p b off c rs wx hA h hE (hs.below hb) hl)

/-- What Periods tells of a schedule that may be. -/
def PerZ (op : Int → Bool) (s : Spc) (K : Nat) (w : World) (e : Ending) (w' : World) : Prop :=
  (1200 ≤ K ∧ e = .returned (.tuple #[.slice none 0 0, .int .i64 81])) ∨ (K < 1200 ∧ PerOut op s (datL s (cutN s K)) (cutN s K + 1) w e w')

theorem ref8Periods_ok (s : Spc) (W : Int) (K : Nat) (p : Option Addr) (b off c : Nat) (rs : List Rul) (w : World) (h : SpcOk s) (hC : OkC W rs) (hK : DatR s K) (hs : RSrc w p b off rs) :
    Calls Try.prog 12 #[.agg #[.int .i64 s.st, .int .i64 s.en, .int .i64 s.n, .int .i64 s.unit, .int .i64 s.stub, .int .i64 s.roll, .int .i64 s.conv, .int .i64 s.lag, .int .i64 W, .slice p rs.length c]] w fun e w' => PerZ (opB W rs) s K w e w' ∧ Below w.heap.size w w' := by
  by_cases hm : 1200 ≤ K
  · refine (ref8Periods_bad s W 81 _ w (by decide) (fun wx hb => (ref8Dates_ok s W K p b off c rs wx h hC hK (hs.below hb)).mono ?_)).mono ?_
    · rintro e w' ⟨⟨_, he⟩ | ⟨hlt, _⟩, hb'⟩
      · exact ⟨he, hb'⟩
      · omega
    · rintro e w' ⟨he, hb'⟩
      exact ⟨Or.inl ⟨hm, he⟩, hb'⟩
  · have hcu := cut_le s K
    have hlen := dat_len s (cutN s K)
    refine (ref8Periods_go (opB W rs) s W _ (datL s (cutN s K)) (cutN s K + 1) w hlen (by omega) ⟨fun wx hb => ?_, fun j hj wx hb => ?_, fun hl j hj y hy wx hb => ?_⟩).mono ?_
    · refine (ref8Dates_ok s W K p b off c rs wx h hC hK (hs.below hb)).mono ?_
      rintro e w' ⟨⟨h1, _⟩ | ⟨_, v, he, ho⟩, hb'⟩
      · omega
      · exact ⟨⟨v, he, by rw [hlen]; exact ho⟩, hb'⟩
    · exact refAdjust_ok W _ s.conv p b off c rs wx hC (hs.below hb) ⟨h.c1, h.c2⟩ (dat_day h hK hcu (by omega))
    · have l2 := h.l2
      have hd := adj_day (dat_day h hK hcu (by omega)) hy
      have := refAdd_ok W y s.lag p b off c rs wx hC (hs.below hb) hd (by omega) (by omega) (by omega)
      rw [if_neg (by omega), show s.lag.natAbs = s.lag.toNat by omega] at this
      exact this
    · rintro e w' ⟨ho, hb'⟩
      exact ⟨Or.inr ⟨by omega, ho⟩, hb'⟩
end Go.Proofs.Ytelghkhcplmnmaa
namespace Go.Proofs.Ytelghkhcplmnmaa
open Go.RowKit

theorem pt_stub (s : Spc) (x a k : Int) : ptO { s with stub := x } a k = ptO s a k := rfl
theorem pk_stub {s : Spc} {x : Int} (hx : s.stub ≤ 2 ↔ x ≤ 2) (k : Nat) : pkO { s with stub := x } k = pkO s k := by
  unfold pkO ancI sgnI
  rw [pt_stub]
  by_cases h : s.stub ≤ 2
  · have hx' : x ≤ 2 := hx.1 h
    simp only [if_pos h, if_pos hx']
  · have hx' : ¬ x ≤ 2 := fun e => h (hx.2 e)
    simp only [if_neg h, if_neg hx']
theorem out_stub {s : Spc} {x : Int} (hx : s.stub ≤ 2 ↔ x ≤ 2) (o : Option Int) : outB { s with stub := x } o = outB s o := by
  cases o with
  | none => rfl
  | some v =>
    show (if x ≤ 2 then decide (v ≤ s.st) else decide (s.en ≤ v)) = if s.stub ≤ 2 then decide (v ≤ s.st) else decide (s.en ≤ v)
    by_cases h : s.stub ≤ 2
    · rw [if_pos h, if_pos (hx.1 h)]
    · rw [if_neg h, if_neg (fun e => h (hx.2 e))]
theorem dat_stub {s : Spc} {x : Int} {K : Nat} (hx : s.stub ≤ 2 ↔ x ≤ 2) (h : DatR s K) : DatR { s with stub := x } K :=
  ⟨fun j hj => by rw [pk_stub hx, out_stub hx]; exact h.ins j hj, by rw [pk_stub hx, out_stub hx]; exact h.out⟩
theorem spc_stub {s : Spc} {x : Int} (h : SpcOk s) (h1 : 1 ≤ x) (h2 : x ≤ 4) : SpcOk { s with stub := x } :=
  ⟨h.s0, h.e0, h.lt, h.n1, h.n2, h.u1, h.u2, h1, h2, h.r1, h.r2, h.ru, h.c1, h.c2, h.l1, h.l2⟩
/-- A short stub keeps every cut; a long one has at most one less. -/
theorem cut_short {s : Spc} (h : s.stub = 1 ∨ s.stub = 3) (K : Nat) : cutN s K = K := by
  unfold cutN
  rw [if_neg (fun a => by have := a.1; omega)]
theorem cut_near (s : Spc) (K : Nat) : cutN s K = K ∨ cutN s K + 1 = K := by
  unfold cutN
  split <;> omega

/-- The days of an even schedule. -/
structure EvenR (s : Spc) (S : Int) (k : Nat) : Prop where
  step : ∀ j : Int, stepN s j = j * S
  unit : s.unit ≤ 2
  pos : 1 ≤ S
  one : 1 ≤ k
  en : s.en = s.st + k * S
theorem even_of {s : Spc} {S : Int} {k : Nat} (hu : (s.unit = 1 ∧ S = s.n) ∨ (s.unit = 2 ∧ S = 7 * s.n)) (hn : 1 ≤ s.n) (hk : 1 ≤ k) (he : s.en = s.st + k * S) : EvenR s S k := by
  refine ⟨fun j => ?_, by omega, by omega, hk, he⟩
  unfold stepN
  rcases hu with ⟨u, rfl⟩ | ⟨u, rfl⟩
  · rw [if_neg (by omega)]
  · rw [if_pos (Or.inl u), if_pos u, Int.mul_left_comm]
/-- A point on the way. -/
theorem even_pk {s : Spc} {S : Int} {k : Nat} (h : SpcOk s) (hE : EvenR s S k) {j : Nat} (hj : j ≤ k) : pkO s j = some (if s.stub ≤ 2 then s.st + ((k - j : Nat) : Int) * S else s.st + (j : Int) * S) := by
  have h0 := h.s0
  have h1 := h.e0
  have he := hE.en
  have hS := hE.pos
  have hd : ∀ i : Nat, i ≤ k → isDayP (s.st + (i : Int) * S) := fun i hi => by
    have a : 0 ≤ (i : Int) * S := Int.mul_nonneg (by omega) (by omega)
    have b : (i : Int) * S ≤ (k : Int) * S := Int.mul_le_mul_of_nonneg_right (by omega) (by omega)
    have := h0.1
    have := h1.2
    exact ⟨by omega, by omega⟩
  unfold pkO ancI sgnI
  by_cases hs : s.stub ≤ 2
  · rw [if_pos hs, if_pos hs, if_pos hs, pt_days h1 hE.unit, hE.step]
    have e : s.en + (j : Int) * -1 * S = s.st + ((k - j : Nat) : Int) * S := by
      rw [he, show ((k - j : Nat) : Int) = (k : Int) - (j : Int) by omega, Int.sub_mul, Int.mul_neg, Int.mul_one, Int.neg_mul]
      omega
    rw [e, if_pos (hd _ (by omega))]
  · rw [if_neg hs, if_neg hs, if_neg hs, pt_days h0 hE.unit, hE.step, Int.mul_one, if_pos (hd _ hj)]
theorem even_dat {s : Spc} {S : Int} {k : Nat} (h : SpcOk s) (hE : EvenR s S k) : DatR s (k - 1) ∧ cutN s (k - 1) = k - 1 := by
  have hS := hE.pos
  have hk := hE.one
  have he := hE.en
  have end_ : pkO s (k - 1 + 1) = some (othI s) := by
    rw [show k - 1 + 1 = k by omega, even_pk h hE (Nat.le_refl _)]
    unfold othI
    by_cases hs : s.stub ≤ 2
    · rw [if_pos hs, if_pos hs, Nat.sub_self]; simp
    · rw [if_neg hs, if_neg hs, he]
  have hev : evenB s (k - 1) = true := by unfold evenB; rw [end_]; exact beq_self_eq_true _
  refine ⟨⟨fun j hj => ?_, ?_⟩, ?_⟩
  · rw [even_pk h hE (show j + 1 ≤ k by omega)]
    show (if s.stub ≤ 2 then _ else _) = false
    by_cases hs : s.stub ≤ 2
    · rw [if_pos hs, if_pos hs]
      refine decide_eq_false ?_
      have : 0 < ((k - (j + 1) : Nat) : Int) * S := Int.mul_pos (by omega) (by omega)
      omega
    · rw [if_neg hs, if_neg hs]
      refine decide_eq_false ?_
      have : ((j + 1 : Nat) : Int) * S < (k : Int) * S := Int.mul_lt_mul_of_pos_right (by omega) (by omega)
      omega
  · rw [end_]
    show (if s.stub ≤ 2 then _ else _) = true
    unfold othI
    by_cases hs : s.stub ≤ 2
    · rw [if_pos hs, if_pos hs]; exact decide_eq_true (Int.le_refl _)
    · rw [if_neg hs, if_neg hs]; exact decide_eq_true (Int.le_refl _)
  · unfold cutN
    rw [if_neg (fun a => by rw [hev] at a; exact Bool.noConfusion a.2.1)]
/-- All dates of an even schedule. -/
theorem even_list {s : Spc} {S : Int} {k : Nat} (h : SpcOk s) (hE : EvenR s S k) : ∀ i, i ≤ k → (datL s (k - 1)).getD i 0 = s.st + (i : Int) * S := by
  have hk := hE.one
  intro i hi
  cases i with
  | zero => rw [dat_first]; simp
  | succ i =>
    by_cases e : i < k - 1
    · rw [dat_cut e]
      unfold cutI
      by_cases hs : s.stub ≤ 2
      · rw [if_pos hs, even_pk h hE (by omega), if_pos hs, show k - (k - 1 - i) = i + 1 by omega]; rfl
      · rw [if_neg hs, even_pk h hE (by omega), if_neg hs]; rfl
    · obtain rfl : i = k - 1 := by omega
      rw [dat_last, hE.en, show k - 1 + 1 = k by omega]
end Go.Proofs.Ytelghkhcplmnmaa
