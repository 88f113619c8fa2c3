/- The contracts of the almanac's holiday and open. The contracts of the almanac's walk, nearest, nearestOfMonth and count. -/
import Derived.Test.YtcbbbkngjdlcjaaHbf
namespace Go.Proofs.Ytcbbbkngjdlcjaa
open Go.RowKit

theorem MK.base {w wr : World} {A : Nat} {W : Int} {v : Value} {f l : Int} {bm L : Nat} {F : Nat → Bool} (h : MK w A W v f l bm L F wr) : MK wr A W v f l bm L F wr := ⟨h.alm, h.row, Below.refl _ _, h.lt⟩
/-- An almanac of a calendar: nothing is marked, or one year. -/
inductive AlmS (w : World) (A : Nat) (W : Int) (v : Value) (rs : List Rul) : Prop where
  | none : AlmC w A W v 0 (-1) (.slice none 0 0) → AlmS w A W v rs
  | year (Y : Int) (bm L : Nat) : 1900 ≤ Y → Y ≤ 2199 → (L : Int) = nyI (Y + 1) - nyI Y → MK w A W v (nyI Y) (nyI (Y + 1) - 1) bm L (fun i => holB W rs (nyI Y + i) Y) w → AlmS w A W v rs
theorem AlmS.step {w w' : World} {A : Nat} {W : Int} {v : Value} {rs : List Rul} (h : AlmS w A W v rs) (hb : Below w.heap.size w w') : AlmS w' A W v rs := by
  cases h with
  | none h => exact .none (h.below hb h.lt)
  | year Y bm L a b c h => exact .year Y bm L a b c (h.step hb).base
theorem AlmS.lt {w : World} {A : Nat} {W : Int} {v : Value} {rs : List Rul} (h : AlmS w A W v rs) : A < w.heap.size := by
  cases h with
  | none h => exact h.lt
  | year Y bm L a b c h => exact h.alm.lt
theorem below_dN (w : World) (q : Nat) : Below w.heap.size w (w.drewN q) := below_drewN' (Below.refl _ _)
theorem RSrc.low {w w' : World} {p : Option Addr} {b off A : Nat} {rs : List Rul} (h : RSrc w p b off rs) (hb : Below A w w') (hA : 0 < rs.length → b < A) : RSrc w' p b off rs :=
  ⟨h.at_, fun hx => Nat.lt_of_lt_of_le (h.lt hx) hb.size, fun j hj => (h.cell j hj).below hb (hA (by omega))⟩

set_option maxHeartbeats 1600000 in
theorem hol_in (A : Nat) (W n f l : Int) (v : Value) (bm L i0 : Nat) (R : Bool) (F : Nat → Bool) (w : World) (hM : MK w A W v f l bm L F w) (h0 : f ≤ n) (h1 : n ≤ l) (hi : n - f = i0) (hiL : i0 < L) (hR : F i0 = R) (hf : 0 ≤ f) (hl : l ≤ 1000000) :
    Calls Try.prog 76 #[.pointer (some ⟨A, 0, none⟩), .int .i64 n] w fun e w' => e = .returned (.bool R) ∧ ∃ q, w' = w.drewN q := by
  have HBt := hideS (fun wx => between_any n f l wx)
  rw [decide_eq_true ⟨h0, h1⟩] at HBt
  have HM := hideS hM
  have c2 := hM.alm.c2
  have c3 := hM.alm.c3
  have hw0 : IntKind.i64.wrap (n - f) = (i0 : Int) := by rw [IntKind.wrap_i64]; omega
  have hiL' : (i0 : Int) < (L : Int) := by omega
  have HR := hideS hR
  clear hM hR
  go_enter Try.func76, Try.ntmps76
  go_wp2_with fail
  go_quiet ((go_at_call 74; exact Calls.quiet_of_same (HBt.out _)))
  obtain ⟨w1, hw1⟩ : ∃ w1, w1 = w.drewN nq := ⟨_, rfl⟩
  rw [← hw1]
  have HM1 : Hid (MK w A W v f l bm L F w1) := by rw [hw1]; exact HM.out.drewN _
  have HQ := hideS hw1
  clear hw1 c2 c3 HM
  have e2 := HM1.out.alm.c2
  have e4 := HM1.out.alm.c4
  have em := HM1.out.row.cell (i := i0) hiL
  rw [HR.out] at em
  go_wp2_with fail
  go_region
  go_wp2_with fail
  go_ret
  exact ⟨rfl, nq + 1, by rw [HQ.out]; exact World.drewN_drewN _ _ 1⟩

set_option maxHeartbeats 1600000 in
theorem hol_out (A : Nat) (W n f l fst lst : Int) (v mm : Value) (i0 L : Nat) (R : Bool) (F : Nat → Bool) (w : World) (hA : AlmC w A W v f l mm) (hno : ¬ (f ≤ n ∧ n ≤ l))
    (HMk : Hid (∀ w1, Below w.heap.size w w1 → AlmC w1 A W v f l mm → Calls Try.prog 81 #[.pointer (some ⟨A, 0, none⟩), .int .i64 n] w1 fun e w' => e = .returned (.tuple #[]) ∧ ∃ bm, MK w1 A W v fst lst bm L F w'))
    (h0 : fst ≤ n) (h1 : n ≤ lst) (hi : n - fst = i0) (hiL : i0 < L) (hR : F i0 = R) (hf : 0 ≤ fst) (hl : lst ≤ 1000000) :
    Calls Try.prog 76 #[.pointer (some ⟨A, 0, none⟩), .int .i64 n] w fun e w' => e = .returned (.bool R) ∧ ∃ bm, MK w' A W v fst lst bm L F w' ∧ Below A w w' := by
  have HBt := hideS (fun wx => between_any n f l wx)
  rw [decide_eq_false hno] at HBt
  have HA := hideS hA
  have c2 := hA.c2
  have c3 := hA.c3
  have hw0 : IntKind.i64.wrap (n - fst) = (i0 : Int) := by rw [IntKind.wrap_i64]; omega
  have hiL' : (i0 : Int) < (L : Int) := by omega
  have HR := hideS hR
  clear hA hR hno
  go_enter Try.func76, Try.ntmps76
  go_wp2_with fail
  go_quiet ((go_at_call 74; exact Calls.quiet_of_same (HBt.out _)))
  obtain ⟨w1, hw1⟩ : ∃ w1, w1 = w.drewN nq := ⟨_, rfl⟩
  rw [← hw1]
  have HB1 : Hid (Below w.heap.size w w1) := by rw [hw1]; exact below_dN _ _
  have HA1 := hideS (HA.out.below HB1.out HA.out.lt)
  have HBA : Hid (Below A w w1) := HB1.out.mono (Nat.le_of_lt HA.out.lt)
  clear hw1 c2 c3 HA
  go_wp2_with (go_at_call 81; refine (HMk.out _ HB1.out HA1.out).mono ?_; rintro e w2 ⟨rfl, bm, hM⟩)
  have HM1 := hideS hM
  clear hM
  have e2 := HM1.out.alm.c2
  have e4 := HM1.out.alm.c4
  have em := HM1.out.row.cell (i := i0) hiL
  rw [HR.out] at em
  go_region
  go_wp2_with fail
  go_ret
  exact ⟨rfl, bm, (HM1.out.drewN 1).base, HBA.out.trans (HM1.out.drewN 1).low⟩

/-- An almanac, with what it leans on. -/
structure AlmE (A : Nat) (W : Int) (p : Option Addr) (b off c : Nat) (rs : List Rul) (w : World) : Prop where
  ok : OkC W rs
  src : RSrc w p b off rs
  low : 0 < rs.length → b < A
  st : AlmS w A W (.slice p rs.length c) rs
theorem AlmE.step {w w' : World} {A : Nat} {W : Int} {p : Option Addr} {b off c : Nat} {rs : List Rul} (h : AlmE A W p b off c rs w) (hb : Below w.heap.size w w') : AlmE A W p b off c rs w' :=
  ⟨h.ok, h.src.below hb, h.low, h.st.step hb⟩

theorem hol_any (A : Nat) (W n : Int) (p : Option Addr) (b off c : Nat) (rs : List Rul) (w : World) (h : AlmE A W p b off c rs w) (hn : isDayP n) :
    Calls Try.prog 76 #[.pointer (some ⟨A, 0, none⟩), .int .i64 n] w fun e w' => e = .returned (.bool (holB W rs n (yrI n))) ∧ AlmE A W p b off c rs w' ∧ Below A w w' := by
  obtain ⟨y0, y1, n0, n1⟩ := yr_in hn
  obtain ⟨y, m, d, hd⟩ := isD_ex hn.1 hn.2
  have hY := yr_eq hd
  rw [hY] at y0 y1 n0 n1 ⊢
  have hfst : 0 ≤ nyI y := by have := ny_lo y0; omega
  have hlst : nyI (y + 1) - 1 ≤ 1000000 := by have := ny_hi (y := y + 1) (by omega); omega
  have mark : ∀ f l mm, AlmC w A W (.slice p rs.length c) f l mm → ¬ (f ≤ n ∧ n ≤ l) → Calls Try.prog 76 #[.pointer (some ⟨A, 0, none⟩), .int .i64 n] w fun e w' => e = .returned (.bool (holB W rs n y)) ∧ AlmE A W p b off c rs w' ∧ Below A w w' := fun f l mm hC hno => by
    obtain ⟨L, hL⟩ : ∃ L : Nat, (L : Int) = nyI (y + 1) - nyI y := ⟨(nyI (y + 1) - nyI y).toNat, by omega⟩
    refine (hol_out A W n f l (nyI y) (nyI (y + 1) - 1) _ mm (n - nyI y).toNat L _ (fun i => holB W rs (nyI y + i) y) w hC hno (fun w1 hb hC1 => ?_) n0 (by omega) (by omega) (by omega) rfl hfst hlst).mono ?_
    · refine (mark_any A W n y m d p b off c rs f l mm w1 h.ok (h.src.below hb) h.low hC1 hd).mono ?_
      rintro e w' ⟨he, bm, L', hL', hM⟩
      obtain rfl : L' = L := by omega
      exact ⟨he, bm, hM⟩
    · rintro e w' ⟨he, bm, hM, hb⟩
      refine ⟨?_, ⟨h.ok, h.src.low hb h.low, h.low, .year y bm L y0 y1 hL hM⟩, hb⟩
      rw [he, show nyI y + (((n - nyI y).toNat : Nat) : Int) = n by omega]
  rcases h.st with hC | ⟨Y, bm, L, Y0, Y1, hL, hM⟩
  · exact mark _ _ _ hC (fun a => by omega)
  · by_cases hin : nyI Y ≤ n ∧ n ≤ nyI (Y + 1) - 1
    · have hYy : Y = y := by rw [← hY]; exact (yr_of Y0 Y1 hin.1 (by omega)).symm
      subst hYy
      refine (hol_in A W n (nyI Y) (nyI (Y + 1) - 1) _ bm L (n - nyI Y).toNat _ _ w hM n0 (by omega) (by omega) (by omega) rfl hfst hlst).mono ?_
      rintro e w' ⟨he, q, rfl⟩
      refine ⟨?_, h.step (below_dN _ _), (below_dN _ _).mono (Nat.le_of_lt h.st.lt)⟩
      rw [he, show nyI Y + (((n - nyI Y).toNat : Nat) : Int) = n by omega]
    · exact mark _ _ _ hM.alm hin

set_option maxHeartbeats 800000 in
theorem open_any (A : Nat) (W n : Int) (p : Option Addr) (b off c : Nat) (rs : List Rul) (w : World) (h : AlmE A W p b off c rs w) (hn : isDayP n) :
    Calls Try.prog 66 #[.pointer (some ⟨A, 0, none⟩), .int .i64 n] w fun e w' => e = .returned (.bool (opB W rs n)) ∧ AlmE A W p b off c rs w' ∧ Below A w w' := by
  have HW := hideS (fun wx => isWeekend_any W n wx (by have := hn.1; omega) (by have := hn.2; omega))
  have HH := hideS (hol_any A W n p b off c rs w h hn)
  have c0 : w.cell? ⟨A, 0, none⟩ = some (.int .i64 W) := by
    rcases h.st with hC | ⟨Y, bm, L, Y0, Y1, hL, hM⟩
    · exact hC.c0
    · exact hM.alm.c0
  unfold opB
  have HE := hideS h
  clear h hn
  generalize holB W rs n (yrI n) = H at *
  generalize offB W n = F at *
  cases F
  · go_enter Try.func66, Try.ntmps66
    go_wp2_with (first | (go_at_call 75; refine (turnedQ (HW.out _)).mono ?_; rintro e w1 ⟨rfl, rfl⟩) | (go_at_call 76; refine HH.out.mono ?_; rintro e w1 ⟨rfl, hE, hb⟩))
    go_ret
    exact ⟨rfl, hE, hb⟩
  · go_enter Try.func66, Try.ntmps66
    go_wp2_with (go_at_call 75; refine (turnedQ (HW.out _)).mono ?_; rintro e w1 ⟨rfl, rfl⟩)
    go_ret
    exact ⟨rfl, HE.out, Below.refl _ _⟩
end Go.Proofs.Ytcbbbkngjdlcjaa
namespace Go.Proofs.Ytcbbbkngjdlcjaa
open Go.RowKit

theorem srch_out {op : Int → Bool} {x s : Int} (h : ¬ isDayP x) : srch op x s = none :=
  srch_eq (.none 0 (fun j hj => by omega) (by simpa using h))
theorem srch_hit {op : Int → Bool} {x s : Int} (h : isDayP x) (ho : op x = true) : srch op x s = some x := by
  have e : x + s * ((0 : Nat) : Int) = x := by simp
  have := srch_eq (op := op) (n := x) (s := s) (.hit 0 (fun j hj => by omega) (by rw [e]; exact h) (by rw [e]; exact ho))
  rw [e] at this; exact this
theorem srch_shut {op : Int → Bool} {x s : Int} (hs : s = 1 ∨ s = -1) (h : isDayP x) (ho : op x = false) : srch op x s = srch op (x + s) s := by
  have hx0 := h.1
  have hx1 := h.2
  have h2 := srch_is op (x + s) s hs (by omega) (by omega)
  have st : ∀ k : Nat, x + s + s * (k : Int) = x + s * ((k + 1 : Nat) : Int) := fun k => by
    rw [Int.natCast_add, Int.mul_add]; omega
  have lo : ∀ k, (∀ j < k, isDayP (x + s + s * (j : Nat)) ∧ op (x + s + s * (j : Nat)) = false) → ∀ j < k + 1, isDayP (x + s * (j : Nat)) ∧ op (x + s * (j : Nat)) = false := fun k a j hj => by
    cases j with
    | zero => rw [show x + s * ((0 : Nat) : Int) = x by simp]; exact ⟨h, ho⟩
    | succ j => rw [← st]; exact a j (by omega)
  generalize hR : srch op (x + s) s = R at h2
  cases h2 with
  | hit k a b c =>
    refine (srch_eq (.hit (k + 1) (lo k a) (by rw [← st]; exact b) (by rw [← st]; exact c))).trans ?_
    rw [← st]
  | none k a b => exact srch_eq (.none (k + 1) (lo k a) (by rw [← st]; exact b))
theorem addO_out {op : Int → Bool} {x s : Int} {K : Nat} (h : ¬ isDayP x) : addO op s (K + 1) (x - s) = none :=
  addO_none (by rw [show x - s + s = x by omega]; exact srch_out h)
theorem addO_hit {op : Int → Bool} {x s : Int} {K : Nat} (h : isDayP x) (ho : op x = true) : addO op s (K + 1) (x - s) = addO op s K x :=
  addO_some (by rw [show x - s + s = x by omega]; exact srch_hit h ho)
theorem addO_shut {op : Int → Bool} {x s : Int} {K : Nat} (hs : s = 1 ∨ s = -1) (h : isDayP x) (ho : op x = false) : addO op s (K + 1) (x - s) = addO op s (K + 1) x := by
  show (match srch op (x - s + s) s with | none => none | some x => addO op s K x) = (match srch op (x + s) s with | none => none | some x => addO op s K x)
  rw [show x - s + s = x by omega, srch_shut hs h ho]
theorem addO_one (op : Int → Bool) (s n : Int) : addO op s 1 n = srch op (n + s) s := by
  show (match srch op (n + s) s with | none => none | some x => addO op s 0 x) = _
  cases srch op (n + s) s <;> rfl
theorem ans_none : (((none : Option Int).getD 0) = 0) ∧ ansE none = 51 := ⟨rfl, rfl⟩
theorem ans_some (x : Int) : (((some x : Option Int).getD 0) = x) ∧ ansE (some x) = 0 := ⟨rfl, rfl⟩

/-- What the almanac's open tells, whatever it is. -/
def OpH (A : Nat) (op : Int → Bool) (E : World → Prop) : Prop :=
  ∀ x w, isDayP x → E w → Calls Try.prog 66 #[.pointer (some ⟨A, 0, none⟩), .int .i64 x] w fun e w' => e = .returned (.bool (op x)) ∧ E w' ∧ Below A w w'
theorem opH (A : Nat) (W : Int) (p : Option Addr) (b off c : Nat) (rs : List Rul) : OpH A (opB W rs) (AlmE A W p b off c rs) :=
  fun x w hx hE => open_any A W x p b off c rs w hE hx
end Go.Proofs.Ytcbbbkngjdlcjaa
