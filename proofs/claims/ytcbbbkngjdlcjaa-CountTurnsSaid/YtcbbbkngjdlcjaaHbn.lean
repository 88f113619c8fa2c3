/- The contract of the document's Fraction. The document's Fraction where it refuses, and turned round. -/
import Derived.Test.YtcbbbkngjdlcjaaHbj
import Derived.Test.YtcbbbkngjdlcjaaHbm
namespace Go.Proofs.Ytcbbbkngjdlcjaa
open Go.RowKit

noncomputable def moD (n : Int) : Int := moI n - 12 * yrI n
noncomputable def daD (n : Int) : Int := n - nyI (yrI n) - cumI (yrI n) (moD n) + 1
theorem date_of {n y m d : Int} (h : IsD n y m d) : yrI n = y ∧ moD n = m ∧ daD n = d := by
  have e1 := yr_eq h
  have e2 : moD n = m := by unfold moD; rw [mo_eq h, e1]; omega
  refine ⟨e1, e2, ?_⟩
  unfold daD
  rw [e1, e2]
  have := h.2
  unfold dayI at this
  omega
/-- The fraction's two numbers, of a up to b. -/
noncomputable def fracP (op : Int → Bool) (kind a b : Int) : Int :=
  if kind = 1 ∨ kind = 2 then b - a else if kind = 3 then accI (yrI b) b - accI (yrI a) a else if kind = 6 then (cntN op a (b - a).toNat : Nat) else thirI kind (yrI a) (moD a) (daD a) (yrI b) (moD b) (daD b)
def fracQ (kind : Int) : Int := if kind = 2 then 365 else if kind = 3 then 133590 else if kind = 6 then 252 else 360

/-- Fraction's boxes: the calendar's and the result's. -/
structure PBox (w : World) (W : Int) (v : Value) (wr : World) : Prop where
  a0 : wr.cell? ⟨w.heap.size, 0, none⟩ = some (.int .i64 W)
  a1 : wr.cell? ⟨w.heap.size, 1, none⟩ = some v
  d0 : wr.cell? ⟨w.heap.size + 1, 0, none⟩ = some (.int .i64 0)
  d1 : wr.cell? ⟨w.heap.size + 1, 1, none⟩ = some (.int .i64 0)
  f0 : wr.frozen? ⟨w.heap.size + 1, 0, none⟩ = false
  f1 : wr.frozen? ⟨w.heap.size + 1, 1, none⟩ = false
  bl : Below w.heap.size w wr
  sz : w.heap.size + 2 ≤ wr.heap.size
theorem PBox.first (w : World) (W : Int) (v : Value) : PBox w W v ((w.alloc (.cells #[.int .i64 W, v] 24)).alloc (.cells #[.int .i64 0, .int .i64 0] 31)) := by
  have fr : ∀ k, ((w.alloc (.cells #[.int .i64 W, v] 24)).alloc (.cells #[.int .i64 0, .int .i64 0] 31)).frozen? ⟨w.heap.size + 1, k, none⟩ = false := fun k => by
    rw [show w.heap.size + 1 = (w.alloc (.cells #[.int .i64 W, v] 24)).heap.size by simp]
    exact World.frozen?_alloc_new _ _ _ _
  exact ⟨by rw [old_cell _ _ (by simp)]; simp, by rw [old_cell _ _ (by simp)]; simp, new_cell _ _ 0 (by simp), new_cell _ _ 1 (by simp), fr 0, fr 1, ((Below.refl w.heap.size w).alloc (Nat.le_refl _) _).alloc (by simp) _, by simp⟩
theorem PBox.step {w wr w' : World} {W : Int} {v : Value} (h : PBox w W v wr) (hb : Below wr.heap.size wr w') : PBox w W v w' := by
  have hz := h.sz
  have c : ∀ k < w.heap.size + 2, ∀ j, w'.cell? ⟨k, j, none⟩ = wr.cell? ⟨k, j, none⟩ := fun k hk j => hb.cell (p := ⟨k, j, none⟩) (by show k < _; omega)
  have f : ∀ k < w.heap.size + 2, ∀ j, w'.frozen? ⟨k, j, none⟩ = wr.frozen? ⟨k, j, none⟩ := fun k hk j => hb.frozen (p := ⟨k, j, none⟩) (by show k < _; omega)
  exact ⟨(c _ (by omega) _).trans h.a0, (c _ (by omega) _).trans h.a1, (c _ (by omega) _).trans h.d0, (c _ (by omega) _).trans h.d1, (f _ (by omega) _).trans h.f0, (f _ (by omega) _).trans h.f1, h.bl.trans (hb.mono h.bl.size), Nat.le_trans h.sz hb.size⟩
theorem put2P {w : World} {b : Nat} {x y u v : Value} (d0 : w.cell? ⟨b, 0, none⟩ = some u) (d1 : w.cell? ⟨b, 1, none⟩ = some v) :
    ((w.setCell ⟨b, 0, none⟩ x).setCell ⟨b, 1, none⟩ y).cell? ⟨b, 0, none⟩ = some x ∧ ((w.setCell ⟨b, 0, none⟩ x).setCell ⟨b, 1, none⟩ y).cell? ⟨b, 1, none⟩ = some y := by
  constructor
  · simp [d0, go_sem]
  · simp [d1, go_sem]
theorem put2P_below {w w1 : World} {x y : Value} (h : Below w.heap.size w w1) : Below w.heap.size w ((w1.setCell ⟨w.heap.size + 1, 0, none⟩ x).setCell ⟨w.heap.size + 1, 1, none⟩ y) :=
  (h.setCell (p := ⟨w.heap.size + 1, 0, none⟩) (by show w.heap.size ≤ w.heap.size + 1; omega) x).setCell (p := ⟨w.heap.size + 1, 1, none⟩) (by show w.heap.size ≤ w.heap.size + 1; omega) y

theorem frac_ret0 {w : World} {W x y : Int} {v : Value} : ((w.alloc (.cells #[.int .i64 W, v] 24)).alloc (.cells #[.int .i64 x, .int .i64 y] 31)).cell? ⟨w.heap.size + 1, 0, none⟩ = some (.int .i64 x) ∧ ((w.alloc (.cells #[.int .i64 W, v] 24)).alloc (.cells #[.int .i64 x, .int .i64 y] 31)).cell? ⟨w.heap.size + 1, 1, none⟩ = some (.int .i64 y) ∧ Below w.heap.size w ((w.alloc (.cells #[.int .i64 W, v] 24)).alloc (.cells #[.int .i64 x, .int .i64 y] 31)) :=
  ⟨new_cell _ _ 0 (by simp), new_cell _ _ 1 (by simp), ((Below.refl w.heap.size w).alloc (Nat.le_refl _) _).alloc (by simp) _⟩

set_option maxHeartbeats 1600000 in
theorem refFrac_plain (kind W a b : Int) (v : Value) (w : World) (hk : kind = 1 ∨ kind = 2) (ha : isDayP a) (hb : isDayP b) (hab : a ≤ b) :
    Calls Try.prog 11 #[.int .i64 kind, .agg #[.int .i64 W, v], .int .i64 a, .int .i64 b] w fun e w' => e = .returned (.tuple #[.agg #[.int .i64 (b - a), .int .i64 (fracQ kind)], .int .i64 0]) ∧ Below w.heap.size w w' := by
  obtain ⟨a0, a1⟩ := ha
  obtain ⟨b0, b1⟩ := hb
  rcases hk with rfl | rfl
  · obtain ⟨x0, x1, hB⟩ := frac_ret0 (w := w) (W := W) (x := b - a) (y := 360) (v := v)
    have HX := hideS (And.intro x0 x1)
    have HB := hideS hB
    clear x0 x1 hB
    go_enter Try.func11, Try.ntmps11
    go_wp2_with fail
    obtain ⟨x0, x1⟩ := HX.out
    exact bodyPost_ret (v := .tuple #[.agg #[.int .i64 (b - a), .int .i64 360], .int .i64 0]) (by simp [results, Try.results11, go_sem, x0, x1]) rfl ⟨rfl, HB.out⟩
  · obtain ⟨x0, x1, hB⟩ := frac_ret0 (w := w) (W := W) (x := b - a) (y := 365) (v := v)
    have HX := hideS (And.intro x0 x1)
    have HB := hideS hB
    clear x0 x1 hB
    go_enter Try.func11, Try.ntmps11
    go_wp2_with fail
    obtain ⟨x0, x1⟩ := HX.out
    exact bodyPost_ret (v := .tuple #[.agg #[.int .i64 (b - a), .int .i64 365], .int .i64 0]) (by simp [results, Try.results11, go_sem, x0, x1]) rfl ⟨rfl, HB.out⟩

set_option maxHeartbeats 1600000 in
theorem refFrac_call (kind W a b : Int) (v : Value) (w : World) (hk : kind = 3 ∨ kind = 4 ∨ kind = 5) (ha : isDayP a) (hb : isDayP b) (hab : a ≤ b) (op : Int → Bool) :
    Calls Try.prog 11 #[.int .i64 kind, .agg #[.int .i64 W, v], .int .i64 a, .int .i64 b] w fun e w' => e = .returned (.tuple #[.agg #[.int .i64 (fracP op kind a b), .int .i64 (fracQ kind)], .int .i64 0]) ∧ Below w.heap.size w w' := by
  obtain ⟨ya, ma, da, hA⟩ := isD_ex ha.1 ha.2
  obtain ⟨yb, mb, db, hB⟩ := isD_ex hb.1 hb.2
  obtain ⟨e1, e2, e3⟩ := date_of hA
  obtain ⟨f1, f2, f3⟩ := date_of hB
  have HAc := hideS (fun wx => refActual_any a b ya ma da yb mb db wx hA hB hab)
  have HTh := hideS (fun wx => refThirty_any kind a b ya ma da yb mb db wx hA hB)
  obtain ⟨a0, a1⟩ := ha
  obtain ⟨b0, b1⟩ := hb
  have HB0 := hideS (PBox.first w W v)
  unfold fracP fracQ
  rw [e1, e2, e3, f1, f2, f3]
  clear hA hB e1 e2 e3 f1 f2 f3
  rcases hk with rfl | rfl | rfl
  · rw [if_neg (by omega), if_pos rfl, if_neg (by omega), if_pos rfl]
    generalize accI yb b - accI ya a = P at *
    go_enter Try.func11, Try.ntmps11
    go_wp2_with fail
    refine (HAc.out _).mono ?_
    rintro e w1 ⟨rfl, hb1⟩
    have HB1 := hideS (HB0.out.step hb1)
    clear hb1
    obtain ⟨_, _, d0, d1, f0, f1, _, _⟩ := HB1.out
    go_wp2_with fail
    obtain ⟨x0, x1⟩ := put2P (x := .int .i64 P) (y := .int .i64 133590) d0 d1
    exact bodyPost_ret (v := .tuple #[.agg #[.int .i64 P, .int .i64 133590], .int .i64 0]) (by simp [results, Try.results11, go_sem, x0, x1]) rfl ⟨rfl, put2P_below HB1.out.bl⟩
  · rw [if_neg (by omega), if_neg (by omega), if_neg (by omega), if_neg (by omega), if_neg (by omega), if_neg (by omega)]
    generalize thirI 4 ya ma da yb mb db = P at *
    go_enter Try.func11, Try.ntmps11
    go_wp2_with fail
    refine (HTh.out _).mono ?_
    rintro e w1 ⟨rfl, hb1⟩
    have HB1 := hideS (HB0.out.step hb1)
    clear hb1
    obtain ⟨_, _, d0, d1, f0, f1, _, _⟩ := HB1.out
    go_wp2_with fail
    obtain ⟨x0, x1⟩ := put2P (x := .int .i64 P) (y := .int .i64 360) d0 d1
    exact bodyPost_ret (v := .tuple #[.agg #[.int .i64 P, .int .i64 360], .int .i64 0]) (by simp [results, Try.results11, go_sem, x0, x1]) rfl ⟨rfl, put2P_below HB1.out.bl⟩
  · rw [if_neg (by omega), if_neg (by omega), if_neg (by omega), if_neg (by omega), if_neg (by omega), if_neg (by omega)]
    generalize thirI 5 ya ma da yb mb db = P at *
    go_enter Try.func11, Try.ntmps11
    go_wp2_with fail
    refine (HTh.out _).mono ?_
    rintro e w1 ⟨rfl, hb1⟩
    have HB1 := hideS (HB0.out.step hb1)
    clear hb1
    obtain ⟨_, _, d0, d1, f0, f1, _, _⟩ := HB1.out
    go_wp2_with fail
    obtain ⟨x0, x1⟩ := put2P (x := .int .i64 P) (y := .int .i64 360) d0 d1
    exact bodyPost_ret (v := .tuple #[.agg #[.int .i64 P, .int .i64 360], .int .i64 0]) (by simp [results, Try.results11, go_sem, x0, x1]) rfl ⟨rfl, put2P_below HB1.out.bl⟩

set_option maxHeartbeats 1600000 in
theorem refFrac_open (W a b : Int) (p : Option Addr) (bb off c : Nat) (rs : List Rul) (w : World) (h : OkC W rs) (hs : RSrc w p bb off rs) (ha : isDayP a) (hb : isDayP b) (hab : a ≤ b) :
    Calls Try.prog 11 #[.int .i64 6, .agg #[.int .i64 W, .slice p rs.length c], .int .i64 a, .int .i64 b] w fun e w' => e = .returned (.tuple #[.agg #[.int .i64 (fracP (opB W rs) 6 a b), .int .i64 (fracQ 6)], .int .i64 0]) ∧ Below w.heap.size w w' := by
  have HC : Hid (∀ wx, Below w.heap.size w wx → Calls Try.prog 16 #[.agg #[.int .i64 W, .slice p rs.length c]] wx fun e w' => e = .returned (.tuple #[.int .i64 0, .int .i64 0]) ∧ Below wx.heap.size wx w') := fun wx hbx => refCheck_any W p bb off c rs 0 0 wx (.ok h) (hs.below hbx) (by have := h.len; omega)
  have HCt : Hid (∀ wx, Below w.heap.size w wx → Calls Try.prog 18 #[.agg #[.int .i64 W, .slice p rs.length c], .int .i64 a, .int .i64 b] wx fun e w' => e = .returned (.tuple #[.int .i64 (cntN (opB W rs) a (b - a).toNat : Nat), .int .i64 0]) ∧ Below wx.heap.size wx w') := fun wx hbx => refCount_up W a b p bb off c rs wx h (hs.below hbx) ha hb hab
  obtain ⟨a0, a1⟩ := ha
  obtain ⟨b0, b1⟩ := hb
  clear h hs
  unfold fracP fracQ
  rw [if_neg (by omega), if_neg (by omega), if_pos rfl, if_neg (by omega), if_neg (by omega), if_pos rfl]
  generalize ((cntN (opB W rs) a (b - a).toNat : Nat) : Int) = P at *
  generalize rs.length = N at *
  have HB0 := hideS (PBox.first w W (.slice p N c))
  go_enter Try.func11, Try.ntmps11
  go_wp2_with fail
  refine (HC.out _ HB0.out.bl).mono ?_
  rintro e w1 ⟨rfl, hb1⟩
  have HB1 := hideS (HB0.out.step hb1)
  clear hb1
  have g0 := HB1.out.a0
  have g1 := HB1.out.a1
  go_wp2_with fail
  refine (HCt.out _ HB1.out.bl).mono ?_
  rintro e w2 ⟨rfl, hb2⟩
  have HB2 := hideS (HB1.out.step hb2)
  clear hb2 g0 g1
  obtain ⟨_, _, d0, d1, f0, f1, _, _⟩ := HB2.out
  go_wp2_with fail
  obtain ⟨x0, x1⟩ := put2P (x := .int .i64 P) (y := .int .i64 252) d0 d1
  exact bodyPost_ret (v := .tuple #[.agg #[.int .i64 P, .int .i64 252], .int .i64 0]) (by simp [results, Try.results11, go_sem, x0, x1]) rfl ⟨rfl, put2P_below HB2.out.bl⟩
end Go.Proofs.Ytcbbbkngjdlcjaa
namespace Go.Proofs.Ytcbbbkngjdlcjaa
open Go.RowKit

set_option maxHeartbeats 1600000 in
theorem refFrac_kind (kind W a b : Int) (v : Value) (w : World) (hk : ¬ (1 ≤ kind ∧ kind ≤ 6)) :
    Calls Try.prog 11 #[.int .i64 kind, .agg #[.int .i64 W, v], .int .i64 a, .int .i64 b] w fun e w' => e = .returned (.tuple #[.agg #[.int .i64 0, .int .i64 0], .int .i64 70]) ∧ Below w.heap.size w w' := by
  obtain ⟨x0, x1, hB⟩ := frac_ret0 (w := w) (W := W) (x := 0) (y := 0) (v := v)
  have HX := hideS (And.intro x0 x1)
  have HB := hideS hB
  clear x0 x1 hB
  by_cases h1 : kind < 1
  · clear hk
    go_enter Try.func11, Try.ntmps11
    go_wp2_with fail
    obtain ⟨x0, x1⟩ := HX.out
    exact bodyPost_ret (v := .tuple #[.agg #[.int .i64 0, .int .i64 0], .int .i64 70]) (by simp [results, Try.results11, go_sem, x0, x1]) rfl ⟨rfl, HB.out⟩
  · have h2 : 6 < kind := by omega
    clear hk
    go_enter Try.func11, Try.ntmps11
    go_wp2_with fail
    obtain ⟨x0, x1⟩ := HX.out
    exact bodyPost_ret (v := .tuple #[.agg #[.int .i64 0, .int .i64 0], .int .i64 70]) (by simp [results, Try.results11, go_sem, x0, x1]) rfl ⟨rfl, HB.out⟩

set_option maxHeartbeats 1600000 in
theorem refFrac_chk (W a b A B : Int) (p : Option Addr) (bb off c : Nat) (rs : List Rul) (w : World) (h : ChkR W rs A B) (hA : A ≠ 0) (hs : RSrc w p bb off rs) (hl : rs.length ≤ 1000000) :
    Calls Try.prog 11 #[.int .i64 6, .agg #[.int .i64 W, .slice p rs.length c], .int .i64 a, .int .i64 b] w fun e w' => e = .returned (.tuple #[.agg #[.int .i64 0, .int .i64 0], .int .i64 A]) ∧ Below w.heap.size w w' := by
  have HC : Hid (∀ wx, Below w.heap.size w wx → Calls Try.prog 16 #[.agg #[.int .i64 W, .slice p rs.length c]] wx fun e w' => e = .returned (.tuple #[.int .i64 A, .int .i64 B]) ∧ Below wx.heap.size wx w') := fun wx hbx => refCheck_any W p bb off c rs A B wx h (hs.below hbx) hl
  have hA' : A = 2 ∨ A = 60 := by cases h <;> simp_all
  clear h hs hl
  generalize rs.length = N at *
  have HB0 := hideS (PBox.first w W (.slice p N c))
  have ha0 : 0 < A := by omega
  have ha1 : A ≤ 100 := by omega
  clear hA'
  go_enter Try.func11, Try.ntmps11
  go_wp2_with fail
  refine (HC.out _ HB0.out.bl).mono ?_
  rintro e w1 ⟨rfl, hb1⟩
  have HB1 := hideS (HB0.out.step hb1)
  clear hb1
  obtain ⟨_, _, d0, d1, f0, f1, _, _⟩ := HB1.out
  go_wp2_with fail
  obtain ⟨x0, x1⟩ := put2P (x := .int .i64 0) (y := .int .i64 0) d0 d1
  exact bodyPost_ret (v := .tuple #[.agg #[.int .i64 0, .int .i64 0], .int .i64 A]) (by simp [results, Try.results11, go_sem, x0, x1]) rfl ⟨rfl, put2P_below HB1.out.bl⟩

def badD (a b : Int) : Prop := ¬ (isDayP a ∧ isDayP b)
theorem badD_cases {a b : Int} (h : badD a b) : a < 0 ∨ (0 ≤ a ∧ 109572 < a) ∨ (0 ≤ a ∧ a ≤ 109572 ∧ b < 0) ∨ (0 ≤ a ∧ a ≤ 109572 ∧ 0 ≤ b ∧ 109572 < b) := by
  unfold badD isDayP at h
  omega
set_option maxHeartbeats 3200000 in
theorem refFrac_day (kind W a b : Int) (v : Value) (w : World) (hk : 1 ≤ kind) (hk' : kind ≤ 5) (h : badD a b) :
    Calls Try.prog 11 #[.int .i64 kind, .agg #[.int .i64 W, v], .int .i64 a, .int .i64 b] w fun e w' => e = .returned (.tuple #[.agg #[.int .i64 0, .int .i64 0], .int .i64 51]) ∧ Below w.heap.size w w' := by
  obtain ⟨x0, x1, hB⟩ := frac_ret0 (w := w) (W := W) (x := 0) (y := 0) (v := v)
  have HX := hideS (And.intro x0 x1)
  have HB := hideS hB
  clear x0 x1 hB
  rcases badD_cases h with h1 | ⟨h0, h1⟩ | ⟨h0, h1, h2⟩ | ⟨h0, h1, h2, h3⟩
  all_goals
    clear h
    go_enter Try.func11, Try.ntmps11
    go_wp2_with fail
    obtain ⟨x0, x1⟩ := HX.out
    exact bodyPost_ret (v := .tuple #[.agg #[.int .i64 0, .int .i64 0], .int .i64 51]) (by simp [results, Try.results11, go_sem, x0, x1]) rfl ⟨rfl, HB.out⟩
set_option maxHeartbeats 3200000 in
theorem refFrac_day6 (W a b : Int) (p : Option Addr) (bb off c : Nat) (rs : List Rul) (w : World) (h : OkC W rs) (hs : RSrc w p bb off rs) (hd : badD a b) :
    Calls Try.prog 11 #[.int .i64 6, .agg #[.int .i64 W, .slice p rs.length c], .int .i64 a, .int .i64 b] w fun e w' => e = .returned (.tuple #[.agg #[.int .i64 0, .int .i64 0], .int .i64 51]) ∧ Below w.heap.size w w' := by
  have HC : Hid (∀ wx, Below w.heap.size w wx → Calls Try.prog 16 #[.agg #[.int .i64 W, .slice p rs.length c]] wx fun e w' => e = .returned (.tuple #[.int .i64 0, .int .i64 0]) ∧ Below wx.heap.size wx w') := fun wx hbx => refCheck_any W p bb off c rs 0 0 wx (.ok h) (hs.below hbx) (by have := h.len; omega)
  clear h hs
  generalize rs.length = N at *
  have HB0 := hideS (PBox.first w W (.slice p N c))
  rcases badD_cases hd with h1 | ⟨h0, h1⟩ | ⟨h0, h1, h2⟩ | ⟨h0, h1, h2, h3⟩
  all_goals
    clear hd
    go_enter Try.func11, Try.ntmps11
    go_wp2_with fail
    refine (HC.out _ HB0.out.bl).mono ?_
    rintro e w1 ⟨rfl, hb1⟩
    have HB1 := hideS (HB0.out.step hb1)
    clear hb1
    obtain ⟨_, _, d0, d1, f0, f1, _, _⟩ := HB1.out
    go_wp2_with fail
    obtain ⟨x0, x1⟩ := put2P (x := .int .i64 0) (y := .int .i64 0) d0 d1
    exact bodyPost_ret (v := .tuple #[.agg #[.int .i64 0, .int .i64 0], .int .i64 51]) (by simp [results, Try.results11, go_sem, x0, x1]) rfl ⟨rfl, put2P_below HB1.out.bl⟩
end Go.Proofs.Ytcbbbkngjdlcjaa
