/- Exp and Ln of program and document as plain functions over what may be a NaN; the document's steps likewise. -/
import Derived.Test.YtbkmbdbjeiffpaaWFnExps
import Derived.Test.YtbkmbdbjeiffpaaWFnLns
import Derived.Test.YtbkmbdbjeiffpaaHat
import Derived.Test.YtbkmbdbjeiffpaaRaRCD
import Derived.Test.YtbkmbdbjeiffpaaHbb
namespace Go.Proofs.Ytbkmbdbjeiffpaa
open Go.RowKit

theorem same_nan {a b : Int} (h : sameB a b = true) (hb : nanB b = true) : nanB a = true := by
  unfold sameB at h
  rw [Bool.or_eq_true] at h
  rcases h with h | h
  · rw [of_decide_eq_true h]; exact hb
  · exact (Bool.and_eq_true_iff.1 h).1

/-- What Exp tells of a word. -/
structure ExpR (x : Nat) (o : Option Nat) : Prop where
  prog : ∀ w, Calls Try.prog 60 #[.float .f64 x] w fun e w' => ∃ y, e = .returned (.float .f64 y) ∧ (Ag o y ∧ y < 18446744073709551616) ∧ Below w.heap.size w w'
  doc : Stp1 29 (x : Int) (cn o)
  nan : nanB (x : Int) = true → o = none
  num : nanB (x : Int) = false → ∃ y, o = some y ∧ y ≤ 9218868437227405312
theorem exp_ex (x : Nat) : ∃ o, x < 18446744073709551616 → ExpR x o := by
  by_cases h : x < 18446744073709551616
  · obtain ⟨y, z, hb, h1, h2⟩ := exp_bothP x (x : Int) rfl (u64_of_nat h)
    have hy : y < 18446744073709551616 := by have := hb.uy.2; omega
    cases hn : nanB (x : Int) with
    | true =>
      have hz := h1 hn
      have hny : nanB (y : Int) = true := same_nan hb.same (by rw [hz]; decide)
      exact ⟨none, fun _ => ⟨fun w => (hb.prog w).mono fun _ _ ⟨a, b⟩ => ⟨y, a, ⟨⟨hny, hy⟩, hy⟩, b⟩, fun w => (hb.doc w).mono fun _ _ ⟨a, b⟩ => ⟨by rw [a, hz]; rfl, b⟩, fun _ => rfl, fun a => by rw [hn] at a; cases a⟩⟩
    | false =>
      obtain ⟨h3, h4⟩ := h2 hn
      exact ⟨some y, fun _ => ⟨fun w => (hb.prog w).mono fun _ _ ⟨a, b⟩ => ⟨y, a, ⟨rfl, hy⟩, b⟩, fun w => (hb.doc w).mono fun _ _ ⟨a, b⟩ => ⟨by rw [a, h4]; rfl, b⟩, fun a => (by rw [hn] at a; cases a), fun _ => ⟨y, rfl, h3⟩⟩⟩
  · exact ⟨none, fun a => absurd a h⟩
noncomputable def expF (x : Nat) : Option Nat := Classical.choose (exp_ex x)
theorem expF_says {x : Nat} (h : x < 18446744073709551616) : ExpR x (expF x) := Classical.choose_spec (exp_ex x) h
noncomputable def expO (o : Option Nat) : Option Nat := o.bind expF
theorem expO_ag {o : Option Nat} {x : Nat} (h : Ag o x) (hx : x < 18446744073709551616) : expO o = expF x := by
  cases o with
  | none => rw [(expF_says hx).nan (ag_none h).1]; rfl
  | some r => rw [ag_some h]; rfl

/-- What Ln tells of a word. -/
structure LnR (x : Nat) (o : Option Nat) : Prop where
  prog : ∀ w, Calls Try.prog 61 #[.float .f64 x] w fun e w' => ∃ y, e = .returned (.float .f64 y) ∧ (Ag o y ∧ y < 18446744073709551616) ∧ Below w.heap.size w w'
  doc : Stp1 31 (x : Int) (cn o)
  lt : cn o < 18446744073709551616
  nan : nanB (x : Int) = true → o = none
  fin : NumB x → sB x = false → x % 9223372036854775808 ≠ 0 → ∃ y, o = some y ∧ NumB y
theorem ln_ex (x : Nat) : ∃ o, x < 18446744073709551616 → LnR x o := by
  by_cases h : x < 18446744073709551616
  · obtain ⟨o, hb⟩ := ln_bothO x (x : Int) rfl (u64_of_nat h)
    refine ⟨o, fun _ => ⟨fun w => (hb.prog w).mono ?_, hb.doc, hb.lt, hb.nan, hb.fin⟩⟩
    rintro _ w' ⟨y, rfl, hag, hbb⟩
    exact ⟨y, rfl, ⟨hag, ag_lt hag fun q hq => by have := hb.lt; rw [hq, cn_some] at this; exact this⟩, hbb⟩
  · exact ⟨none, fun a => absurd a h⟩
noncomputable def lnF (x : Nat) : Option Nat := Classical.choose (ln_ex x)
theorem lnF_says {x : Nat} (h : x < 18446744073709551616) : LnR x (lnF x) := Classical.choose_spec (ln_ex x) h
noncomputable def lnO1 (o : Option Nat) : Option Nat := o.bind lnF
theorem lnO1_ag {o : Option Nat} {x : Nat} (h : Ag o x) (hx : x < 18446744073709551616) : lnO1 o = lnF x := by
  cases o with
  | none => rw [(lnF_says hx).nan (ag_none h).1]; rfl
  | some r => rw [ag_some h]; rfl

/-- A word of 64 bits that is what o tells. -/
def AgU (o : Option Nat) (x : Nat) : Prop := Ag o x ∧ x < 18446744073709551616
theorem agU_some {x : Nat} (h : x < 18446744073709551616) : AgU (some x) x := ⟨rfl, h⟩
theorem AgU.u {o : Option Nat} {x : Nat} (h : AgU o x) : U64 (x : Int) := u64_of_nat h.2
/-- The sign turned. -/
def negO (o : Option Nat) : Option Nat := o.map flipN
theorem flip_nan {x : Nat} (h : x < 18446744073709551616) : nanB (flipN x : Int) = nanB (x : Int) := by
  obtain ⟨_, h2, _⟩ := flip_parts h
  unfold nanB
  rw [szI_nat, szI_nat, h2]
theorem negO_ag {o : Option Nat} {x : Nat} (h : AgU o x) : AgU (negO o) (flipN x) := by
  refine ⟨?_, (flip_parts h.2).1⟩
  cases o with
  | none => exact ⟨by rw [flip_nan h.2]; exact (ag_none h.1).1, (flip_parts h.2).1⟩
  | some r => rw [ag_some h.1]; exact rfl
theorem neg_flip {x : Nat} (h : x < 18446744073709551616) : Op.negFloat .f64 x = flipN x := (show Op.negFloat .f64 x = x ^^^ 9223372036854775808 from rfl).trans (flip_bits h)

theorem mul_doc {o o' : Option Nat} {x y : Nat} (h : AgU o x) (h' : AgU o' y) : ∃ z : Nat, Stp2 26 x y z ∧ AgU (opO .mul o o') z :=
  ⟨cn (floatBits .mul .f64 x y), fun w => refMul_any x y x y w rfl rfl h.u h'.u, by rw [opO_ag h.1 h'.1]; exact ag_cn _, cn_lt (by simp) _ _⟩
theorem add_doc {o o' : Option Nat} {x y : Nat} (h : AgU o x) (h' : AgU o' y) : ∃ z : Nat, Stp2 25 x y z ∧ AgU (opO .add o o') z :=
  ⟨cn (floatBits .add .f64 x y), fun w => refAdd_any x y x y w rfl rfl h.u h'.u, by rw [opO_ag h.1 h'.1]; exact ag_cn _, cn_lt (by simp) _ _⟩
theorem sub_doc {o o' : Option Nat} {x y : Nat} (h : AgU o x) (h' : AgU o' y) : ∃ z : Nat, Stp2 36 x y z ∧ AgU (opO .sub o o') z :=
  ⟨cn (floatBits .sub .f64 x y), fun w => refSub_any x y x y w rfl rfl h.u h'.u, by rw [opO_ag h.1 h'.1]; exact ag_cn _, cn_lt (by simp) _ _⟩
theorem div_doc {o o' : Option Nat} {x y : Nat} (h : AgU o x) (h' : AgU o' y) : ∃ z : Nat, Stp2 28 x y z ∧ AgU (opO .quo o o') z :=
  ⟨cn (floatBits .quo .f64 x y), fun w => refDiv_any x y x y w rfl rfl h.u h'.u, by rw [opO_ag h.1 h'.1]; exact ag_cn _, cn_lt (by simp) _ _⟩
theorem flip_doc {o : Option Nat} {x : Nat} (h : AgU o x) : ∃ z : Nat, Stp1 30 x z ∧ AgU (negO o) z :=
  ⟨flipN x, fun w => (refFlip_at x x (flipN x) w rfl h.u rfl).mono fun _ _ ⟨a, b⟩ => ⟨a, by rw [← b]; exact Below.refl _ _⟩, negO_ag h⟩
theorem exp_doc {o : Option Nat} {x : Nat} (h : AgU o x) : ∃ z : Nat, Stp1 29 x z ∧ AgU (expO o) z := by
  have hs := expF_says h.2
  refine ⟨cn (expF x), hs.doc, ?_, ?_⟩
  · rw [expO_ag h.1 h.2]; exact ag_cn _
  · cases hn : nanB (x : Int) with
    | true => rw [hs.nan hn, cn_none]; omega
    | false =>
      obtain ⟨y, e, hy⟩ := hs.num hn
      rw [e, cn_some]; omega
theorem ln_doc {o : Option Nat} {x : Nat} (h : AgU o x) : ∃ z : Nat, Stp1 31 x z ∧ AgU (lnO1 o) z := by
  have hs := lnF_says h.2
  exact ⟨cn (lnF x), hs.doc, by rw [lnO1_ag h.1 h.2]; exact ag_cn _, hs.lt⟩

theorem exp_prog {o : Option Nat} {x : Nat} (h : AgU o x) (w : World) : Calls Try.prog 60 #[.float .f64 x] w fun e w' => ∃ y, e = .returned (.float .f64 y) ∧ AgU (expO o) y ∧ Below w.heap.size w w' := by
  rw [expO_ag h.1 h.2]; exact (expF_says h.2).prog w
theorem ln_prog {o : Option Nat} {x : Nat} (h : AgU o x) (w : World) : Calls Try.prog 61 #[.float .f64 x] w fun e w' => ∃ y, e = .returned (.float .f64 y) ∧ AgU (lnO1 o) y ∧ Below w.heap.size w w' := by
  rw [lnO1_ag h.1 h.2]; exact (lnF_says h.2).prog w
/-- A program's step. -/
theorem op_prog (op : BinOp) (ho : op = .add ∨ op = .sub ∨ op = .mul ∨ op = .quo) (t : TypeId) {o o' : Option Nat} {x y : Nat} (h : AgU o x) (h' : AgU o' y) (w : World) : ∃ r, (∃ q, (binOp op t (.float .f64 x) (.float .f64 y)).run Try.prog w = .ok (.float .f64 r) (w.drewN q)) ∧ AgU (opO op o o') r := by
  obtain ⟨r, hr, g⟩ := run_op_ag op ho t x y w
  rw [← opO_ag h.1 h'.1] at g
  refine ⟨r, hr, g, ?_⟩
  cases e : opO op o o' with
  | none => rw [e] at g; exact (ag_none g).2
  | some q => rw [e] at g; rw [ag_some g]; rw [opO_ag h.1 h'.1] at e; exact float_lt ho e
/-- What Exp tells is not below 0. -/
def UpO (o : Option Nat) : Prop := ∀ r, o = some r → nanB (r : Int) = false ∧ 0 ≤ rankI (r : Int) ∧ r < 18446744073709551616
theorem up_of {r : Nat} (h : r ≤ 9218868437227405312) : nanB (r : Int) = false ∧ 0 ≤ rankI (r : Int) ∧ r < 18446744073709551616 := by
  obtain ⟨a, b, c⟩ := rk_pos h
  exact ⟨c, by rw [a]; omega, b⟩
theorem exp_up (o : Option Nat) (h : ∀ r, o = some r → r < 18446744073709551616) : UpO (expO o) := by
  intro r hr
  cases o with
  | none => cases hr
  | some x =>
    have hs := expF_says (h x rfl)
    cases hn : nanB (x : Int) with
    | true =>
      have e : expF x = some r := hr
      rw [hs.nan hn] at e; cases e
    | false =>
      obtain ⟨y, e, hy⟩ := hs.num hn
      have e2 : expF x = some r := hr
      rw [e] at e2
      obtain rfl := Option.some.inj e2
      exact up_of hy
end Go.Proofs.Ytbkmbdbjeiffpaa
