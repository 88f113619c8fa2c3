/- The contracts of the document's off, moved and nth. -/
import Derived.Test.YtglkhoekpafddabCPlain
import Derived.Test.YtglkhoekpafddabDRefCiv
import Derived.Test.YtglkhoekpafddabDNamed
import Derived.Laws.BitsAllLaws
import Derived.Laws.Bits64b
namespace Go.Proofs.Ytglkhoekpafddab
open Go.RowKit

theorem and_one (n : Int) : bits .and .i64 n 1 = n % 2 := by
  have h1 : (BitVec.ofInt 64 1).toNat = 2 ^ 1 - 1 := by decide
  have key : (BitVec.ofInt 64 n &&& BitVec.ofInt 64 1).toNat = (n % ((2 ^ 64 : Nat) : Int)).toNat % 2 ^ 1 := by
    rw [BitVec.toNat_and, BitVec.toNat_ofInt, h1, Nat.and_two_pow_sub_one_eq_mod]
  show IntKind.i64.wrap ((BitVec.ofInt 64 n &&& BitVec.ofInt 64 1).toNat : Nat) = n % 2
  rw [key, IntKind.wrap_i64]
  omega
theorem tmod7 (n : Int) : ∃ a, n.tmod 7 = a ∧ -6 ≤ a ∧ a ≤ 6 ∧ (a + 7) % 7 = n % 7 := by
  rcases Int.le_total 0 n with h | h
  · exact ⟨n % 7, Int.tmod_eq_emod_of_nonneg h, by omega, by omega, by omega⟩
  · refine ⟨-((-n) % 7), ?_, by omega, by omega, by omega⟩
    have e := Int.neg_tmod (-n) 7
    rw [Int.neg_neg] at e
    rw [e, Int.tmod_eq_emod_of_nonneg (by omega)]

def calV (W : Int) (v : Value) : Value := .agg #[.int .i64 W, v]

theorem cal_cells {w w1 : World} {W : Int} {v : Value} (hb : Below (w.heap.size + 1) (w.alloc (.cells #[.int .i64 W, v] 24)) w1) :
    w1.cell? ⟨w.heap.size, 0, none⟩ = some (.int .i64 W) ∧ w1.cell? ⟨w.heap.size, 1, none⟩ = some v := by
  refine ⟨?_, ?_⟩
  · rw [hb.cell (p := ⟨w.heap.size, 0, none⟩) (by simp)]; simp
  · rw [hb.cell (p := ⟨w.heap.size, 1, none⟩) (by simp)]; simp

/-- A box with a calendar in it stands at the call's first block. -/
def CBox (w : World) (W : Int) (v : Value) (wr : World) : Prop := Below (w.heap.size + 1) (w.alloc (.cells #[.int .i64 W, v] 24)) wr
theorem CBox.step {w wr w' : World} {W : Int} {v : Value} (h : CBox w W v wr) (hb : Below wr.heap.size wr w') : CBox w W v w' :=
  h.trans (hb.mono (by have := h.size; simp at this; omega))
theorem CBox.below {w wr : World} {W : Int} {v : Value} (h : CBox w W v wr) : Below w.heap.size w wr :=
  ((Below.refl w.heap.size w).alloc (Nat.le_refl _) _).trans (h.mono (by omega))
theorem CBox.first {w w' : World} {W : Int} {v : Value} (hb : Below (w.alloc (.cells #[.int .i64 W, v] 24)).heap.size (w.alloc (.cells #[.int .i64 W, v] 24)) w') : CBox w W v w' :=
  hb.mono (by simp)
theorem mov_cases {n mv : Int} {u d : Nat} {R : Int} (h : (if mv = 2 ∧ (d : Int) < u then n - d else n + u) = R) : (mv = 2 ∧ (d : Int) < u ∧ n - d = R) ∨ (mv = 2 ∧ ¬ (d : Int) < u ∧ n + u = R) ∨ (mv ≠ 2 ∧ n + u = R) := by
  by_cases a : mv = 2
  · by_cases b : (d : Int) < u
    · rw [if_pos ⟨a, b⟩] at h; exact Or.inl ⟨a, b, h⟩
    · rw [if_neg (fun c => b c.2)] at h; exact Or.inr (Or.inl ⟨a, b, h⟩)
  · rw [if_neg (fun c => a c.1)] at h; exact Or.inr (Or.inr ⟨a, h⟩)
