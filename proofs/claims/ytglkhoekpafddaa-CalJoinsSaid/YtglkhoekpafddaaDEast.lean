/- Easter's steps as whole numbers, and what holds of them in each of the 300 years. -/
import Derived.Test.YtglkhoekpafddaaDPlain
namespace Go.Proofs.Ytglkhoekpafddaa
open Go.RowKit

def eaG (b : Int) : Int := (b - (b + 8) / 25 + 1) / 3
def eaH (y : Int) : Int := (19 * (y % 19) + y / 100 - y / 100 / 4 - eaG (y / 100) + 15) % 30
def eaL (y : Int) : Int := (32 + 2 * (y / 100 % 4) + 2 * (y % 100 / 4) - eaH y - y % 100 % 4) % 7
def eaT (y : Int) : Int := eaH y + eaL y - 7 * ((y % 19 + 11 * eaH y + 22 * eaL y) / 451) + 114
/-- The look at one year. -/
def eaLook (y : Int) : Bool :=
  decide (eaT y / 31 = 3 ∨ eaT y / 31 = 4) && decide (eaT y % 31 + 1 ≤ lenI y (eaT y / 31)) && decide ((dayI y (eaT y / 31) (eaT y % 31 + 1)) % 7 = 6) && decide (dayI y 3 22 ≤ dayI y (eaT y / 31) (eaT y % 31 + 1)) && decide (dayI y (eaT y / 31) (eaT y % 31 + 1) ≤ dayI y 4 25) && decide (eaT y ≤ 200) && decide (0 ≤ eaT y)
theorem ea_all : ∀ i < 20, ∀ j < 15, eaLook (1900 + 15 * ((i : Nat) : Int) + ((j : Nat) : Int)) = true := by decide +kernel
structure EaOk (y : Int) : Prop where
  mon : eaT y / 31 = 3 ∨ eaT y / 31 = 4
  ok : okD y (eaT y / 31) (eaT y % 31 + 1)
  sun : (dayI y (eaT y / 31) (eaT y % 31 + 1)) % 7 = 6
  lo : dayI y 3 22 ≤ dayI y (eaT y / 31) (eaT y % 31 + 1)
  hi : dayI y (eaT y / 31) (eaT y % 31 + 1) ≤ dayI y 4 25
  small : eaT y ≤ 200
  pos : 0 ≤ eaT y
theorem ea_ok {y : Int} (h : 1900 ≤ y) (h' : y ≤ 2199) : EaOk y := by
  have e := ea_all ((y - 1900) / 15).toNat (by omega) ((y - 1900) % 15).toNat (by omega)
  rw [show 1900 + 15 * ((((y - 1900) / 15).toNat : Nat) : Int) + ((((y - 1900) % 15).toNat : Nat) : Int) = y by omega] at e
  unfold eaLook at e
  simp only [Bool.and_eq_true, decide_eq_true_eq] at e
  obtain ⟨⟨⟨⟨⟨⟨a, b⟩, c⟩, d⟩, f⟩, g⟩, i⟩ := e
  refine ⟨a, ?_, c, d, f, g, i⟩
  unfold okD
  exact ⟨h, h', by omega, by omega, by omega, b⟩
end Go.Proofs.Ytglkhoekpafddaa
