/- Package code: whether an op's fields may be. Package code: whether the fields of the other ops may be. Package code: whether a fixed leg's op may be. Package code: code is measured. Package code: measure, whatever code. Package code: Check and Marks, whatever code. -/
import Derived.Test.YtiiajhomdpfafaaGreatDoorHau
import Derived.Deep.RegionHeld3
import Derived.Lib.MinMax
namespace Go.Proofs.YtiiajhomdpfafaaGreatDoor
open Go.RowKit

def eqO (p q : Opr) : Bool := ((p.kind == q.kind) && ((FloatKind.f64.format.order p.x q.x == some .eq) && ((FloatKind.f64.format.order p.y q.y == some .eq) && ((p.day == q.day) && ((p.to == q.to) && ((p.cur == q.cur) && ((p.count == q.count) && ((p.n == q.n) && ((p.months == q.months) && true)))))))))
def nmA (o : Opr) : Opr := ⟨o.kind, 0, 0, 0, 0, 0, 0, 0, 0⟩
end Go.Proofs.YtiiajhomdpfafaaGreatDoor
namespace Go.Proofs.YtiiajhomdpfafaaGreatDoor
open Go.RowKit

theorem opx_cells {w : World} {g : Nat} {cs : Array Value} {T : TypeId} (h : w.heap[g]? = some (.cells cs T)) (i : Nat) {v : Value} (hv : cs[i]? = some v) : w.cell? ⟨g, i, none⟩ = some v ∧ w.frozen? ⟨g, i, none⟩ = false := by
  refine ⟨?_, by simp [World.frozen?, h]⟩
  simp only [World.cell?, h, Option.isSome_none, Bool.false_eq_true, if_false]
  exact hv
def nm6 (o : Opr) : Opr := ⟨o.kind, 0, 0, o.day, o.to, 0, 0, 0, 0⟩
def nm7 (o : Opr) : Opr := ⟨o.kind, 0, 0, 0, 0, 0, 0, o.n, o.months⟩
def nm2 (o : Opr) : Opr := ⟨o.kind, o.x, 0, o.day, 0, o.cur, 0, 0, 0⟩
def nm5 (o : Opr) : Opr := ⟨o.kind, o.x, 0, 0, 0, 0, 0, 0, 0⟩
end Go.Proofs.YtiiajhomdpfafaaGreatDoor
namespace Go.Proofs.YtiiajhomdpfafaaGreatDoor
open Go.RowKit

def nm3 (o : Opr) : Opr := ⟨o.kind, o.x, o.y, o.day, o.to, o.cur, o.count, o.n, 0⟩
end Go.Proofs.YtiiajhomdpfafaaGreatDoor
namespace Go.Proofs.YtiiajhomdpfafaaGreatDoor
open Go.RowKit

def fitO (o : Opr) : Bool :=
  if o.kind = 1 ∨ o.kind = 4 then eqO o (nmA o) && ((o.x : Int) == (0 : Int)) && ((o.y : Int) == (0 : Int))
  else if o.kind = 2 then (finB o.x && (decide (1 ≤ o.cur) && decide (o.cur ≤ 8)) && (decide (0 ≤ o.day) && decide (o.day ≤ 109572))) && eqO o (nm2 o) && ((o.y : Int) == (0 : Int))
  else if o.kind = 3 then (finB o.x && finB o.y && (decide (1 ≤ o.count) && decide (o.count ≤ 5)) && (decide (0 ≤ o.day) && decide (o.day ≤ 109572)) && (decide (0 ≤ o.to) && decide (o.to ≤ 109572)) && decide (o.day < o.to) && (decide (1 ≤ o.n) && decide (o.n ≤ 1200)) && (decide (1 ≤ o.cur) && decide (o.cur ≤ 8))) && eqO o (nm3 o)
  else if o.kind = 5 then (finB o.x) && eqO o (nm5 o) && ((o.y : Int) == (0 : Int))
  else if o.kind = 6 then ((decide (0 ≤ o.day) && decide (o.day ≤ 109572)) && (decide (0 ≤ o.to) && decide (o.to ≤ 109572))) && eqO o (nm6 o) && ((o.x : Int) == (0 : Int)) && ((o.y : Int) == (0 : Int))
  else if o.kind = 7 then ((decide (1 ≤ o.n) && decide (o.n ≤ 4096)) && (decide (1 ≤ o.months) && decide (o.months ≤ 1200))) && eqO o (nm7 o) && ((o.x : Int) == (0 : Int)) && ((o.y : Int) == (0 : Int))
  else false
def takO (o : Opr) : Bool := decide (4 ≤ o.kind) && decide (o.kind ≤ 7)
def opr0 : Opr := ⟨0, 0, 0, 0, 0, 0, 0, 0, 0⟩
structure OSrc (w : World) (p : Option Addr) (b off : Nat) (l : List Opr) : Prop where
  at_ : 0 < l.length → p = some ⟨b, off, none⟩
  lt : 0 < l.length → b < w.heap.size
  c0 : ∀ i < l.length, w.cell? ⟨b, off + i * 9, none⟩ = some (.int .i64 (l.getD i opr0).kind)
  c1 : ∀ i < l.length, w.cell? ⟨b, off + i * 9 + 1, none⟩ = some (.float .f64 (l.getD i opr0).x)
  c2 : ∀ i < l.length, w.cell? ⟨b, off + i * 9 + 2, none⟩ = some (.float .f64 (l.getD i opr0).y)
  c3 : ∀ i < l.length, w.cell? ⟨b, off + i * 9 + 3, none⟩ = some (.int .i64 (l.getD i opr0).day)
  c4 : ∀ i < l.length, w.cell? ⟨b, off + i * 9 + 4, none⟩ = some (.int .i64 (l.getD i opr0).to)
  c5 : ∀ i < l.length, w.cell? ⟨b, off + i * 9 + 5, none⟩ = some (.int .i64 (l.getD i opr0).cur)
  c6 : ∀ i < l.length, w.cell? ⟨b, off + i * 9 + 6, none⟩ = some (.int .i64 (l.getD i opr0).count)
  c7 : ∀ i < l.length, w.cell? ⟨b, off + i * 9 + 7, none⟩ = some (.int .i64 (l.getD i opr0).n)
  c8 : ∀ i < l.length, w.cell? ⟨b, off + i * 9 + 8, none⟩ = some (.int .i64 (l.getD i opr0).months)
theorem OSrc.below {w w' : World} {p : Option Addr} {b off : Nat} {l : List Opr} (h : OSrc w p b off l) (hb : Below w.heap.size w w') : OSrc w' p b off l := by
  have k : ∀ i, i < l.length → ∀ j, w'.cell? ⟨b, j, none⟩ = w.cell? ⟨b, j, none⟩ := fun i hi j => World.cell?_of_block (w := w) (a := ⟨b, j, none⟩) (hb.block b (h.lt (by omega)))
  exact ⟨h.at_, fun hn => Nat.lt_of_lt_of_le (h.lt hn) hb.size, fun i hi => (k i hi _).trans (h.c0 i hi), fun i hi => (k i hi _).trans (h.c1 i hi), fun i hi => (k i hi _).trans (h.c2 i hi), fun i hi => (k i hi _).trans (h.c3 i hi), fun i hi => (k i hi _).trans (h.c4 i hi), fun i hi => (k i hi _).trans (h.c5 i hi), fun i hi => (k i hi _).trans (h.c6 i hi), fun i hi => (k i hi _).trans (h.c7 i hi), fun i hi => (k i hi _).trans (h.c8 i hi)⟩
def mkN (l : List Opr) : Nat → Int
  | 0 => 0
  | k + 1 => if (l.getD k opr0).kind = 1 then mkN l k + 1 else if takO (l.getD k opr0) then mkN l k - 1 else mkN l k
def moN (l : List Opr) : Nat → Int
  | 0 => 0
  | k + 1 => max (moN l k) (mkN l (k + 1))
def badO (o : Opr) (m : Int) : Int := if fitO o = false ∨ (takO o = true ∧ m = 0) then 180 else if o.kind = 1 ∧ m = 63 then 172 else 0
inductive MeaR (l : List Opr) : Int → Int → Int → Prop
  | long (h : 8192 < l.length) : MeaR l 0 2 0
  | bad (k : Nat) (E : Int) (h : l.length ≤ 8192) (hk : k < l.length) (hp : ∀ i < k, badO (l.getD i opr0) (mkN l i) = 0) (he : badO (l.getD k opr0) (mkN l k) = E) (h0 : E ≠ 0) : MeaR l 0 E k
  | left (h : l.length ≤ 8192) (hp : ∀ i < l.length, badO (l.getD i opr0) (mkN l i) = 0) (hm : 0 < mkN l l.length) : MeaR l 0 180 l.length
  | fine (h : l.length ≤ 8192) (hp : ∀ i < l.length, badO (l.getD i opr0) (mkN l i) = 0) (hm : ¬ 0 < mkN l l.length) : MeaR l (moN l l.length) 0 0
end Go.Proofs.YtiiajhomdpfafaaGreatDoor
namespace Go.Proofs.YtiiajhomdpfafaaGreatDoor
open Go.RowKit

end Go.Proofs.YtiiajhomdpfafaaGreatDoor
namespace Go.Proofs.YtiiajhomdpfafaaGreatDoor
open Go.RowKit

theorem MeaR.unique {l : List Opr} {M E A M' E' A' : Int} (h : MeaR l M E A) (h' : MeaR l M' E' A') : M = M' ∧ E = E' ∧ A = A' := by
  have key : ∀ {k k' : Nat} {E : Int}, (∀ i < k, badO (l.getD i opr0) (mkN l i) = 0) → badO (l.getD k opr0) (mkN l k) = E → E ≠ 0 → (∀ i < k', badO (l.getD i opr0) (mkN l i) = 0) → ¬ k < k' := fun hp he h0 hp' hlt => h0 (he.symm.trans (hp' _ hlt))
  cases h with
  | long h =>
    cases h' with
    | long _ => exact ⟨rfl, rfl, rfl⟩
    | bad k E h2 => omega
    | left h2 => omega
    | fine h2 => omega
  | bad k E h1 hk hp he h0 =>
    cases h' with
    | long h2 => omega
    | bad k' E' h2 hk' hp' he' h0' =>
      have a := key hp he h0 hp'
      have b := key hp' he' h0' hp
      have e : k = k' := by omega
      subst e
      exact ⟨rfl, he.symm.trans he', rfl⟩
    | left h2 hp' hm => exact absurd (he.symm.trans (hp' k hk)) h0
    | fine h2 hp' hm => exact absurd (he.symm.trans (hp' k hk)) h0
  | left h1 hp hm =>
    cases h' with
    | long h2 => omega
    | bad k' E' h2 hk' hp' he' h0' => exact absurd (he'.symm.trans (hp k' hk')) h0'
    | left h2 hp' hm' => exact ⟨rfl, rfl, rfl⟩
    | fine h2 hp' hm' => exact absurd hm hm'
  | fine h1 hp hm =>
    cases h' with
    | long h2 => omega
    | bad k' E' h2 hk' hp' he' h0' => exact absurd (he'.symm.trans (hp k' hk')) h0'
    | left h2 hp' hm' => exact absurd hm' hm
    | fine h2 hp' hm' => exact ⟨rfl, rfl, rfl⟩
end Go.Proofs.YtiiajhomdpfafaaGreatDoor
