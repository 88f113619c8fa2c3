/- What IeeeSorts has made ahead of its loops, and what is left behind the first. -/
import Derived.Test.YtkmhfjklldhfjaaSSort
import Derived.Test.YtkmhfjklldhfjaaAwake
namespace Go.Proofs.Ytkmhfjklldhfjaa
open Go.RowKit

/-- What is written over a row of one's own: the row, and nothing else. -/
structure Sev (B : Nat) (W wr : World) (v : Value) (n : Nat) : Prop where
  ex : ∃ ys : List Nat, ys.length = n ∧ wr.ownsRow B 23 1 v n (ys.map fV)
  gr : W.grownBy wr v.ownBlock
theorem grown_refl (W : World) (r : Option Nat) : W.grownBy W r := ⟨rfl, rfl, rfl, Nat.le_refl _, fun _ _ _ => rfl⟩
theorem grown_trans {a b c : World} {r : Option Nat} (h : a.grownBy b r) (h' : b.grownBy c r) : a.grownBy c r :=
  ⟨h'.os.trans h.os, h'.tape.trans h.tape, h'.output.trans h.output, Nat.le_trans h.size h'.size, fun k hk hne => (h'.block k (Nat.lt_of_lt_of_le hk h.size) hne).trans (h.block k hk hne)⟩
theorem Sev.start {B n : Nat} {W : World} {v : Value} {xs : List Nat} (h : OwnF W B 23 fV v xs) (hn : xs.length = n) : Sev B W W v n := ⟨⟨xs, hn, by rw [← hn]; exact h.own⟩, grown_refl _ _⟩
theorem Sev.step {B g n c k x : Nat} {W wr : World} (h : Sev B W wr (.slice (some ⟨g, 0, none⟩) n c) n) : Sev B W (wr.setCell ⟨g, k, none⟩ (.float .f64 x)) (.slice (some ⟨g, 0, none⟩) n c) n := by
  obtain ⟨ys, hl, ho⟩ := h.ex
  have h2 := World.ownsRow.stored ho k (.float .f64 x)
  refine ⟨⟨ys.set k x, by simpa using hl, ?_⟩, grown_trans h.gr h2.2⟩
  rw [List.map_set]; exact h2.1
theorem Sev.here {B g n c k : Nat} {W wr : World} (h : Sev B W wr (.slice (some ⟨g, 0, none⟩) n c) n) (hk : k < n) : ∃ z : Value, wr.cell? ⟨g, k, none⟩ = some z ∧ wr.frozen? ⟨g, k, none⟩ = false := by
  obtain ⟨ys, hl, ho⟩ := h.ex
  refine ⟨fV (ys.getD k 0), ?_, World.ownsRow.frozenAt ho k⟩
  rw [World.ownsRow.cellAt ho k (by omega), List.getElem?_map, getD_some (by omega)]; rfl
theorem OwnF.kept {W wr : World} {B t : Nat} {f : Nat → Value} {v : Value} {xs : List Nat} {row : Option Nat} (h : OwnF W B t f v xs) (hg : W.grownBy wr row) (hne : ∀ k, v.ownBlock = some k → row ≠ some k) : OwnF wr B t f v xs := by
  refine ⟨World.ownsRow.kept h.own hg ?_⟩
  cases e : v.ownBlock with
  | none => exact Or.inl rfl
  | some k => exact Or.inr (fun h2 => hne k e h2.symm)
theorem OwnF.drewN {W : World} {B t : Nat} {f : Nat → Value} {v : Value} {xs : List Nat} (h : OwnF W B t f v xs) (n : Nat) : OwnF (W.drewN n) B t f v xs := ⟨h.own⟩
theorem fit_of {xs os : List Nat} (h : Fit xs) (hp : os.Perm xs) : Fit os := h.perm hp

/-- All that the law has made ahead of its loops. -/
structure Made (w W : World) (p : Option Addr) (b off : Nat) (xs sa sb sw : List Nat) (v1 va vb vw : Value) (N1 N2 N3 : Nat) : Prop where
  src : Src W p b off xs
  bl : Below w.heap.size w W
  o1 : OwnF W w.heap.size 31 uV v1 xs
  oa : OwnF W N1 23 fV va sa
  ob : OwnF W N2 23 fV vb sb
  ow : OwnF W N3 31 uV vw sw
  l1 : ∀ k, v1.ownBlock = some k → k < N1
  la : ∀ k, va.ownBlock = some k → N1 ≤ k ∧ k < N2
  lb : ∀ k, vb.ownBlock = some k → N2 ≤ k
  lw : ∀ k, vw.ownBlock = some k → N3 ≤ k
  n1 : w.heap.size ≤ N1
  n2 : N1 ≤ N2
  n3 : N2 ≤ N3
  n4 : N3 ≤ W.heap.size
theorem Made.drewN {w W : World} {p : Option Addr} {b off N1 N2 N3 : Nat} {xs sa sb sw : List Nat} {v1 va vb vw : Value} (h : Made w W p b off xs sa sb sw v1 va vb vw N1 N2 N3) (n : Nat) : Made w (W.drewN n) p b off xs sa sb sw v1 va vb vw N1 N2 N3 :=
  ⟨⟨h.src.at_, h.src.lt, h.src.cell⟩, below_drewS h.bl n, h.o1.drewN n, h.oa.drewN n, h.ob.drewN n, h.ow.drewN n, h.l1, h.la, h.lb, h.lw, h.n1, h.n2, h.n3, h.n4⟩
/-- Behind the first loop: what is asked later. -/
structure Left (w W : World) (p : Option Addr) (b off : Nat) (xs sb sw : List Nat) (v1 vb vw : Value) (N2 N3 : Nat) : Prop where
  src : Src W p b off xs
  bl : Below w.heap.size w W
  o1 : OwnF W w.heap.size 31 uV v1 xs
  ob : OwnF W N2 23 fV vb sb
  ow : OwnF W N3 31 uV vw sw
theorem Left.drewN {w W : World} {p : Option Addr} {b off N2 N3 : Nat} {xs sb sw : List Nat} {v1 vb vw : Value} (h : Left w W p b off xs sb sw v1 vb vw N2 N3) (n : Nat) : Left w (W.drewN n) p b off xs sb sw v1 vb vw N2 N3 :=
  ⟨⟨h.src.at_, h.src.lt, h.src.cell⟩, below_drewS h.bl n, h.o1.drewN n, h.ob.drewN n, h.ow.drewN n⟩
theorem Made.left {w W wr : World} {p : Option Addr} {b off N1 N2 N3 : Nat} {xs sa sb sw : List Nat} {v1 va vb vw : Value} (h : Made w W p b off xs sa sb sw v1 va vb vw N1 N2 N3) (hlt : 0 < xs.length → b < w.heap.size) (hg : W.grownBy wr va.ownBlock) :
    Left w wr p b off xs sb sw v1 vb vw N2 N3 := by
  have n1 := h.n1; have n2 := h.n2; have n3 := h.n3; have n4 := h.n4
  have hbl : Below w.heap.size w wr := h.bl.grown hg (by omega) (fun k hk => by have := h.la k hk; omega)
  refine ⟨⟨h.src.at_, fun h0 => Nat.lt_of_lt_of_le (h.src.lt h0) hg.size, fun j hj => ?_⟩, hbl, h.o1.kept hg ?_, h.ob.kept hg ?_, h.ow.kept hg ?_⟩
  · refine hg.cell (h.src.cell j hj) (fun e => ?_)
    have := h.la b e.symm
    have := hlt (by omega)
    omega
  · intro k h1 h2; have := h.l1 k h1; have := h.la k h2; omega
  · intro k h1 h2; have := h.lb k h1; have := h.la k h2; omega
  · intro k h1 h2; have := h.lw k h1; have := h.la k h2; omega

end Go.Proofs.Ytkmhfjklldhfjaa
