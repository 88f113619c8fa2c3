/- The contract of the document's Same. -/
import Derived.Test.YtelghkhcplmnmaaCRefK
namespace Go.Proofs.Ytelghkhcplmnmaa
open Go.RowKit

/-- Two calendars' boxes at the call's first two blocks. -/
structure CBox2 (w : World) (W : Int) (v : Value) (W' : Int) (v' : Value) (wr : World) : Prop where
  a0 : wr.cell? ⟨w.heap.size, 0, none⟩ = some (.int .i64 W)
  a1 : wr.cell? ⟨w.heap.size, 1, none⟩ = some v
  b0 : wr.cell? ⟨w.heap.size + 1, 0, none⟩ = some (.int .i64 W')
  b1 : wr.cell? ⟨w.heap.size + 1, 1, none⟩ = some v'
  bl : Below w.heap.size w wr
  sz : w.heap.size + 2 ≤ wr.heap.size
theorem CBox2.first (w : World) (W : Int) (v : Value) (W' : Int) (v' : Value) : CBox2 w W v W' v' ((w.alloc (.cells #[.int .i64 W, v] 24)).alloc (.cells #[.int .i64 W', v'] 24)) := by
  refine ⟨by rw [old_cell _ _ (by simp)]; simp, by rw [old_cell _ _ (by simp)]; simp, new_cell _ _ 0 (by simp), new_cell _ _ 1 (by simp), ((Below.refl w.heap.size w).alloc (Nat.le_refl _) _).alloc (by simp) _, by simp⟩
theorem CBox2.step {w wr w' : World} {W W' : Int} {v v' : Value} (h : CBox2 w W v W' v' wr) (hb : Below wr.heap.size wr w') : CBox2 w W v W' v' w' :=
  ⟨(hb.cell (p := ⟨w.heap.size, 0, none⟩) (by have := h.sz; show w.heap.size < _; omega)).trans h.a0, (hb.cell (p := ⟨w.heap.size, 1, none⟩) (by have := h.sz; show w.heap.size < _; omega)).trans h.a1, (hb.cell (p := ⟨w.heap.size + 1, 0, none⟩) (by have := h.sz; show w.heap.size + 1 < _; omega)).trans h.b0, (hb.cell (p := ⟨w.heap.size + 1, 1, none⟩) (by have := h.sz; show w.heap.size + 1 < _; omega)).trans h.b1, h.bl.trans (hb.mono h.bl.size), Nat.le_trans h.sz hb.size⟩
theorem CBox2.drewN {w wr : World} {W W' : Int} {v v' : Value} (h : CBox2 w W v W' v' wr) (n : Nat) : CBox2 w W v W' v' (wr.drewN n) :=
  ⟨h.a0, h.a1, h.b0, h.b1, below_drewN' h.bl, h.sz⟩
/-- Where two rules part. -/
theorem rul_ne {a b : Rul} (h : a ≠ b) : a.kind ≠ b.kind ∨ (a.kind = b.kind ∧ a.mon ≠ b.mon) ∨ (a.kind = b.kind ∧ a.mon = b.mon ∧ a.day ≠ b.day) ∨ (a.kind = b.kind ∧ a.mon = b.mon ∧ a.day = b.day ∧ a.nth ≠ b.nth) ∨
    (a.kind = b.kind ∧ a.mon = b.mon ∧ a.day = b.day ∧ a.nth = b.nth ∧ a.wd ≠ b.wd) ∨ (a.kind = b.kind ∧ a.mon = b.mon ∧ a.day = b.day ∧ a.nth = b.nth ∧ a.wd = b.wd ∧ a.off ≠ b.off) ∨
    (a.kind = b.kind ∧ a.mon = b.mon ∧ a.day = b.day ∧ a.nth = b.nth ∧ a.wd = b.wd ∧ a.off = b.off ∧ a.fr ≠ b.fr) ∨ (a.kind = b.kind ∧ a.mon = b.mon ∧ a.day = b.day ∧ a.nth = b.nth ∧ a.wd = b.wd ∧ a.off = b.off ∧ a.fr = b.fr ∧ a.to ≠ b.to) ∨
    (a.kind = b.kind ∧ a.mon = b.mon ∧ a.day = b.day ∧ a.nth = b.nth ∧ a.wd = b.wd ∧ a.off = b.off ∧ a.fr = b.fr ∧ a.to = b.to ∧ a.mv ≠ b.mv) := by
  obtain ⟨k, m, d, n, w, o, f, t, v⟩ := a
  obtain ⟨k', m', d', n', w', o', f', t', v'⟩ := b
  dsimp only at *
  by_cases e : k = k'
  · subst e
    by_cases e : m = m'
    · subst e
      by_cases e : d = d'
      · subst e
        by_cases e : n = n'
        · subst e
          by_cases e : w = w'
          · subst e
            by_cases e : o = o'
            · subst e
              by_cases e : f = f'
              · subst e
                by_cases e : t = t'
                · subst e
                  by_cases e : v = v'
                  · subst e
                    exact absurd rfl h
                  · exact Or.inr (Or.inr (Or.inr (Or.inr (Or.inr (Or.inr (Or.inr (Or.inr ⟨rfl, rfl, rfl, rfl, rfl, rfl, rfl, rfl, e⟩)))))))
                · exact Or.inr (Or.inr (Or.inr (Or.inr (Or.inr (Or.inr (Or.inr (Or.inl ⟨rfl, rfl, rfl, rfl, rfl, rfl, rfl, e⟩)))))))
              · exact Or.inr (Or.inr (Or.inr (Or.inr (Or.inr (Or.inr (Or.inl ⟨rfl, rfl, rfl, rfl, rfl, rfl, e⟩))))))
            · exact Or.inr (Or.inr (Or.inr (Or.inr (Or.inr (Or.inl ⟨rfl, rfl, rfl, rfl, rfl, e⟩)))))
          · exact Or.inr (Or.inr (Or.inr (Or.inr (Or.inl ⟨rfl, rfl, rfl, rfl, e⟩))))
        · exact Or.inr (Or.inr (Or.inr (Or.inl ⟨rfl, rfl, rfl, e⟩)))
      · exact Or.inr (Or.inr (Or.inl ⟨rfl, rfl, e⟩))
    · exact Or.inr (Or.inl ⟨rfl, e⟩)
  · exact Or.inl e
