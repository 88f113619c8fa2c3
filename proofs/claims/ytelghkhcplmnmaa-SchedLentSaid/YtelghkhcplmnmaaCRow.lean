/- Rows of rules of one's own. -/
import Derived.Test.YtelghkhcplmnmaaHae
import Derived.Test.YtelghkhcplmnmaaRows
import Derived.Laws.AppendOwnNone
import Derived.OwnWalk
import Derived.WalkKit
import Derived.Handy
namespace Go.Proofs.Ytelghkhcplmnmaa
open Go.RowKit

def rulC (r : Rul) : List Value := [.int .i64 r.kind, .int .i64 r.mon, .int .i64 r.day, .int .i64 r.nth, .int .i64 r.wd, .int .i64 r.off, .int .i64 r.fr, .int .i64 r.to, .int .i64 r.mv]
def rowC : List Rul → List Value
  | [] => []
  | r :: l => rulC r ++ rowC l
theorem rowC_len : ∀ l : List Rul, (rowC l).length = l.length * 9
  | [] => rfl
  | r :: l => by rw [rowC, List.length_append, rowC_len l, List.length_cons]; show 9 + _ = _; omega
theorem rowC_append : ∀ a b : List Rul, rowC (a ++ b) = rowC a ++ rowC b
  | [], _ => rfl
  | r :: a, b => by rw [List.cons_append, rowC, rowC, rowC_append a b, List.append_assoc]
theorem rowC_get : ∀ (l : List Rul) (i j : Nat), i < l.length → j < 9 → (rowC l)[i * 9 + j]? = (rulC (l.getD i rul0))[j]?
  | [], i, j, h, _ => by simp at h
  | r :: l, 0, j, _, hj => by
    rw [rowC, Nat.zero_mul, Nat.zero_add, List.getElem?_append_left (by show j < 9; exact hj)]; rfl
  | r :: l, i + 1, j, h, hj => by
    rw [rowC, List.getElem?_append_right (by show 9 ≤ _; omega), show (i + 1) * 9 + j - (rulC r).length = i * 9 + j by show _ - 9 = _; omega, rowC_get l i j (by simpa using h) hj]
    rfl
theorem rowC_one : ∀ (l : List Rul), ∀ u ∈ rowC l, u.oneCell' = true
  | [], u, h => by cases h
  | r :: l, u, h => by
    rw [rowC, List.mem_append] at h
    rcases h with h | h
    · simp only [rulC, List.mem_cons, List.not_mem_nil, or_false] at h
      rcases h with rfl | rfl | rfl | rfl | rfl | rfl | rfl | rfl | rfl <;> rfl
    · exact rowC_one l u h
/-- What an append reads of rules that came in. -/
theorem src_news {w : World} {p : Option Addr} {b off : Nat} {rs : List Rul} (h : RSrc w p b off rs) : ∀ j u, (rowC rs)[j]? = some u → w.cell? ((⟨b, off, none⟩ : Addr).add j) = some u := by
  intro j u hj
  have hlt : j < rs.length * 9 := by
    rw [← rowC_len rs]
    exact (List.getElem?_eq_some_iff.1 hj).1
  have hi : j / 9 < rs.length := by omega
  have e : j / 9 * 9 + j % 9 = j := by omega
  rw [← e, rowC_get rs (j / 9) (j % 9) hi (by omega)] at hj
  have hc := h.cell (j / 9) hi
  rw [Addr.add_lit, show off + j = off + j / 9 * 9 + j % 9 by omega]
  generalize rs.getD (j / 9) rul0 = r at *
  generalize off + j / 9 * 9 = o at *
  have h9 : j % 9 < 9 := by omega
  generalize j % 9 = k at *
  rw [← hj]
  rcases (show k = 0 ∨ k = 1 ∨ k = 2 ∨ k = 3 ∨ k = 4 ∨ k = 5 ∨ k = 6 ∨ k = 7 ∨ k = 8 by omega) with rfl | rfl | rfl | rfl | rfl | rfl | rfl | rfl | rfl
  · exact hc.c0
  · exact hc.c1
  · exact hc.c2
  · exact hc.c3
  · exact hc.c4
  · exact hc.c5
  · exact hc.c6
  · exact hc.c7
  · exact hc.c8
/-- A row of one's own reads as a list of rules. -/
theorem own_src {w : World} {base n : Nat} {v : Value} {rs : List Rul} (h : w.ownsRow base 45 9 v n (rowC rs)) (hn : rs.length = n) :
    ∃ p g c, v = .slice p n c ∧ RSrc w p g 0 rs ∧ base ≤ g ∧ n ≤ c ∧ c ≤ maxLen := by
  rcases h.2 with ⟨rfl, rfl⟩ | ⟨g, cap, cur, rfl, hg, hh, hnc, hcm, hsz, htk⟩
  · refine ⟨none, base, 0, rfl, ⟨fun h => by omega, fun h => by omega, fun i hi => by omega⟩, Nat.le_refl _, Nat.le_refl _, Nat.zero_le _⟩
  · refine ⟨_, g, cap, rfl, ⟨fun _ => rfl, fun _ => (Array.getElem?_eq_some_iff.1 hh).1, fun i hi => ?_⟩, hg, hnc, hcm⟩
    have key : ∀ j < 9, w.cell? ⟨g, 0 + i * 9 + j, none⟩ = (rulC (rs.getD i rul0))[j]? := fun j hj => by
      rw [← rowC_get rs i j hi hj, show 0 + i * 9 + j = i * 9 + j by omega]
      exact World.ownsRow.cellAt h (i * 9 + j) (by omega)
    exact ⟨key 0 (by omega), key 1 (by omega), key 2 (by omega), key 3 (by omega), key 4 (by omega), key 5 (by omega), key 6 (by omega), key 7 (by omega), key 8 (by omega)⟩
theorem info_rule : (Try.prog.info? 45).map (fun i => (i.zero, i.size, i.bytes)) = some (some (.agg #[.int .i64 0, .int .i64 0, .int .i64 0, .int .i64 0, .int .i64 0, .int .i64 0, .int .i64 0, .int .i64 0, .int .i64 0]), 9, 72) := by kernel_rfl
theorem own_nil (w : World) (base : Nat) : w.ownsRow base 45 9 (.slice none 0 0) 0 (rowC []) := ⟨rfl, Or.inl ⟨rfl, rfl⟩⟩
theorem orI_rng {a b : Int} (ha : 0 ≤ a ∧ a ≤ 126) (hb : 0 ≤ b ∧ b ≤ 126) : 0 ≤ bits .or .i64 a b ∧ bits .or .i64 a b ≤ 127 := by
  have e : ∀ x < 127, ∀ y < 127, 0 ≤ bits .or .i64 ((x : Nat) : Int) ((y : Nat) : Int) ∧ bits .or .i64 ((x : Nat) : Int) ((y : Nat) : Int) ≤ 127 := by decide +kernel
  obtain ⟨x, rfl⟩ := Int.eq_ofNat_of_zero_le ha.1
  obtain ⟨y, rfl⟩ := Int.eq_ofNat_of_zero_le hb.1
  exact e x (by omega) y (by omega)
end Go.Proofs.Ytelghkhcplmnmaa
