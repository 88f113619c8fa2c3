/- The contract of the document's fit of an HFix rule, and of Check. -/
import Derived.Test.YtglkhoekpafddabCRefD
namespace Go.Proofs.Ytglkhoekpafddab
open Go.RowKit

theorem below_drewN' {B : Nat} {w w2 : World} {n : Nat} (hb : Below B w w2) : Below B w (w2.drewN n) := ⟨hb.os, hb.tape, hb.output, hb.size, hb.block⟩
def mostL : Array Value := #[.int .i64 0, .int .i64 31, .int .i64 29, .int .i64 31, .int .i64 30, .int .i64 31, .int .i64 30, .int .i64 31, .int .i64 31, .int .i64 30, .int .i64 31, .int .i64 30, .int .i64 31]
theorem old_cell {w : World} (o : Obj) (p : Addr) (h : p.block < w.heap.size) : (w.alloc o).cell? p = w.cell? p := ((Below.refl _ w).alloc (Nat.le_refl _) o).cell h
theorem new_cell {w : World} {v : Value} (cs : Array Value) (t : TypeId) (k : Nat) (h : cs[k]? = some v) {o : Obj} : ((w.alloc o).alloc (.cells cs t)).cell? ⟨w.heap.size + 1, k, none⟩ = some v := by
  rw [show w.heap.size + 1 = (w.alloc o).heap.size by simp]
  simp [h]
theorem new_cell0 (W : World) (cs : Array Value) (t : TypeId) (k : Nat) : (W.alloc (.cells cs t)).cell? ⟨W.heap.size, k, none⟩ = cs[k]? := by simp
theorem new_cell2 {w : World} {v : Option Value} (cs : Array Value) (t : TypeId) (o o' : Obj) {k : Nat} (h : cs[k]? = v) : (((w.alloc o).alloc o').alloc (.cells cs t)).cell? ⟨w.heap.size + 1 + 1, k, none⟩ = v := by
  have e := new_cell0 ((w.alloc o).alloc o') cs t k
  rw [show ((w.alloc o).alloc o').heap.size = w.heap.size + 1 + 1 by simp] at e
  rw [e, h]
theorem three_boxes (w : World) (kind mon day nth wd off fr to mv : Int) : ∃ wq,
    ((w.alloc (.cells #[.int .i64 kind, .int .i64 mon, .int .i64 day, .int .i64 nth, .int .i64 wd, .int .i64 off, .int .i64 fr, .int .i64 to, .int .i64 mv] 42)).alloc (.cells #[.int .i64 kind, .int .i64 mon, .int .i64 day, .int .i64 0, .int .i64 0, .int .i64 0, .int .i64 fr, .int .i64 to, .int .i64 mv] 42)).alloc (.cells #[.int .i64 0, .int .i64 31, .int .i64 29, .int .i64 31, .int .i64 30, .int .i64 31, .int .i64 30, .int .i64 31, .int .i64 31, .int .i64 30, .int .i64 31, .int .i64 30, .int .i64 31] 3) = wq ∧
    Hid (Below w.heap.size w wq) ∧
    wq.cell? ⟨w.heap.size, 0, none⟩ = some (.int .i64 kind) ∧ wq.cell? ⟨w.heap.size, 1, none⟩ = some (.int .i64 mon) ∧ wq.cell? ⟨w.heap.size, 2, none⟩ = some (.int .i64 day) ∧ wq.cell? ⟨w.heap.size, 3, none⟩ = some (.int .i64 nth) ∧ wq.cell? ⟨w.heap.size, 4, none⟩ = some (.int .i64 wd) ∧ wq.cell? ⟨w.heap.size, 5, none⟩ = some (.int .i64 off) ∧ wq.cell? ⟨w.heap.size, 6, none⟩ = some (.int .i64 fr) ∧ wq.cell? ⟨w.heap.size, 7, none⟩ = some (.int .i64 to) ∧ wq.cell? ⟨w.heap.size, 8, none⟩ = some (.int .i64 mv) ∧
    wq.cell? ⟨w.heap.size + 1, 0, none⟩ = some (.int .i64 kind) ∧ wq.cell? ⟨w.heap.size + 1, 1, none⟩ = some (.int .i64 mon) ∧ wq.cell? ⟨w.heap.size + 1, 2, none⟩ = some (.int .i64 day) ∧ wq.cell? ⟨w.heap.size + 1, 3, none⟩ = some (.int .i64 0) ∧ wq.cell? ⟨w.heap.size + 1, 4, none⟩ = some (.int .i64 0) ∧ wq.cell? ⟨w.heap.size + 1, 5, none⟩ = some (.int .i64 0) ∧ wq.cell? ⟨w.heap.size + 1, 6, none⟩ = some (.int .i64 fr) ∧ wq.cell? ⟨w.heap.size + 1, 7, none⟩ = some (.int .i64 to) ∧ wq.cell? ⟨w.heap.size + 1, 8, none⟩ = some (.int .i64 mv) ∧
    Hid (∀ k < 13, wq.cell? ⟨w.heap.size + 1 + 1, k, none⟩ = mostL[k]?) := by
  refine ⟨_, rfl, (((Below.refl w.heap.size w).alloc (Nat.le_refl _) _).alloc (by simp) _).alloc (by simp; omega) _, ?_⟩
  refine ⟨by rw [old_cell _ _ (by simp; omega), old_cell _ _ (by simp)]; simp, by rw [old_cell _ _ (by simp; omega), old_cell _ _ (by simp)]; simp, by rw [old_cell _ _ (by simp; omega), old_cell _ _ (by simp)]; simp, by rw [old_cell _ _ (by simp; omega), old_cell _ _ (by simp)]; simp, by rw [old_cell _ _ (by simp; omega), old_cell _ _ (by simp)]; simp, by rw [old_cell _ _ (by simp; omega), old_cell _ _ (by simp)]; simp, by rw [old_cell _ _ (by simp; omega), old_cell _ _ (by simp)]; simp, by rw [old_cell _ _ (by simp; omega), old_cell _ _ (by simp)]; simp, by rw [old_cell _ _ (by simp; omega), old_cell _ _ (by simp)]; simp, by rw [old_cell _ _ (by simp)]; exact new_cell _ _ 0 (by simp), by rw [old_cell _ _ (by simp)]; exact new_cell _ _ 1 (by simp), by rw [old_cell _ _ (by simp)]; exact new_cell _ _ 2 (by simp), by rw [old_cell _ _ (by simp)]; exact new_cell _ _ 3 (by simp), by rw [old_cell _ _ (by simp)]; exact new_cell _ _ 4 (by simp), by rw [old_cell _ _ (by simp)]; exact new_cell _ _ 5 (by simp), by rw [old_cell _ _ (by simp)]; exact new_cell _ _ 6 (by simp), by rw [old_cell _ _ (by simp)]; exact new_cell _ _ 7 (by simp), by rw [old_cell _ _ (by simp)]; exact new_cell _ _ 8 (by simp), fun k hk => ?_⟩
  rcases (show k = 0 ∨ k = 1 ∨ k = 2 ∨ k = 3 ∨ k = 4 ∨ k = 5 ∨ k = 6 ∨ k = 7 ∨ k = 8 ∨ k = 9 ∨ k = 10 ∨ k = 11 ∨ k = 12 by omega) with rfl | rfl | rfl | rfl | rfl | rfl | rfl | rfl | rfl | rfl | rfl | rfl | rfl <;> exact new_cell2 _ _ _ _ (by simp [mostL])

theorem most_at {m : Int} (h1 : 1 ≤ m) (h2 : m ≤ 12) : mostL[m.toNat]? = some (.int .i64 (mostI m)) := by
  rcases month_cases h1 h2 with rfl | rfl | rfl | rfl | rfl | rfl | rfl | rfl | rfl | rfl | rfl | rfl <;> rfl
