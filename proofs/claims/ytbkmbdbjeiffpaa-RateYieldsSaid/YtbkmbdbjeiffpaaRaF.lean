/- The contracts of package rate's compound and formulasOf. -/
import Derived.Test.YtbkmbdbjeiffpaaRaD
import Derived.Laws.EntriesVeiled
namespace Go.Proofs.Ytbkmbdbjeiffpaa
open Go.RowKit

theorem make_fn (fn : Fn) (first cap : Array Value) (w : World) : (Instr.makeFunc fn first cap).run Try.prog w = .ok (.func fn first cap) w := rfl

set_option maxHeartbeats 800000 in
theorem compound_any (m : Nat) (w : World) :
    Calls Try.prog 39 #[.float .f64 m] w fun e w' => e = .returned (.agg #[.func (.func 59) #[] #[.pointer (some ⟨w.heap.size, 0, none⟩)], .func (.func 62) #[] #[.pointer (some ⟨w.heap.size, 0, none⟩)]]) ∧ (w'.cell? ⟨w.heap.size, 0, none⟩ = some (.float .f64 m) ∧ w.heap.size < w'.heap.size) ∧ Below w.heap.size w w' := by
  have hmf := make_fn
  go_enter Try.func39, Try.ntmps39
  go_wp2_with fail
  refine bodyPost_ret (v := .agg #[.func (.func 59) #[] #[.pointer (some ⟨w.heap.size, 0, none⟩)], .func (.func 62) #[] #[.pointer (some ⟨w.heap.size, 0, none⟩)]]) (by simp [results, Try.results39, go_sem]) rfl ⟨rfl, ⟨by simp, by simp; omega⟩, ?_⟩
  exact ((Below.refl w.heap.size w).alloc (Nat.le_refl _) _).alloc (by simp) _

set_option maxHeartbeats 800000 in
theorem forms_none (k : Int) (w : World) (h : ¬ (1 ≤ k ∧ k ≤ 6)) :
    Calls Try.prog 16 #[.int .i64 k] w fun e w' => e = .returned (.tuple #[.agg #[.nilFunc, .nilFunc], .bool false]) ∧ Below w.heap.size w w' := by
  have h1 : (k == 1) = false := beq_eq_false_iff_ne.2 (by omega)
  have h2 : (k == 2) = false := beq_eq_false_iff_ne.2 (by omega)
  have h3 : (k == 3) = false := beq_eq_false_iff_ne.2 (by omega)
  have h4 : (k == 4) = false := beq_eq_false_iff_ne.2 (by omega)
  have h5 : (k == 5) = false := beq_eq_false_iff_ne.2 (by omega)
  have h6 : (k == 6) = false := beq_eq_false_iff_ne.2 (by omega)
  clear h
  go_enter Try.func16, Try.ntmps16
  go_wp2_with fail
  refine bodyPost_ret (v := .tuple #[.agg #[.nilFunc, .nilFunc], .bool false]) (by simp [results, Try.results16, go_sem]) rfl ⟨rfl, ?_⟩
  exact (Below.refl w.heap.size w).alloc (Nat.le_refl _) _

set_option maxHeartbeats 800000 in
theorem forms_one (w : World) :
    Calls Try.prog 16 #[.int .i64 1] w fun e w' => e = .returned (.tuple #[.agg #[.func (.func 37) #[] #[], .func (.func 38) #[] #[]], .bool true]) ∧ Below w.heap.size w w' := by
  go_enter Try.func16, Try.ntmps16
  go_wp2_with fail
  refine bodyPost_ret (v := .tuple #[.agg #[.func (.func 37) #[] #[], .func (.func 38) #[] #[]], .bool true]) (by simp [results, Try.results16, go_sem]) rfl ⟨rfl, ?_⟩
  exact (Below.refl w.heap.size w).alloc (Nat.le_refl _) _

set_option maxHeartbeats 800000 in
theorem forms_six (w : World) :
    Calls Try.prog 16 #[.int .i64 6] w fun e w' => e = .returned (.tuple #[.agg #[.func (.func 40) #[] #[], .func (.func 41) #[] #[]], .bool true]) ∧ Below w.heap.size w w' := by
  go_enter Try.func16, Try.ntmps16
  go_wp2_with fail
  refine bodyPost_ret (v := .tuple #[.agg #[.func (.func 40) #[] #[], .func (.func 41) #[] #[]], .bool true]) (by simp [results, Try.results16, go_sem]) rfl ⟨rfl, ?_⟩
  exact (Below.refl w.heap.size w).alloc (Nat.le_refl _) _

theorem two_res {w w1 : World} (hb : Below (w.alloc (.cells #[.nilFunc, .nilFunc] 38)).heap.size (w.alloc (.cells #[.nilFunc, .nilFunc] 38)) w1) : (w1.cell? ⟨w.heap.size, 0, none⟩ = some .nilFunc ∧ w1.cell? ⟨w.heap.size, 1, none⟩ = some .nilFunc) ∧ w1.frozen? ⟨w.heap.size, 0, none⟩ = false ∧ w1.frozen? ⟨w.heap.size, 1, none⟩ = false := by
  refine ⟨⟨(hb.cell (p := ⟨w.heap.size, 0, none⟩) (by simp)).trans (by simp), (hb.cell (p := ⟨w.heap.size, 1, none⟩) (by simp)).trans (by simp)⟩, (hb.frozen (p := ⟨w.heap.size, 0, none⟩) (by simp)).trans ?_, (hb.frozen (p := ⟨w.heap.size, 1, none⟩) (by simp)).trans ?_⟩
  · exact World.frozen?_alloc_new _ _ _ _
  · exact World.frozen?_alloc_new _ _ _ _

theorem two_put {w w1 : World} {m : Nat} (hb : Below (w.alloc (.cells #[.nilFunc, .nilFunc] 38)).heap.size (w.alloc (.cells #[.nilFunc, .nilFunc] 38)) w1) (hc : w1.cell? ⟨(w.alloc (.cells #[.nilFunc, .nilFunc] 38)).heap.size, 0, none⟩ = some (.float .f64 m)) (hl : (w.alloc (.cells #[.nilFunc, .nilFunc] 38)).heap.size < w1.heap.size) (d0 : w1.cell? ⟨w.heap.size, 0, none⟩ = some .nilFunc) (d1 : w1.cell? ⟨w.heap.size, 1, none⟩ = some .nilFunc) (F G : Value) :
    ∃ wz, (w1.setCell ⟨w.heap.size, 0, none⟩ F).setCell ⟨w.heap.size, 1, none⟩ G = wz ∧ (wz.cell? ⟨w.heap.size, 0, none⟩ = some F ∧ wz.cell? ⟨w.heap.size, 1, none⟩ = some G) ∧ wz.cell? ⟨w.heap.size + 1, 0, none⟩ = some (.float .f64 m) ∧ w.heap.size + 1 < wz.heap.size ∧ Below w.heap.size w wz := by
  have hs : (w.alloc (.cells #[.nilFunc, .nilFunc] 38)).heap.size = w.heap.size + 1 := by simp
  rw [hs] at hc hl
  have n1 : (⟨w.heap.size, 1, none⟩ : Addr) ≠ ⟨w.heap.size, 0, none⟩ := by simp
  have n2 : (⟨w.heap.size, 1, none⟩ : Addr) ≠ ⟨w.heap.size + 1, 0, none⟩ := by simp
  have n3 : (⟨w.heap.size, 0, none⟩ : Addr) ≠ ⟨w.heap.size + 1, 0, none⟩ := by simp
  have bw : Below w.heap.size w w1 := ((Below.refl w.heap.size w).alloc (Nat.le_refl _) _).trans (hb.mono (by simp))
  have b2 := (bw.setCell (p := ⟨w.heap.size, 0, none⟩) (Nat.le_refl _) F).setCell (p := ⟨w.heap.size, 1, none⟩) (Nat.le_refl _) G
  refine ⟨_, rfl, ⟨?_, ?_⟩, ?_, ?_, b2⟩
  · rw [World.cell?_setCell_other (h := n1)]; exact World.cell?_setCell_same _ _ _ d0
  · exact World.cell?_setCell_same _ _ _ (show (w1.setCell ⟨w.heap.size, 0, none⟩ F).cell? ⟨w.heap.size, 1, none⟩ = some .nilFunc by rw [World.cell?_setCell_other (h := n1.symm)]; exact d1)
  · rw [World.cell?_setCell_other (h := n2), World.cell?_setCell_other (h := n3)]; exact hc
  · simp; exact hl

set_option maxHeartbeats 1600000 in
theorem forms_m (k : Int) (w : World) (hk : 2 ≤ k ∧ k ≤ 5) :
    Calls Try.prog 16 #[.int .i64 k] w fun e w' => ∃ g, e = .returned (.tuple #[.agg #[.func (.func 59) #[] #[.pointer (some ⟨g, 0, none⟩)], .func (.func 62) #[] #[.pointer (some ⟨g, 0, none⟩)]], .bool true]) ∧ (w'.cell? ⟨g, 0, none⟩ = some (.float .f64 (mW k)) ∧ g < w'.heap.size) ∧ Below w.heap.size w w' := by
  rcases (show k = 2 ∨ k = 3 ∨ k = 4 ∨ k = 5 by omega) with rfl | rfl | rfl | rfl
  all_goals
    clear hk
    go_enter Try.func16, Try.ntmps16
    go_wp2_with (go_at_call 39; refine (compound_any _ _).mono ?_; rintro e w1 ⟨rfl, ⟨hc, hl⟩, hb⟩; obtain ⟨⟨d0, d1⟩, f0, f1⟩ := two_res hb)
    obtain ⟨wz, h0, h1, h2, h3, h4⟩ := two_put hb hc hl d0 d1 (.func (.func 59) #[] #[.pointer (some ⟨w.heap.size + 1, 0, none⟩)]) (.func (.func 62) #[] #[.pointer (some ⟨w.heap.size + 1, 0, none⟩)])
    rw [h0]
    refine bodyPost_ret (v := .tuple #[.agg #[.func (.func 59) #[] #[.pointer (some ⟨w.heap.size + 1, 0, none⟩)], .func (.func 62) #[] #[.pointer (some ⟨w.heap.size + 1, 0, none⟩)]], .bool true]) (by simp [results, Try.results16, go_sem, h1.1, h1.2]) rfl ⟨w.heap.size + 1, rfl, ⟨h2, h3⟩, h4⟩
end Go.Proofs.Ytbkmbdbjeiffpaa
