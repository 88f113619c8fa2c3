/- The contracts of cmp.Compare, cmp.Or of two, and of package flow's compareKeys. -/
import Derived.Test.YteglnchcnacjlaaGreatHba
import Derived.Shelf.SlSortCmp.WholeK
import Derived.Deep.RegionHeld3
import Derived.RegionTactic
namespace Go.Proofs.YteglnchcnacjlaaGreat
open Go.RowKit Go.Shelf Go.Lib Go.Sort

def cmpV (a b : Int) : Int := if a < b then -1 else if b < a then 1 else 0
set_option maxHeartbeats 800000 in
theorem isNaNI_any (a : Int) (w : World) : Calls Tryz.prog 89 #[.int .i64 a] w fun e w' => e = .returned (.bool false) ∧ w' = w := by
  go_enter Tryz.func89, Tryz.ntmps89
  go_wp2
  go_ret
  exact ⟨rfl, rfl⟩
set_option maxHeartbeats 800000 in
theorem cmpI_any (a b : Int) (w : World) : Calls Tryz.prog 46 #[.int .i64 a, .int .i64 b] w fun e w' => e = .returned (.int .i64 (cmpV a b)) ∧ w' = w := by
  have H := hideS isNaNI_any
  unfold cmpV
  by_cases h1 : a < b
  · rw [if_pos h1]
    go_enter Tryz.func46, Tryz.ntmps46
    go_wp2_with (go_at_call 89; refine (H.out _ _).mono ?_; rintro e w' ⟨rfl, rfl⟩)
    go_ret
    exact ⟨rfl, rfl⟩
  · rw [if_neg h1]
    by_cases h2 : b < a
    · rw [if_pos h2]
      go_enter Tryz.func46, Tryz.ntmps46
      go_wp2_with (go_at_call 89; refine (H.out _ _).mono ?_; rintro e w' ⟨rfl, rfl⟩)
      go_ret
      exact ⟨rfl, rfl⟩
    · rw [if_neg h2]
      go_enter Tryz.func46, Tryz.ntmps46
      go_wp2_with (go_at_call 89; refine (H.out _ _).mono ?_; rintro e w' ⟨rfl, rfl⟩)
      go_ret
      exact ⟨rfl, rfl⟩
def orV (x y : Int) : Int := if x ≠ 0 then x else y
set_option maxHeartbeats 1600000 in
theorem orI_two (g : Nat) (x y : Int) (w : World) (c0 : w.cell? ⟨g, 0, none⟩ = some (.int .i64 x)) (c1 : w.cell? ⟨g, 1, none⟩ = some (.int .i64 y)) :
    Calls Tryz.prog 45 #[.slice (some ⟨g, 0, none⟩) 2 2] w fun e w' => e = .returned (.int .i64 (orV x y)) ∧ w' = w := by
  unfold orV
  by_cases hx : x = 0
  · rw [if_neg (by simpa using hx)]
    subst hx
    go_enter Tryz.func45, Tryz.ntmps45
    go_wp2_with fail
    go_loop [8] (fun i => ∃ k : Nat, k ≤ 2 ∧ i = .int .i64 k ∧ Hid (k = 2 → y = 0)) (fun i => 2 - (intOf i).toNat)
    case atStart => exact ⟨0, by omega, rfl, fun h => by omega⟩
    case round =>
      obtain ⟨k, hk, rfl, HY⟩ := hrel
      rcases (show k = 0 ∨ k = 1 ∨ k = 2 by omega) with rfl | rfl | rfl
      · go_wp2_with fail
        go_round
        case rel => exact ⟨1, by omega, by go_num, fun h => by omega⟩
        case measure => simp [intOf]
      · by_cases hy : y = 0
        · subst hy
          go_wp2_with fail
          go_round
          case rel => exact ⟨2, by omega, by go_num, by simp [Hid]⟩
          case measure => simp [intOf]
        · have hy' : (y != 0) = true := bne_iff_ne.2 hy
          go_wp2_with fail
          go_ret
          exact ⟨rfl, rfl⟩
      · have := HY.out rfl
        subst this
        go_wp2_with fail
        go_ret
        exact ⟨rfl, rfl⟩
  · rw [if_pos hx]
    have hx' : (x != 0) = true := bne_iff_ne.2 hx
    go_enter Tryz.func45, Tryz.ntmps45
    go_wp2_with fail
    go_loop [8] (fun i => ∃ k : Nat, i = .int .i64 k ∧ k = 0) (fun i => 2 - (intOf i).toNat)
    case atStart => exact ⟨0, rfl, rfl⟩
    case round =>
      obtain ⟨k, rfl, rfl⟩ := hrel
      go_wp2_with fail
      go_ret
      exact ⟨rfl, rfl⟩
set_option maxRecDepth 20000 in
set_option maxHeartbeats 3200000 in
theorem jCmp_any (x1 x2 y1 y2 : Int) (w : World) : Calls Tryz.prog 24 #[.agg #[.int .i64 x1, .int .i64 x2], .agg #[.int .i64 y1, .int .i64 y2]] w fun e w' => e = .returned (.int .i64 (orV (cmpV x1 y1) (cmpV x2 y2))) ∧ ∃ q os', w' = grow (w.drewN q) os' := by
  have H1 := hideS cmpI_any
  have H3 := hideS orI_two
  obtain ⟨w0, hw0⟩ : ∃ w0, (w.alloc (.cells #[.int .i64 x1, .int .i64 x2] 61)).alloc (.cells #[.int .i64 y1, .int .i64 y2] 61) = w0 := ⟨_, rfl⟩
  have d0 : w0.cell? ⟨w.heap.size, 0, none⟩ = some (.int .i64 x1) := by rw [← hw0]; simp
  have d1 : w0.cell? ⟨w.heap.size, 1, none⟩ = some (.int .i64 x2) := by rw [← hw0]; simp
  have d2 : w0.cell? ⟨w.heap.size + 1, 0, none⟩ = some (.int .i64 y1) := by rw [← hw0]; simp
  have d3 : w0.cell? ⟨w.heap.size + 1, 1, none⟩ = some (.int .i64 y2) := by rw [← hw0]; simp
  go_enter Tryz.func24, Tryz.ntmps24
  go_wp2_with fail
  go_region_held3 (fun x => x.cell? ⟨w.heap.size, 0, none⟩ = some (.int .i64 x1) ∧ x.cell? ⟨w.heap.size, 1, none⟩ = some (.int .i64 x2) ∧ x.cell? ⟨w.heap.size + 1, 0, none⟩ = some (.int .i64 y1) ∧ x.cell? ⟨w.heap.size + 1, 1, none⟩ = some (.int .i64 y2)) (first | exact ⟨d0, d1, d2, d3⟩ | go_keep) (first | (go_at_call 46; (with_reducible refine (turned (H1.out x1 y1 _)).mono ?_); rintro e w3 ⟨rfl, rfl⟩) | (go_at_call 46; (with_reducible refine (turned (H1.out x2 y2 _)).mono ?_); rintro e w3 ⟨rfl, rfl⟩) | (go_at_call 45; refine (turned (H3.out _ (cmpV x1 y1) (cmpV x2 y2) _ (by simp) (by simp))).mono ?_; rintro e w5 ⟨rfl, rfl⟩))
  go_wp2_with fail
  go_ret
  exact ⟨rfl, 1, #[.cells #[.int .i64 x1, .int .i64 x2] 61, .cells #[.int .i64 y1, .int .i64 y2] 61, .cells #[.int .i64 (cmpV x1 y1), .int .i64 (cmpV x2 y2)] 3], by rw [← hw0, Go.Sort.alloc_eq_grow, Go.Sort.alloc_eq_grow, Go.Sort.alloc_eq_grow, Go.Sort.grow_grow, Go.Sort.grow_grow]; rfl⟩
end Go.Proofs.YteglnchcnacjlaaGreat
