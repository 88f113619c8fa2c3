/- The law's awake: the document's examples. -/
import Derived.Test.YtoeifjnknhjchaaHah
import Derived.Test.YtoeifjnknhjchaaHal
namespace Go.Proofs.Ytoeifjnknhjchaa
open Go.RowKit

theorem src_three (w : World) (a b c : Nat) : Src (w.alloc (.cells #[.float .f64 a, .float .f64 b, .float .f64 c] 23)) (some ⟨w.heap.size, 0, none⟩) w.heap.size 0 [a, b, c] := by
  refine ⟨fun _ => rfl, fun _ => by simp, fun j hj => ?_⟩
  have hj' : j < 3 := hj
  rcases (show j = 0 ∨ j = 1 ∨ j = 2 by omega) with rfl | rfl | rfl <;> simp
theorem src_two (w : World) (a b : Nat) : Src (w.alloc (.cells #[.float .f64 a, .float .f64 b] 23)) (some ⟨w.heap.size, 0, none⟩) w.heap.size 0 [a, b] := by
  refine ⟨fun _ => rfl, fun _ => by simp, fun j hj => ?_⟩
  have hj' : j < 2 := hj
  rcases (show j = 0 ∨ j = 1 by omega) with rfl | rfl <;> simp
theorem src_one (w : World) (a : Nat) : Src (w.alloc (.cells #[.float .f64 a] 23)) (some ⟨w.heap.size, 0, none⟩) w.heap.size 0 [a] := by
  refine ⟨fun _ => rfl, fun _ => by simp, fun j hj => ?_⟩
  have hj' : j < 1 := hj
  obtain rfl : j = 0 := by omega
  simp
theorem aw_one : askV (polyF [13839561654909534208, 0, 4607182418800017408]) 0 4611686018427387904 = (4611686018427387904, 2, 0) := by decide +kernel
theorem aw_two : askV (polyF [0, 4607182418800017408]) 13830554455654793216 4607182418800017408 = (0, 3, 0) := by decide +kernel
theorem aw_three : askV (polyF [4607182418800017408]) 0 4607182418800017408 = (0, 2, 120) := by decide +kernel

theorem poly_one (w : World) : Calls Try.prog 9 #[.slice (some ⟨w.heap.size, 0, none⟩) 3 3, .float .f64 0, .float .f64 4611686018427387904] (w.alloc (.cells #[.float .f64 13839561654909534208, .float .f64 0, .float .f64 4607182418800017408] 23)) fun e w' => e = .returned (.tuple #[.float .f64 4611686018427387904, .int .i64 2, .int .i64 0]) ∧ Below w.heap.size w w' := by
  have h := poly_any _ _ 0 3 3 0 4611686018427387904 _ _ _ _ _ (src_three w 13839561654909534208 0 4607182418800017408) rfl (by omega) (fun x q => hornO_lt (show FitL _ by unfold FitL; decide) q) (by unfold U64; omega) (by unfold U64; omega) aw_one
  have hb : Below w.heap.size w (w.alloc (.cells #[.float .f64 13839561654909534208, .float .f64 0, .float .f64 4607182418800017408] 23)) := (Below.refl _ _).alloc (Nat.le_refl _) _
  exact h.mono fun _ _ ⟨a, b⟩ => ⟨a, hb.trans (b.mono hb.size)⟩
theorem poly_two (w : World) : Calls Try.prog 9 #[.slice (some ⟨w.heap.size, 0, none⟩) 2 2, .float .f64 13830554455654793216, .float .f64 4607182418800017408] (w.alloc (.cells #[.float .f64 0, .float .f64 4607182418800017408] 23)) fun e w' => e = .returned (.tuple #[.float .f64 0, .int .i64 3, .int .i64 0]) ∧ Below w.heap.size w w' := by
  have h := poly_any _ _ 0 2 2 13830554455654793216 4607182418800017408 _ _ _ _ _ (src_two w 0 4607182418800017408) rfl (by omega) (fun x q => hornO_lt (show FitL _ by unfold FitL; decide) q) (by unfold U64; omega) (by unfold U64; omega) aw_two
  have hb : Below w.heap.size w (w.alloc (.cells #[.float .f64 0, .float .f64 4607182418800017408] 23)) := (Below.refl _ _).alloc (Nat.le_refl _) _
  exact h.mono fun _ _ ⟨a, b⟩ => ⟨a, hb.trans (b.mono hb.size)⟩
theorem poly_three (w : World) : Calls Try.prog 9 #[.slice (some ⟨w.heap.size, 0, none⟩) 1 1, .float .f64 0, .float .f64 4607182418800017408] (w.alloc (.cells #[.float .f64 4607182418800017408] 23)) fun e w' => e = .returned (.tuple #[.float .f64 0, .int .i64 2, .int .i64 120]) ∧ Below w.heap.size w w' := by
  have h := poly_any _ _ 0 1 1 0 4607182418800017408 _ _ _ _ _ (src_one w 4607182418800017408) rfl (by omega) (fun x q => hornO_lt (show FitL _ by unfold FitL; decide) q) (by unfold U64; omega) (by unfold U64; omega) aw_three
  have hb : Below w.heap.size w (w.alloc (.cells #[.float .f64 4607182418800017408] 23)) := (Below.refl _ _).alloc (Nat.le_refl _) _
  exact h.mono fun _ _ ⟨a, b⟩ => ⟨a, hb.trans (b.mono hb.size)⟩

set_option maxRecDepth 20000 in
set_option maxHeartbeats 1600000 in
theorem awake12 (w : World) :
    Calls Try.prog 8 #[] w fun e w' => e = .returned (.bool true) ∧ Below w.heap.size w w' := by
  have o1 : (FloatKind.f64.format.order 4611686018427387904 4611686018427387904 == some .eq) = true := by decide
  have o2 : (FloatKind.f64.format.order 0 0 == some .eq) = true := by decide
  go_enter Try.func8, Try.ntmps8
  go_wp2_with fail
  refine (poly_one _).mono ?_
  rintro e w1 ⟨rfl, hb1⟩
  have H1 := hideS hb1
  clear hb1
  go_wp2_with fail
  refine (poly_two _).mono ?_
  rintro e w2 ⟨rfl, hb2⟩
  have H2 := hideS (H1.out.trans (hb2.mono H1.out.size))
  clear hb2
  go_wp2_with fail
  refine (poly_three _).mono ?_
  rintro e w3 ⟨rfl, hb3⟩
  have H3 := hideS (H2.out.trans (hb3.mono H2.out.size))
  clear hb3
  go_wp2_with fail
  go_ret
  exact ⟨rfl, H3.out⟩
end Go.Proofs.Ytoeifjnknhjchaa
