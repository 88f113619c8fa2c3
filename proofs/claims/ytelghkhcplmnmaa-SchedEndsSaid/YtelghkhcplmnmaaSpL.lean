/- The contract of awake: what the document fixes. -/
import Derived.Test.YtelghkhcplmnmaaSpK
namespace Go.Proofs.Ytelghkhcplmnmaa
open Go.RowKit

set_option maxRecDepth 20000 in
set_option maxHeartbeats 3200000 in
theorem awake8 (w : World) : Calls Try.prog 7 #[] w fun e w' => e = .returned (.bool true) ∧ Below w.heap.size w w' := by
  have HD := hideS (fun wx => awakeD wx)
  have HP := hideS (fun wx => awakeP wx)
  have HB0 := hideS (SBox.zero w spcA 0 (.slice none 0 0))
  have HSm : Hid (∀ (q q' : Option Addr) (g c g' c' : Nat) wx, ISrc wx q g 0 [45670, 45714, 45806, 45898] → ISrc wx q' g' 0 [45670, 45714, 45806, 45898] → Calls Try.prog 13 #[.slice q 4 c, .slice q' 4 c'] wx fun e w' => e = .returned (.bool true) ∧ Below wx.heap.size wx w') := fun q q' g c g' c' wx h1 h2 => ref8SameInts_same q q' g 0 c g' 0 c' [45670, 45714, 45806, 45898] wx h1 h2 (by simp)
  unfold spcA at HB0
  dsimp only at HB0
  go_enter Try.func7, Try.ntmps7
  go_wp2_with fail
  refine (HD.out _).mono ?_
  rintro e w1 ⟨⟨q, g, c, rfl, hs1, hc1⟩, hb1⟩
  have HB1 := hideS (HB0.out.step hb1)
  have HS1 := hideS hs1
  clear hb1 hs1
  obtain ⟨c0, c1, c2, c3, c4, c5, c6, c7, c8, c9⟩ := HB1.out.cells
  dsimp only at c0 c1 c2 c3 c4 c5 c6 c7 c8 c9
  go_wp2_with fail
  refine (HP.out _).mono ?_
  rintro e w2 ⟨⟨g2, k2, rfl, hg2, hp2, hk2⟩, hb2⟩
  have HB2 := hideS (HB1.out.step hb2)
  have HS2 := hideS (HS1.out.below hb2)
  have HG2 := hideS (And.intro hg2 hp2)
  clear hb2 c0 c1 c2 c3 c4 c5 c6 c7 c8 c9 hg2 hp2
  have hbl : Below w2.heap.size w2 (w2.alloc (.cells #[.int .i64 45670, .int .i64 45714, .int .i64 45806, .int .i64 45898] 3)) := (Below.refl _ w2).alloc (Nat.le_refl _) _
  have HS3 := hideS (HS2.out.below hbl)
  have HB3 := hideS (HB2.out.step hbl)
  have HN3 : Hid (ISrc (w2.alloc (.cells #[.int .i64 45670, .int .i64 45714, .int .i64 45806, .int .i64 45898] 3)) (some ⟨w2.heap.size, 0, none⟩) w2.heap.size 0 [45670, 45714, 45806, 45898]) := ⟨fun _ => rfl, fun _ => by simp, fun j hj => by
    rw [Nat.zero_add, new_cell0]
    rcases (show j = 0 ∨ j = 1 ∨ j = 2 ∨ j = 3 by simp at hj; omega) with rfl | rfl | rfl | rfl <;> rfl⟩
  have HG3 : Hid (g2 < (w2.alloc (.cells #[.int .i64 45670, .int .i64 45714, .int .i64 45806, .int .i64 45898] 3)).heap.size ∧ (w2.alloc (.cells #[.int .i64 45670, .int .i64 45714, .int .i64 45806, .int .i64 45898] 3)).cell? ⟨g2, 14, none⟩ = some (.int .i64 45898)) := ⟨Nat.lt_of_lt_of_le HG2.out.1 hbl.size, (hbl.cell (p := ⟨g2, 14, none⟩) HG2.out.1).trans HG2.out.2⟩
  clear hbl
  go_wp2_with fail
  refine (HSm.out _ _ g _ w2.heap.size _ _ HS3.out HN3.out).mono ?_
  rintro e w3 ⟨rfl, hb3⟩
  have hp3 := (hb3.cell (p := ⟨g2, 14, none⟩) HG3.out.1).trans HG3.out.2
  have HB4 := hideS (HB3.out.step hb3)
  clear hb3 HD HP HB0 HB1 HB2 HB3 HS1 HS2 HS3 HN3 HG2 HG3 HSm
  go_wp2_with fail
  go_ret
  exact ⟨rfl, HB4.out.below⟩
end Go.Proofs.Ytelghkhcplmnmaa
