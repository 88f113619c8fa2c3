/- The contract of awake: what the document fixes. -/
import Derived.Test.YtglkhoekpafddaaQPub2
import Derived.Test.YtglkhoekpafddaaCAwkP
namespace Go.Proofs.Ytglkhoekpafddaa
open Go.RowKit

/-- The fixed calendar in memory: its rule at b, its box behind it. -/
structure AwkB (b : Nat) (wr : World) : Prop where
  src : RSrc wr (some ⟨b, 0, none⟩) b 0 [ruleJ]
  c0 : wr.cell? ⟨b + 1, 0, none⟩ = some (.int .i64 96)
  c1 : wr.cell? ⟨b + 1, 1, none⟩ = some (.slice (some ⟨b, 0, none⟩) 1 1)
  lt : b + 1 < wr.heap.size
theorem AwkB.step {b : Nat} {wr w' : World} (h : AwkB b wr) (hb : Below wr.heap.size wr w') : AwkB b w' :=
  ⟨h.src.below hb, (hb.cell (p := ⟨b + 1, 0, none⟩) h.lt).trans h.c0, (hb.cell (p := ⟨b + 1, 1, none⟩) h.lt).trans h.c1, Nat.lt_of_lt_of_le h.lt hb.size⟩
theorem awkB_first (w : World) : AwkB w.heap.size ((w.alloc (.cells #[.int .i64 1, .int .i64 1, .int .i64 1, .int .i64 0, .int .i64 0, .int .i64 0, .int .i64 1900, .int .i64 2199, .int .i64 1] 47)).alloc (.cells #[.int .i64 96, .slice (some ⟨w.heap.size, 0, none⟩) 1 1] 24)) := by
  have hc : ∀ o k, ((w.alloc (.cells #[.int .i64 1, .int .i64 1, .int .i64 1, .int .i64 0, .int .i64 0, .int .i64 0, .int .i64 1900, .int .i64 2199, .int .i64 1] 47)).alloc o).cell? ⟨w.heap.size, k, none⟩ = (#[.int .i64 1, .int .i64 1, .int .i64 1, .int .i64 0, .int .i64 0, .int .i64 0, .int .i64 1900, .int .i64 2199, .int .i64 1] : Array Value)[k]? := fun o k => by
    rw [old_cell _ _ (by simp)]; exact new_cell0 w _ _ k
  refine ⟨⟨fun _ => rfl, fun _ => by simp <;> omega, fun i hi => ?_⟩, new_cell _ _ 0 (by simp), new_cell _ _ 1 (by simp), by simp⟩
  obtain rfl : i = 0 := by simpa using hi
  exact ⟨hc _ 0, hc _ 1, hc _ 2, hc _ 3, hc _ 4, hc _ 5, hc _ 6, hc _ 7, hc _ 8⟩

set_option maxHeartbeats 1600000 in
theorem awake6 (w : World) : Calls Try.prog 9 #[] w fun e w' => e = .returned (.bool true) ∧ Below w.heap.size w w' := by
  have h1 : Hid (∀ b wx, AwkB b wx → Calls Try.prog 12 #[.agg #[.int .i64 96, .slice (some ⟨b, 0, none⟩) 1 1], .int .i64 44926] wx fun e w' => e = .returned (.tuple #[.bool false, .int .i64 0]) ∧ Below wx.heap.size wx w') := fun b wx h => by
    have := openP_ok 96 44926 (some ⟨b, 0, none⟩) b 0 1 [ruleJ] wx calJ_ok h.src (by decide)
    rw [opJ_44926] at this; exact this
  have h2 : Hid (∀ b wx, AwkB b wx → Calls Try.prog 13 #[.agg #[.int .i64 96, .slice (some ⟨b, 0, none⟩) 1 1], .int .i64 44926] wx fun e w' => e = .returned (.tuple #[.bool true, .int .i64 0]) ∧ Below wx.heap.size wx w') := fun b wx h => by
    have := holP_ok 96 44926 (some ⟨b, 0, none⟩) b 0 1 [ruleJ] wx calJ_ok h.src (by decide)
    rw [holJ_44926] at this; exact this
  have h3 : Hid (∀ b wx, AwkB b wx → Calls Try.prog 14 #[.agg #[.int .i64 96, .slice (some ⟨b, 0, none⟩) 1 1], .int .i64 44925, .int .i64 1] wx fun e w' => e = .returned (.tuple #[.int .i64 44927, .int .i64 0]) ∧ Below wx.heap.size wx w') := fun b wx h => by
    have := adjP_ok 96 44925 1 (some ⟨b, 0, none⟩) b 0 1 [ruleJ] wx calJ_ok h.src (by decide) (by decide)
    rw [adjO_1, srchJ_adj] at this; exact this
  have h4 : Hid (∀ b wx, AwkB b wx → Calls Try.prog 15 #[.agg #[.int .i64 96, .slice (some ⟨b, 0, none⟩) 1 1], .int .i64 44924, .int .i64 1] wx fun e w' => e = .returned (.tuple #[.int .i64 44927, .int .i64 0]) ∧ Below wx.heap.size wx w') := fun b wx h => by
    have := addP_ok 96 44924 1 (some ⟨b, 0, none⟩) b 0 1 [ruleJ] wx calJ_ok h.src (by decide) (by decide) (by decide) (by decide)
    rw [show (1 : Int).natAbs = 1 from rfl, show (if (1 : Int) < 0 then (-1 : Int) else 1) = 1 from rfl, addO_one, show (44924 + 1 : Int) = 44925 from rfl, srchJ_adj] at this; exact this
  have h5 : Hid (∀ b wx, AwkB b wx → Calls Try.prog 16 #[.agg #[.int .i64 96, .slice (some ⟨b, 0, none⟩) 1 1], .int .i64 44923, .int .i64 44930] wx fun e w' => e = .returned (.tuple #[.int .i64 4, .int .i64 0]) ∧ Below wx.heap.size wx w') := fun b wx h => by
    have := cntP_up 96 44923 44930 (some ⟨b, 0, none⟩) b 0 1 [ruleJ] wx calJ_ok h.src (by decide) (by decide) (by decide)
    rw [show (44930 - 44923 : Int).toNat = 7 from rfl, cntJ] at this; exact this
  have HF := hideS (awkB_first w)
  have HB0 := hideS (below2 w)
  go_enter Try.func9, Try.ntmps9
  go_wp2_with fail
  refine (h1.out _ _ HF.out).mono ?_
  rintro e w1 ⟨rfl, hb1⟩
  have F1 := hideS (HF.out.step hb1)
  have B1 : Hid (Below w.heap.size w w1) := (HB0.out _ _).trans (hb1.mono (HB0.out _ _).size)
  clear hb1 HF
  have c0 := F1.out.c0
  have c1 := F1.out.c1
  go_wp2_with fail
  refine (h2.out _ _ F1.out).mono ?_
  rintro e w2 ⟨rfl, hb2⟩
  have F2 := hideS (F1.out.step hb2)
  have B2 := hideS (B1.out.trans (hb2.mono B1.out.size))
  clear hb2 F1 B1 c0 c1
  have c0 := F2.out.c0
  have c1 := F2.out.c1
  go_wp2_with fail
  refine (h3.out _ _ F2.out).mono ?_
  rintro e w3 ⟨rfl, hb3⟩
  have F3 := hideS (F2.out.step hb3)
  have B3 := hideS (B2.out.trans (hb3.mono B2.out.size))
  clear hb3 F2 B2 c0 c1
  have c0 := F3.out.c0
  have c1 := F3.out.c1
  go_wp2_with fail
  refine (h4.out _ _ F3.out).mono ?_
  rintro e w4 ⟨rfl, hb4⟩
  have F4 := hideS (F3.out.step hb4)
  have B4 := hideS (B3.out.trans (hb4.mono B3.out.size))
  clear hb4 F3 B3 c0 c1
  have c0 := F4.out.c0
  have c1 := F4.out.c1
  go_wp2_with fail
  refine (h5.out _ _ F4.out).mono ?_
  rintro e w5 ⟨rfl, hb5⟩
  have B5 := hideS (B4.out.trans (hb5.mono B4.out.size))
  clear hb5 F4 B4 c0 c1
  go_wp2_with fail
  go_ret
  exact ⟨rfl, B5.out⟩
end Go.Proofs.Ytglkhoekpafddaa
