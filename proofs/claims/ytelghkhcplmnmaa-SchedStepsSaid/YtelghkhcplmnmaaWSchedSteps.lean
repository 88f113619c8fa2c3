/- The walk of SchedSteps, whatever the stub. -/
import Derived.Test.YtelghkhcplmnmaaSpO
namespace Go.Proofs.Ytelghkhcplmnmaa
open Go.RowKit

theorem steps_back {s : Spc} {K i : Nat} (h : SpcOk s) (hK : DatR s K) (hs : s.stub ≤ 2) (i0 : 1 ≤ i) (hi : i ≤ cutN s K) : ptO s s.en ((i : Int) + 1 - ((cutN s K : Int) + 2)) = some ((datL s (cutN s K)).getD i 0) := by
  obtain ⟨j, rfl⟩ : ∃ j, i = j + 1 := ⟨i - 1, by omega⟩
  have hc := (cut_pt h hK (cut_le s K) (i := j) (by omega)).1
  rw [if_pos hs] at hc
  unfold pkO ancI sgnI at hc
  rw [if_pos hs, if_pos hs] at hc
  rw [dat_cut (by omega), ← hc]
  congr 1
  omega
theorem steps_forth {s : Spc} {K i : Nat} (h : SpcOk s) (hK : DatR s K) (hs : ¬ s.stub ≤ 2) (i0 : 1 ≤ i) (hi : i ≤ cutN s K) : ptO s s.st (i : Int) = some ((datL s (cutN s K)).getD i 0) := by
  obtain ⟨j, rfl⟩ : ∃ j, i = j + 1 := ⟨i - 1, by omega⟩
  have hc := (cut_pt h hK (cut_le s K) (i := j) (by omega)).1
  rw [if_neg hs] at hc
  unfold pkO ancI sgnI at hc
  rw [if_neg hs, if_neg hs] at hc
  rw [dat_cut (by omega), ← hc]
  congr 1
  omega

theorem schedSteps_walk (s : Spc) (W : Int) (p : Option Addr) (b off c : Nat) (rs : List Rul) (w : World) (hs : RSrc w p b off rs) (hl : rs.length ≤ 9223372036854775807) (_ : SpcI s) (_ : I64 W) (_ : ∀ r ∈ rs, RulI r) :
    Calls Try.prog 4 #[.agg #[.int .i64 s.st, .int .i64 s.en, .int .i64 s.n, .int .i64 s.unit, .int .i64 s.stub, .int .i64 s.roll, .int .i64 s.conv, .int .i64 s.lag, .int .i64 W, .slice p rs.length c]] w fun e w' => e = .returned (.bool true) ∧ Below w.heap.size w w' := by
  obtain ⟨A, B, hA⟩ := chk_ex W rs
  obtain ⟨E, hE⟩ := spc_ex s A
  by_cases h0 : E = 0
  · subst h0
    obtain ⟨hok, rfl⟩ := spc_ok hE
    obtain ⟨hC, _⟩ := chk_ok hA
    obtain ⟨K, hK⟩ := dat_ex hok
    by_cases hm : K < 1200
    · have hcu := cut_le s K
      have HD : ∀ wx, Below w.heap.size w wx → Calls Try.prog 8 #[.agg #[.int .i64 s.st, .int .i64 s.en, .int .i64 s.n, .int .i64 s.unit, .int .i64 s.stub, .int .i64 s.roll, .int .i64 s.conv, .int .i64 s.lag, .int .i64 W, .slice p rs.length c]] wx fun e w' => IntsOut (datL s (cutN s K)) 0 wx e w' ∧ Below wx.heap.size wx w' := fun wx hb => (schDates_yes s W K p b off c rs wx hok hC hK (hs.below hb)).mono fun e w' ⟨a, b⟩ => ⟨by have := ints_of a; rw [if_pos hm, if_pos hm] at this; exact this, b⟩
      by_cases hM : cutN s K + 2 ≤ 300
      · -- the long stub's dates
        have HT : ∀ x : Int, (s.stub ≤ 2 ↔ x ≤ 2) → 1 ≤ x → x ≤ 4 → ∀ wx, Below w.heap.size w wx → Calls Try.prog 8 #[.agg #[.int .i64 s.st, .int .i64 s.en, .int .i64 s.n, .int .i64 s.unit, .int .i64 x, .int .i64 s.roll, .int .i64 s.conv, .int .i64 s.lag, .int .i64 W, .slice p rs.length c]] wx fun e w' => IntsOut (datL { s with stub := x } (cutN { s with stub := x } K)) 0 wx e w' ∧ Below wx.heap.size wx w' := fun x hx x1 x4 wx hb =>
          (schDates_yes { s with stub := x } W K p b off c rs wx (spc_stub hok x1 x4) hC (dat_stub hx hK) (hs.below hb)).mono fun e w' ⟨a, b⟩ => ⟨by have := ints_of a; rw [if_pos hm, if_pos hm] at this; exact this, b⟩
        have HPb : s.stub ≤ 2 → ∀ i : Nat, 1 ≤ i → i ≤ cutN s K → ∀ wx, Below w.heap.size w wx → Calls Try.prog 10 #[.agg #[.int .i64 s.st, .int .i64 s.en, .int .i64 s.n, .int .i64 s.unit, .int .i64 s.stub, .int .i64 s.roll, .int .i64 s.conv, .int .i64 s.lag, .int .i64 W, .slice p rs.length c], .int .i64 s.en, .int .i64 ((i : Int) + 1 - ((cutN s K : Int) + 2))] wx fun e w' => e = .returned (.tuple #[.int .i64 ((datL s (cutN s K)).getD i 0), .bool true]) ∧ Below wx.heap.size wx w' := fun h2 i i0 hi wx hb => by
          have := schPoint_yes s W s.en ((i : Int) + 1 - ((cutN s K : Int) + 2)) p b off c rs wx hok hC (hs.below hb)
          rw [steps_back hok hK h2 i0 hi] at this
          exact this
        have HPf : ¬ s.stub ≤ 2 → ∀ i : Nat, 1 ≤ i → i ≤ cutN s K → ∀ wx, Below w.heap.size w wx → Calls Try.prog 10 #[.agg #[.int .i64 s.st, .int .i64 s.en, .int .i64 s.n, .int .i64 s.unit, .int .i64 s.stub, .int .i64 s.roll, .int .i64 s.conv, .int .i64 s.lag, .int .i64 W, .slice p rs.length c], .int .i64 s.st, .int .i64 (i : Int)] wx fun e w' => e = .returned (.tuple #[.int .i64 ((datL s (cutN s K)).getD i 0), .bool true]) ∧ Below wx.heap.size wx w' := fun h2 i i0 hi wx hb => by
          have := schPoint_yes s W s.st (i : Int) p b off c rs wx hok hC (hs.below hb)
          rw [steps_forth hok hK h2 i0 hi] at this
          exact this
        have hst : s.stub = 1 ∨ s.stub = 2 ∨ s.stub = 3 ∨ s.stub = 4 := by have := hok.t1; have := hok.t2; omega
        obtain ⟨st, en, n, unit, stub, roll, conv, lag⟩ := s
        dsimp only at hst HT HPb HPf HD ⊢
        rcases hst with rfl | rfl | rfl | rfl
        · have e1 := cut_short (s := ⟨st, en, n, unit, 1, roll, conv, lag⟩) (Or.inl rfl) K
          refine schedSteps_1 st en n unit roll conv lag W p rs.length c _ _ _ _ w (dat_len _ _) hM (dat_len _ _) ?_ HD (HPb (by decide)) (HT 2 (by decide) (by decide) (by decide))
          rw [e1]
          rcases cut_near ⟨st, en, n, unit, 2, roll, conv, lag⟩ K with h | h <;> omega
        · exact schedSteps_2 st en n unit roll conv lag W p rs.length c _ _ w (dat_len _ _) hM HD (HPb (by decide))
        · have e1 := cut_short (s := ⟨st, en, n, unit, 3, roll, conv, lag⟩) (Or.inr rfl) K
          refine schedSteps_3 st en n unit roll conv lag W p rs.length c _ _ _ _ w (dat_len _ _) hM (dat_len _ _) ?_ HD (HPf (by decide)) (HT 4 (by decide) (by decide) (by decide))
          rw [e1]
          rcases cut_near ⟨st, en, n, unit, 4, roll, conv, lag⟩ K with h | h <;> omega
        · exact schedSteps_4 st en n unit roll conv lag W p rs.length c _ _ w (dat_len _ _) hM HD (HPf (by decide))
      · exact schedSteps_many s W p rs.length c _ _ w (dat_len _ _) (by omega) (by omega) HD
    · refine schedSteps_wrong s W 81 p rs.length c w (by decide) (fun wx hb => (schDates_yes s W K p b off c rs wx hok hC hK (hs.below hb)).mono fun e w' ⟨a, b⟩ => ⟨?_, b⟩)
      rcases a with ⟨_, a⟩ | ⟨a, _⟩
      · exact a
      · omega
  · exact schedSteps_wrong s W E p rs.length c w h0 (fun wx hb => schDates_no s W A B E p b off c rs wx hA hE h0 (hs.below hb) hl)
end Go.Proofs.Ytelghkhcplmnmaa
