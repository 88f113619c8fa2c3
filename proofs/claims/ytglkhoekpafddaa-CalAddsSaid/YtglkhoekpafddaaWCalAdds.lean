/- The walk of CalAdds: any calendar and day, any number of open days on. -/
import Derived.Test.YtglkhoekpafddaaWCalMoves
import Derived.Test.YtglkhoekpafddaaCRefJ
namespace Go.Proofs.Ytglkhoekpafddaa
open Go.RowKit

theorem add_two (w : World) (W n k : Int) (p : Option Addr) (b off c : Nat) (rs : List Rul) (hs : RSrc w p b off rs) (hl : rs.length ≤ 1000000) (hk : I64 k) : ∃ X E, TwoH 15 23 w W p c rs.length n k X E := by
  by_cases hz : k = 0
  · subst hz
    obtain ⟨X, E, H⟩ := adjust_two w W n 1 p b off c rs hs hl
    exact ⟨X, E, fun wx hb => addP_zero W n _ X E wx (fun wy hb2 => H.prog wy (hb.trans (hb2.mono hb.size))), fun wx hb => refAdd_zero W n _ X E wx (fun wy hb2 => H.ref wy (hb.trans (hb2.mono hb.size)))⟩
  · obtain ⟨A, B, h⟩ := chk_ex W rs
    by_cases hbad : A ≠ 0 ∨ ¬ isDayP n
    · exact ⟨_, _, fun wx hb => addP_bad W n k p b off c rs A B wx h (hs.below hb) (by omega) hz hbad, fun wx hb => refAdd_bad W n k p b off c rs A B wx h (hs.below hb) hl hz hbad⟩
    · have hA : A = 0 := Classical.byContradiction fun a => hbad (Or.inl a)
      have hn : isDayP n := Classical.byContradiction fun a => hbad (Or.inr a)
      subst hA
      obtain ⟨hok, _⟩ := chk_ok h
      exact ⟨_, _, fun wx hb => addP_ok W n k p b off c rs wx hok (hs.below hb) hn hz hk.1 hk.2, fun wx hb => refAdd_ok W n k p b off c rs wx hok (hs.below hb) hn hz hk.1 hk.2⟩

set_option maxHeartbeats 1600000 in
theorem calAdds_great (W n k : Int) (p : Option Addr) (N c : Nat) (w : World) (h2 : N ≤ 9223372036854775807) (h : 12 < N ∨ (N ≤ 12 ∧ 0 < N ∧ 400 < k) ∨ (N ≤ 12 ∧ 0 < N ∧ ¬ 400 < k ∧ k < -400)) :
    Calls Try.prog 6 #[.agg #[.int .i64 W, .slice p N c], .int .i64 n, .int .i64 k] w fun e w' => e = .returned (.bool true) ∧ Below w.heap.size w w' := by
  have HFw := hideS (fun wx => few_any W p N c wx h2)
  rcases h with h | ⟨h, h0, hk⟩ | ⟨h, h0, hk, hk2⟩
  · rw [decide_eq_false (show ¬ N ≤ 12 by omega)] at HFw
    go_enter Try.func6, Try.ntmps6
    go_wp2_with (first | (go_at_call 21; refine (HFw.out _).mono ?_; rintro e w1 ⟨rfl, hb1⟩) | (go_at_call 9; refine (awake6 _).mono ?_; rintro e w2 ⟨rfl, hb2⟩))
    go_ret
    exact ⟨rfl, ((CBoxP.first hb1).step hb2).below⟩
  all_goals
    rw [decide_eq_true h] at HFw
    have h0' : (0 : Int) < N := by omega
    go_enter Try.func6, Try.ntmps6
    go_wp2_with fail
    refine (HFw.out _).mono ?_
    rintro e w1 ⟨rfl, hb1⟩
    have X1 := hideS (CBoxP.first hb1)
    clear hb1
    obtain ⟨c0, c1⟩ := X1.out.cells
    go_wp2_with (go_at_call 9; refine (awake6 _).mono ?_; rintro e w2 ⟨rfl, hb2⟩)
    go_ret
    exact ⟨rfl, (X1.out.step hb2).below⟩

set_option maxHeartbeats 1600000 in
theorem calAdds_small (W n k X E : Int) (p : Option Addr) (N c : Nat) (w : World) (hl : N ≤ 12) (hgo : N = 0 ∨ (0 < N ∧ ¬ 400 < k ∧ ¬ k < -400)) (H : Hid (TwoH 15 23 w W p c N n k X E)) :
    Calls Try.prog 6 #[.agg #[.int .i64 W, .slice p N c], .int .i64 n, .int .i64 k] w fun e w' => e = .returned (.bool true) ∧ Below w.heap.size w w' := by
  have HFw := hideS (fun wx => few_any W p N c wx (by omega))
  rw [decide_eq_true hl] at HFw
  have hgo' : ¬ (0 : Int) < N ∨ ((0 : Int) < N ∧ ¬ 400 < k ∧ ¬ k < -400) := by omega
  clear hgo
  rcases hgo' with h0 | ⟨h0, h1, h2⟩
  all_goals
    go_enter Try.func6, Try.ntmps6
    go_wp2_with fail
    refine (HFw.out _).mono ?_
    rintro e w1 ⟨rfl, hb1⟩
    have X1 := hideS (CBoxP.first hb1)
    clear hb1
    obtain ⟨c0, c1⟩ := X1.out.cells
    go_wp2_with fail
    refine (H.out.prog _ X1.out.below).mono ?_
    rintro e w2 ⟨rfl, hb2⟩
    have X2 := hideS (X1.out.step hb2)
    clear hb2 X1 c0 c1
    obtain ⟨c0, c1⟩ := X2.out.cells
    go_wp2_with fail
    refine (H.out.ref _ X2.out.below).mono ?_
    rintro e w3 ⟨rfl, hb3⟩
    have X3 := hideS (X2.out.step hb3)
    clear hb3 X2 c0 c1
    go_wp2_with (go_at_call 9; refine (awake6 _).mono ?_; rintro e w5 ⟨rfl, hb5⟩)
    go_ret
    exact ⟨rfl, (X3.out.step hb5).below⟩

theorem calAdds_walk (W n k : Int) (p : Option Addr) (b off c : Nat) (rs : List Rul) (w : World) (hs : RSrc w p b off rs) (hl : rs.length ≤ 9223372036854775807) (_ : I64 W) (_ : ∀ r ∈ rs, RulI r) (_ : I64 n) (hk : I64 k) :
    Calls Try.prog 6 #[.agg #[.int .i64 W, .slice p rs.length c], .int .i64 n, .int .i64 k] w fun e w' => e = .returned (.bool true) ∧ Below w.heap.size w w' := by
  by_cases hg : 12 < rs.length ∨ (rs.length ≤ 12 ∧ 0 < rs.length ∧ 400 < k) ∨ (rs.length ≤ 12 ∧ 0 < rs.length ∧ ¬ 400 < k ∧ k < -400)
  · exact calAdds_great W n k p rs.length c w hl hg
  · obtain ⟨X, E, H⟩ := add_two w W n k p b off c rs hs (by omega) hk
    exact calAdds_small W n k X E p rs.length c w (by omega) (by omega) H
end Go.Proofs.Ytglkhoekpafddaa
