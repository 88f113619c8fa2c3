/- The walk of CalCounts: any calendar, any two days. -/
import Derived.Test.YtglkhoekpafddaaWCalMoves
import Derived.Test.YtglkhoekpafddaaCRefK
namespace Go.Proofs.Ytglkhoekpafddaa
open Go.RowKit

theorem count_two (w : World) (W x y : Int) (p : Option Addr) (b off c : Nat) (rs : List Rul) (hs : RSrc w p b off rs) (hl : rs.length ≤ 1000000) : ∃ X E, TwoH 16 24 w W p c rs.length x y X E := by
  obtain ⟨A, B, h⟩ := chk_ex W rs
  have bad : ∀ E, ((A ≠ 0 ∧ E = A) ∨ (A = 0 ∧ ¬ (isDayP x ∧ isDayP y) ∧ E = 51)) → ∃ X E, TwoH 16 24 w W p c rs.length x y X E := fun E hE =>
    ⟨_, _, fun wx hb => cntP_bad W x y p b off c rs A B E wx h (hs.below hb) (by omega) hE, fun wx hb => refCount_bad W x y p b off c rs A B E wx h (hs.below hb) hl hE⟩
  by_cases hA : A = 0
  · by_cases hd : isDayP x ∧ isDayP y
    · subst hA
      obtain ⟨hok, _⟩ := chk_ok h
      by_cases hxy : x ≤ y
      · exact ⟨_, _, fun wx hb => cntP_up W x y p b off c rs wx hok (hs.below hb) hd.1 hd.2 hxy, fun wx hb => refCount_up W x y p b off c rs wx hok (hs.below hb) hd.1 hd.2 hxy⟩
      · exact ⟨_, _, fun wx hb => cntP_down W x y p b off c rs wx hok (hs.below hb) hd.1 hd.2 (by omega), fun wx hb => refCount_down W x y p b off c rs wx hok (hs.below hb) hd.1 hd.2 (by omega)⟩
    · exact bad 51 (Or.inr ⟨hA, hd, rfl⟩)
  · exact bad A (Or.inl ⟨hA, rfl⟩)

set_option maxHeartbeats 1600000 in
theorem calCounts_great (W x y : Int) (p : Option Addr) (N c : Nat) (w : World) (h2 : N ≤ 9223372036854775807) (h : 12 < N ∨ (N ≤ 12 ∧ 0 < N ∧ (0 ≤ x ∧ 0 ≤ y ∧ x ≤ 109572 ∧ y ≤ 109572) ∧ (800 < x - y ∨ (¬ 800 < x - y ∧ 800 < y - x)))) :
    Calls Try.prog 7 #[.agg #[.int .i64 W, .slice p N c], .int .i64 x, .int .i64 y] w fun e w' => e = .returned (.bool true) ∧ Below w.heap.size w w' := by
  have HFw := hideS (fun wx => few_any W p N c wx h2)
  rcases h with h | ⟨h, h0, ⟨g0, g1, g2, g3⟩, hk | ⟨hk, hk2⟩⟩
  · rw [decide_eq_false (show ¬ N ≤ 12 by omega)] at HFw
    go_enter Try.func7, Try.ntmps7
    go_wp2_with (first | (go_at_call 21; refine (HFw.out _).mono ?_; rintro e w1 ⟨rfl, hb1⟩) | (go_at_call 9; refine (awake6 _).mono ?_; rintro e w2 ⟨rfl, hb2⟩))
    go_ret
    exact ⟨rfl, ((CBoxP.first hb1).step hb2).below⟩
  all_goals
    rw [decide_eq_true h] at HFw
    have h0' : (0 : Int) < N := by omega
    go_enter Try.func7, Try.ntmps7
    go_wp2_with fail
    refine (HFw.out _).mono ?_
    rintro e w1 ⟨rfl, hb1⟩
    have X1 := hideS (CBoxP.first hb1)
    clear hb1
    obtain ⟨c0, c1⟩ := X1.out.cells
    go_wp2_with (go_at_call 9; refine (awake6 _).mono ?_; rintro e w2 ⟨rfl, hb2⟩)
    go_ret
    exact ⟨rfl, (X1.out.step hb2).below⟩

set_option maxHeartbeats 3200000 in
theorem calCounts_small (W x y X E : Int) (p : Option Addr) (N c : Nat) (w : World) (hl : N ≤ 12) (hgo : ¬ (0 < N ∧ (0 ≤ x ∧ 0 ≤ y ∧ x ≤ 109572 ∧ y ≤ 109572) ∧ (800 < x - y ∨ 800 < y - x))) (H : Hid (TwoH 16 24 w W p c N x y X E)) :
    Calls Try.prog 7 #[.agg #[.int .i64 W, .slice p N c], .int .i64 x, .int .i64 y] w fun e w' => e = .returned (.bool true) ∧ Below w.heap.size w w' := by
  have HFw := hideS (fun wx => few_any W p N c wx (by omega))
  rw [decide_eq_true hl] at HFw
  have hgo' : ¬ (0 : Int) < N ∨ ((0 : Int) < N ∧ x < 0) ∨ ((0 : Int) < N ∧ 0 ≤ x ∧ y < 0) ∨ ((0 : Int) < N ∧ 0 ≤ x ∧ 0 ≤ y ∧ 109572 < x) ∨ ((0 : Int) < N ∧ 0 ≤ x ∧ 0 ≤ y ∧ x ≤ 109572 ∧ 109572 < y) ∨ ((0 : Int) < N ∧ 0 ≤ x ∧ 0 ≤ y ∧ x ≤ 109572 ∧ y ≤ 109572 ∧ ¬ 800 < x - y ∧ ¬ 800 < y - x) := by omega
  clear hgo
  rcases hgo' with h0 | ⟨h0, h1⟩ | ⟨h0, h1, h2⟩ | ⟨h0, h1, h2, h3⟩ | ⟨h0, h1, h2, h3, h4⟩ | ⟨h0, h1, h2, h3, h4, h5, h6⟩
  all_goals
    go_enter Try.func7, Try.ntmps7
    go_wp2_with fail
    refine (HFw.out _).mono ?_
    rintro e w1 ⟨rfl, hb1⟩
    have X1 := hideS (CBoxP.first hb1)
    clear hb1
    obtain ⟨c0, c1⟩ := X1.out.cells
    go_wp2_with fail
    refine (H.out.prog _ X1.out.below).mono ?_
    rintro e w2 ⟨rfl, hb2⟩
    have X2 := hideS (X1.out.step hb2)
    clear hb2 X1 c0 c1
    obtain ⟨c0, c1⟩ := X2.out.cells
    go_wp2_with fail
    refine (H.out.ref _ X2.out.below).mono ?_
    rintro e w3 ⟨rfl, hb3⟩
    have X3 := hideS (X2.out.step hb3)
    clear hb3 X2 c0 c1
    go_wp2_with (go_at_call 9; refine (awake6 _).mono ?_; rintro e w5 ⟨rfl, hb5⟩)
    go_ret
    exact ⟨rfl, (X3.out.step hb5).below⟩

theorem calCounts_walk (W x y : Int) (p : Option Addr) (b off c : Nat) (rs : List Rul) (w : World) (hs : RSrc w p b off rs) (hl : rs.length ≤ 9223372036854775807) (_ : I64 W) (_ : ∀ r ∈ rs, RulI r) (_ : I64 x) (_ : I64 y) :
    Calls Try.prog 7 #[.agg #[.int .i64 W, .slice p rs.length c], .int .i64 x, .int .i64 y] w fun e w' => e = .returned (.bool true) ∧ Below w.heap.size w w' := by
  by_cases hg : 12 < rs.length ∨ (rs.length ≤ 12 ∧ 0 < rs.length ∧ (0 ≤ x ∧ 0 ≤ y ∧ x ≤ 109572 ∧ y ≤ 109572) ∧ (800 < x - y ∨ (¬ 800 < x - y ∧ 800 < y - x)))
  · exact calCounts_great W x y p rs.length c w hl hg
  · obtain ⟨X, E, H⟩ := count_two w W x y p b off c rs hs (by omega)
    exact calCounts_small W x y X E p rs.length c w (by omega) (by omega) H
end Go.Proofs.Ytglkhoekpafddaa
