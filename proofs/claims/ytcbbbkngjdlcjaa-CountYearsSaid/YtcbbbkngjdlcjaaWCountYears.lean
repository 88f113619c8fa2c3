/- The walk of CountYears: any kind, calendar and days. -/
import Derived.Test.YtcbbbkngjdlcjaaHbu
import Derived.Test.YtcbbbkngjdlcjaaNShort
import Derived.Test.YtcbbbkngjdlcjaaFCal
namespace Go.Proofs.Ytcbbbkngjdlcjaa
open Go.RowKit

theorem is_same7 (a : Nat) (w : World) (h : Hid (U64 (a : Nat))) :
    Calls Try.prog 14 #[.float .f64 a, .int .u64 a] w fun e w' => e = .returned (.bool true) ∧ w' = w := by
  have := is_any a a w h.out h.out
  rw [show sameB (a : Int) a = true by unfold sameB; simp] at this
  exact this
set_option maxHeartbeats 1600000 in
theorem countYears_great (kind W a b : Int) (p : Option Addr) (N c : Nat) (w : World) (h1 : 100 < N) (h2 : N ≤ 9223372036854775807) :
    Calls Try.prog 4 #[.int .i64 kind, .agg #[.int .i64 W, .slice p N c], .int .i64 a, .int .i64 b] w fun e w' => e = .returned (.bool true) ∧ Below w.heap.size w w' := by
  have HB := hideS (cbox_first w W (.slice p N c))
  go_enter Try.func4, Try.ntmps4
  go_wp2_with (go_at_call 9; refine (awake7 _).mono ?_; rintro e w1 ⟨rfl, hb1⟩)
  go_ret
  exact ⟨rfl, HB.out.trans (hb1.mono HB.out.size)⟩

set_option maxHeartbeats 3200000 in
theorem countYears_small (kind W a b E : Int) (R : Nat) (p : Option Addr) (N c : Nat) (w : World) (hN : N ≤ 100) (hR : Hid (U64 (R : Nat))) (HP : Hid (YearH w kind W a b R E (.slice p N c))) (HR : Hid (RefYH w kind W a b R E (.slice p N c))) :
    Calls Try.prog 4 #[.int .i64 kind, .agg #[.int .i64 W, .slice p N c], .int .i64 a, .int .i64 b] w fun e w' => e = .returned (.bool true) ∧ Below w.heap.size w w' := by
  have hl' : ¬ (100 : Int) < N := by omega
  have HI := hideS (fun wx => is_same7 R wx hR)
  unfold YearH at HP
  unfold RefYH at HR
  obtain ⟨S, hS⟩ := short_any kind W a b p N c (by omega)
  have HS' := hideS hS
  clear hS
  generalize hRi : ((R : Nat) : Int) = Ri at *
  clear hRi
  cases S
  · go_enter Try.func4, Try.ntmps4
    go_wp2_with fail
    refine (HS'.out _).mono ?_
    rintro e w1 ⟨rfl, hb1⟩
    have X1 := hideS (CBoxP.first hb1)
    clear hb1
    go_wp2_with (go_at_call 9; refine (awake7 _).mono ?_; rintro e w2 ⟨rfl, hb2⟩)
    go_ret
    exact ⟨rfl, (X1.out.step hb2).below⟩
  · go_enter Try.func4, Try.ntmps4
    go_wp2_with fail
    refine (HS'.out _).mono ?_
    rintro e w1 ⟨rfl, hb1⟩
    have X1 := hideS (CBoxP.first hb1)
    clear hb1
    obtain ⟨c0, c1⟩ := X1.out.cells
    go_wp2_with fail
    refine (HP.out _ X1.out.below).mono ?_
    rintro e w2 ⟨rfl, hb2⟩
    have X2 := hideS (X1.out.step hb2)
    clear hb2 X1 c0 c1
    obtain ⟨c0, c1⟩ := X2.out.cells
    go_wp2_with fail
    refine (HR.out _ X2.out.below).mono ?_
    rintro e w3 ⟨rfl, hb3⟩
    have X3 := hideS (X2.out.step hb3)
    clear hb3 X2 c0 c1
    go_wp2_with (first | (go_at_call 14; refine (HI.out _).mono ?_; rintro e w4 ⟨rfl, rfl⟩) | (go_at_call 9; refine (awake7 _).mono ?_; rintro e w5 ⟨rfl, hb5⟩))
    go_ret
    exact ⟨rfl, (X3.out.step hb5).below⟩
theorem countYears_walk (kind W a b : Int) (p : Option Addr) (bb off c : Nat) (rs : List Rul) (w : World) (hs : RSrc w p bb off rs) (hl : rs.length ≤ 9223372036854775807) (_ : I64 kind) (_ : I64 W) (_ : ∀ r ∈ rs, RulI r) (_ : I64 a) (_ : I64 b) :
    Calls Try.prog 4 #[.int .i64 kind, .agg #[.int .i64 W, .slice p rs.length c], .int .i64 a, .int .i64 b] w fun e w' => e = .returned (.bool true) ∧ Below w.heap.size w w' := by
  by_cases hg : 100 < rs.length
  · exact countYears_great kind W a b p rs.length c w hg hl
  · obtain ⟨P, Q, E, h⟩ := fracR_ex kind W a b rs
    exact countYears_small kind W a b E (yW P Q) p rs.length c w (by omega) (yW_rank Q h.bd.1 h.bd.2.1).1 (h.year p bb off c w hs hl) (h.refY p bb off c w hs (by omega))
end Go.Proofs.Ytcbbbkngjdlcjaa
