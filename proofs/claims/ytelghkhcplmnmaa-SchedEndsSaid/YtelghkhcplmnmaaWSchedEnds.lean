/- The walk of SchedEnds: dates rise from the start to the end; periods follow one another. -/
import Derived.Test.YtelghkhcplmnmaaSpS
namespace Go.Proofs.Ytelghkhcplmnmaa
open Go.RowKit

theorem schedEnds_walk (s : Spc) (W : Int) (p : Option Addr) (b off c : Nat) (rs : List Rul) (w : World) (hs : RSrc w p b off rs) (hl : rs.length ≤ 9223372036854775807) (hI : SpcI s) (_ : I64 W) (_ : ∀ r ∈ rs, RulI r) :
    Calls Try.prog 3 #[.agg #[.int .i64 s.st, .int .i64 s.en, .int .i64 s.n, .int .i64 s.unit, .int .i64 s.stub, .int .i64 s.roll, .int .i64 s.conv, .int .i64 s.lag, .int .i64 W, .slice p rs.length c]] w fun e w' => e = .returned (.bool true) ∧ Below w.heap.size w w' := by
  by_cases h8 : rs.length ≤ 8
  · have HSm : ∀ wx, Below w.heap.size w wx → Calls Try.prog 6 #[.agg #[.int .i64 s.st, .int .i64 s.en, .int .i64 s.n, .int .i64 s.unit, .int .i64 s.stub, .int .i64 s.roll, .int .i64 s.conv, .int .i64 s.lag, .int .i64 W, .slice p rs.length c]] wx fun e w' => (∃ b, e = .returned (.bool b)) ∧ Below wx.heap.size wx w' := fun wx _ => small_few s W p rs.length c wx h8 hI.n.2
    obtain ⟨A, B, hA⟩ := chk_ex W rs
    obtain ⟨E, hE⟩ := spc_ex s A
    by_cases h0 : E = 0
    · subst h0
      obtain ⟨hok, rfl⟩ := spc_ok hE
      obtain ⟨hC, _⟩ := chk_ok hA
      obtain ⟨K, hK⟩ := dat_ex hok
      by_cases hm : K < 1200
      · have hcu := cut_le s K
        have HD : ∀ wx, Below w.heap.size w wx → Calls Try.prog 8 #[.agg #[.int .i64 s.st, .int .i64 s.en, .int .i64 s.n, .int .i64 s.unit, .int .i64 s.stub, .int .i64 s.roll, .int .i64 s.conv, .int .i64 s.lag, .int .i64 W, .slice p rs.length c]] wx fun e w' => IntsOut (datL s (cutN s K)) 0 wx e w' ∧ Below wx.heap.size wx w' := fun wx hb => (schDates_yes s W K p b off c rs wx hok hC hK (hs.below hb)).mono fun e w' ⟨a, b⟩ => ⟨by have := ints_of a; rw [if_pos hm, if_pos hm] at this; exact this, b⟩
        have base : ∀ (ps : List Per) (F : Int), ((F = 51 ∧ ps = []) ∨ (F = 0 ∧ ps.length = cutN s K + 1 ∧ ∀ i < cutN s K + 1, PerFit (datL s (cutN s K)) s.conv s.lag ps i)) → EndH s (datL s (cutN s K)) (cutN s K + 1) ps F := fun ps F hk =>
          ⟨by rw [dat_len], by omega, by omega, dat_first s _, dat_last s _, fun i hi => dat_lt hok hK hcu (by omega), hk, hok.l1⟩
        by_cases ha : ∀ j < cutN s K + 1, (perI (opB W rs) s (datL s (cutN s K)) j).isSome = true
        · refine schedEnds_go s W 0 p rs.length c (cutN s K + 1) _ (perL (opB W rs) s (datL s (cutN s K)) (cutN s K + 1)) w (base _ 0 (Or.inr ⟨rfl, perL_len _ _ _ _, fun i hi => per_fit hok hK ha hi⟩)) HSm HD (fun wx hb => (schPeriods_yes s W K p b off c rs wx hok hC hK (hs.below hb)).mono fun e w' ⟨a, b⟩ => ⟨?_, b⟩)
          have := pers_of a
          rw [if_pos ⟨hm, ha⟩, if_pos hm, if_pos ha] at this
          exact this
        · refine schedEnds_go s W 51 p rs.length c (cutN s K + 1) _ [] w (base _ 51 (Or.inl ⟨rfl, rfl⟩)) HSm HD (fun wx hb => (schPeriods_yes s W K p b off c rs wx hok hC hK (hs.below hb)).mono fun e w' ⟨a, b⟩ => ⟨?_, b⟩)
          have := pers_of a
          rw [if_neg (fun h => ha h.2), if_pos hm, if_neg ha] at this
          exact this
      · refine schedEnds_wrong s W 81 p rs.length c w (by decide) HSm (fun wx hb => (schDates_yes s W K p b off c rs wx hok hC hK (hs.below hb)).mono fun e w' ⟨a, b⟩ => ⟨?_, b⟩)
        rcases a with ⟨_, a⟩ | ⟨a, _⟩
        · exact a
        · omega
    · exact schedEnds_wrong s W E p rs.length c w h0 HSm (fun wx hb => schDates_no s W A B E p b off c rs wx hA hE h0 (hs.below hb) hl)
  · exact schedEnds_great s W p rs.length c w (by omega) hl
end Go.Proofs.Ytelghkhcplmnmaa
