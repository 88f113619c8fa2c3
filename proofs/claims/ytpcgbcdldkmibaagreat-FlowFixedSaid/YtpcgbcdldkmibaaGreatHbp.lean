/- sched's Periods of any schedule; the contract of awake. The contract of awake: what the document fixes. -/
import Derived.Test.YtpcgbcdldkmibaaGreatSpJ
import Derived.Test.YtpcgbcdldkmibaaGreatHar
import Derived.Test.YtpcgbcdldkmibaaGreatHav
import Derived.Test.YtpcgbcdldkmibaaGreatHap
namespace Go.Proofs.YtpcgbcdldkmibaaGreat
open Go.RowKit

theorem schPeriods_no (s : Spc) (W A B E : Int) (p : Option Addr) (b off c : Nat) (rs : List Rul) (w : World) (hA : ChkR W rs A B) (h : SpcR s A E) (hE : E ≠ 0) (hs : RSrc w p b off rs) (hl : rs.length ≤ 9223372036854775807) :
    Calls Tryz.prog 33 #[.agg #[.int .i64 s.st, .int .i64 s.en, .int .i64 s.n, .int .i64 s.unit, .int .i64 s.stub, .int .i64 s.roll, .int .i64 s.conv, .int .i64 s.lag, .int .i64 W, .slice p rs.length c]] w fun e w' => e = .returned (.tuple #[.slice none 0 0, .int .i64 E]) ∧ Below w.heap.size w w' :=
  schPeriods_bad s W E _ w hE (fun wx hb => schDates_no s W A B E p b off c rs wx hA h hE (hs.below hb) hl)

theorem schPeriods_yes (s : Spc) (W : Int) (K : Nat) (p : Option Addr) (b off c : Nat) (rs : List Rul) (w : World) (h : SpcOk s) (hC : OkC W rs) (hK : DatR s K) (hs : RSrc w p b off rs) :
    Calls Tryz.prog 33 #[.agg #[.int .i64 s.st, .int .i64 s.en, .int .i64 s.n, .int .i64 s.unit, .int .i64 s.stub, .int .i64 s.roll, .int .i64 s.conv, .int .i64 s.lag, .int .i64 W, .slice p rs.length c]] w fun e w' => PerZ (opB W rs) s K w e w' ∧ Below w.heap.size w w' := by
  by_cases hm : 1200 ≤ K
  · refine (schPeriods_bad s W 81 _ w (by decide) (fun wx hb => (schDates_yes s W K p b off c rs wx h hC hK (hs.below hb)).mono ?_)).mono ?_
    · rintro e w' ⟨⟨_, he⟩ | ⟨hlt, _⟩, hb'⟩
      · exact ⟨he, hb'⟩
      · omega
    · rintro e w' ⟨he, hb'⟩
      exact ⟨Or.inl ⟨hm, he⟩, hb'⟩
  · have hcu := cut_le s K
    have hlen := dat_len s (cutN s K)
    refine (schPeriods_go (opB W rs) s W _ (datL s (cutN s K)) (cutN s K + 1) w hlen (by omega) (by omega) ⟨fun wx hb => ?_, fun j hj wx hb => ?_, fun j hj y hy wx hb => ?_, dat_first s _⟩).mono ?_
    · refine (schDates_yes s W K p b off c rs wx h hC hK (hs.below hb)).mono ?_
      rintro e w' ⟨⟨h1, _⟩ | ⟨_, v, he, ho⟩, hb'⟩
      · omega
      · exact ⟨⟨v, he, by rw [hlen]; exact ho⟩, hb'⟩
    · exact adjP_ok W _ s.conv p b off c rs wx hC (hs.below hb) ⟨h.c1, h.c2⟩ (dat_day h hK hcu (by omega))
    · have l1 := h.l1
      have l2 := h.l2
      have hd := adj_day (dat_day h hK hcu (by omega)) hy
      refine payment_any s W y _ _ _ wx (fun hl => ?_) (fun hl wy hb2 => ?_)
      · rw [if_neg (by omega)]; exact ⟨rfl, rfl⟩
      · rw [if_pos (by omega)]
        have := addP_ok W y s.lag p b off c rs wy hC ((hs.below hb).below hb2) hd (by omega) (by omega) (by omega)
        rw [if_neg (by omega), show s.lag.natAbs = s.lag.toNat by omega] at this
        exact this
    · rintro e w' ⟨ho, hb'⟩
      exact ⟨Or.inr ⟨by omega, ho⟩, hb'⟩

end Go.Proofs.YtpcgbcdldkmibaaGreat
namespace Go.Proofs.YtpcgbcdldkmibaaGreat
open Go.RowKit

end Go.Proofs.YtpcgbcdldkmibaaGreat
