/- sched's Periods of any schedule; the contract of awake. -/
import Derived.Test.YtelghkhcplmnmaaSpJ
import Derived.Test.YtelghkhcplmnmaaHao
import Derived.Test.YtelghkhcplmnmaaHas
import Derived.Test.YtelghkhcplmnmaaHay
namespace Go.Proofs.Ytelghkhcplmnmaa
open Go.RowKit

theorem schPeriods_no (s : Spc) (W A B E : Int) (p : Option Addr) (b off c : Nat) (rs : List Rul) (w : World) (hA : ChkR W rs A B) (h : SpcR s A E) (hE : E ≠ 0) (hs : RSrc w p b off rs) (hl : rs.length ≤ 9223372036854775807) :
    Calls Try.prog 9 #[.agg #[.int .i64 s.st, .int .i64 s.en, .int .i64 s.n, .int .i64 s.unit, .int .i64 s.stub, .int .i64 s.roll, .int .i64 s.conv, .int .i64 s.lag, .int .i64 W, .slice p rs.length c]] w fun e w' => e = .returned (.tuple #[.slice none 0 0, .int .i64 E]) ∧ Below w.heap.size w w' :=
  schPeriods_bad s W E _ w hE (fun wx hb => schDates_no s W A B E p b off c rs wx hA h hE (hs.below hb) hl)

theorem schPeriods_yes (s : Spc) (W : Int) (K : Nat) (p : Option Addr) (b off c : Nat) (rs : List Rul) (w : World) (h : SpcOk s) (hC : OkC W rs) (hK : DatR s K) (hs : RSrc w p b off rs) :
    Calls Try.prog 9 #[.agg #[.int .i64 s.st, .int .i64 s.en, .int .i64 s.n, .int .i64 s.unit, .int .i64 s.stub, .int .i64 s.roll, .int .i64 s.conv, .int .i64 s.lag, .int .i64 W, .slice p rs.length c]] w fun e w' => PerZ (opB W rs) s K w e w' ∧ Below w.heap.size w w' := by
  by_cases hm : 1200 ≤ K
  · refine (schPeriods_bad s W 81 _ w (by decide) (fun wx hb => (schDates_yes s W K p b off c rs wx h hC hK (hs.below hb)).mono ?_)).mono ?_
    · rintro e w' ⟨⟨_, he⟩ | ⟨hlt, _⟩, hb'⟩
      · exact ⟨he, hb'⟩
      · omega
    · rintro e w' ⟨he, hb'⟩
      exact ⟨Or.inl ⟨hm, he⟩, hb'⟩
  · have hcu := cut_le s K
    have hlen := dat_len s (cutN s K)
    refine (schPeriods_go (opB W rs) s W _ (datL s (cutN s K)) (cutN s K + 1) w hlen (by omega) (by omega) ⟨fun wx hb => ?_, fun j hj wx hb => ?_, fun j hj y hy wx hb => ?_, dat_first s _⟩).mono ?_
    · refine (schDates_yes s W K p b off c rs wx h hC hK (hs.below hb)).mono ?_
      rintro e w' ⟨⟨h1, _⟩ | ⟨_, v, he, ho⟩, hb'⟩
      · omega
      · exact ⟨⟨v, he, by rw [hlen]; exact ho⟩, hb'⟩
    · exact adjP_ok W _ s.conv p b off c rs wx hC (hs.below hb) ⟨h.c1, h.c2⟩ (dat_day h hK hcu (by omega))
    · have l1 := h.l1
      have l2 := h.l2
      have hd := adj_day (dat_day h hK hcu (by omega)) hy
      refine payment_any s W y _ _ _ wx (fun hl => ?_) (fun hl wy hb2 => ?_)
      · rw [if_neg (by omega)]; exact ⟨rfl, rfl⟩
      · rw [if_pos (by omega)]
        have := addP_ok W y s.lag p b off c rs wy hC ((hs.below hb).below hb2) hd (by omega) (by omega) (by omega)
        rw [if_neg (by omega), show s.lag.natAbs = s.lag.toNat by omega] at this
        exact this
    · rintro e w' ⟨ho, hb'⟩
      exact ⟨Or.inr ⟨by omega, ho⟩, hb'⟩

/-- The fixed schedule. -/
def spcA : Spc := ⟨45670, 45898, 3, 3, 1, 0, 0, 0⟩
theorem spcA_ok : SpcOk spcA := ⟨⟨by decide, by decide⟩, ⟨by decide, by decide⟩, by decide, by decide, by decide, by decide, by decide, by decide, by decide, by decide, by decide, Or.inl rfl, by decide, by decide, by decide, by decide⟩
theorem calA_ok : OkC 0 [] := ⟨by decide, by decide, by decide, fun r hr => by cases hr⟩
theorem isD_45898 : IsD 45898 2025 8 31 := ⟨by unfold okD; decide, by decide⟩
theorem pkA (k : Nat) (X S : Int) (hS : stepN spcA ((k : Int) * -1) = S) (h0 : 0 ≤ Go.Proofs.Ytelghkhcplmnmaa.atI 2025 8 S ∧ Go.Proofs.Ytelghkhcplmnmaa.atI 2025 8 S < 3600) (hX : monI 2025 8 31 S false = X) : pkO spcA k = some X := by
  unfold pkO
  rw [show ancI spcA = 45898 from rfl, show sgnI spcA = -1 from rfl, pt_months isD_45898 (by decide), hS, show spcA.roll = 0 from rfl, rollO_in h0, if_pos rfl, hX]
theorem pkA1 : pkO spcA 1 = some 45806 := pkA 1 _ (-3) (by decide) (by decide) (by decide)
theorem pkA2 : pkO spcA 2 = some 45714 := pkA 2 _ (-6) (by decide) (by decide) (by decide)
theorem pkA3 : pkO spcA 3 = some 45624 := pkA 3 _ (-9) (by decide) (by decide) (by decide)
theorem datA : DatR spcA 2 := by
  refine ⟨fun j hj => ?_, ?_⟩
  · rcases (show j = 0 ∨ j = 1 by omega) with rfl | rfl
    · rw [pkA1]; rfl
    · rw [pkA2]; rfl
  · rw [pkA3]; rfl
theorem datA_list : datL spcA 2 = [45670, 45714, 45806, 45898] := by
  have e0 : cutI spcA 2 0 = 45714 := by
    unfold cutI
    rw [if_pos (by decide), pkA2]; rfl
  have e1 : cutI spcA 2 1 = 45806 := by
    unfold cutI
    rw [if_pos (by decide), pkA1]; rfl
  show [45670, cutI spcA 2 0, cutI spcA 2 1, 45898] = _
  rw [e0, e1]
theorem perA (op : Int → Bool) (a b : Int) : perO op spcA a b = some ⟨a, b, a, b, b⟩ := by
  unfold perO
  rw [show spcA.conv = 0 from rfl, adjO_0, adjO_0, show spcA.lag = 0 from rfl]
  rfl
theorem rsrc_nil (w : World) : RSrc w none 0 0 [] := ⟨fun h => absurd h (by decide), fun h => absurd h (by decide), fun i hi => absurd hi (by simp)⟩

/-- awake's Dates and Periods. -/
theorem awakeD (wx : World) : Calls Try.prog 8 #[.agg #[.int .i64 45670, .int .i64 45898, .int .i64 3, .int .i64 3, .int .i64 1, .int .i64 0, .int .i64 0, .int .i64 0, .int .i64 0, .slice none 0 0]] wx fun e w' => (∃ q g c, e = .returned (.tuple #[.slice q 4 c, .int .i64 0]) ∧ ISrc w' q g 0 [45670, 45714, 45806, 45898] ∧ c ≤ 9223372036854775807) ∧ Below wx.heap.size wx w' := by
  refine (schDates_yes spcA 0 2 none 0 0 0 [] wx spcA_ok calA_ok datA (rsrc_nil wx)).mono ?_
  rintro e w' ⟨⟨h, _⟩ | ⟨_, v, he, ho⟩, hb⟩
  · omega
  · rw [cut_short (Or.inl rfl), datA_list] at ho
    obtain ⟨q, g, c, rfl, hs, _, _, hcm⟩ := iown_src ho rfl
    exact ⟨⟨q, g, c, he, hs, by unfold maxLen at hcm; omega⟩, hb⟩
theorem awakeP (wx : World) : Calls Try.prog 9 #[.agg #[.int .i64 45670, .int .i64 45898, .int .i64 3, .int .i64 3, .int .i64 1, .int .i64 0, .int .i64 0, .int .i64 0, .int .i64 0, .slice none 0 0]] wx fun e w' => (∃ g c, e = .returned (.tuple #[.slice (some ⟨g, 0, none⟩) 3 c, .int .i64 0]) ∧ g < w'.heap.size ∧ w'.cell? ⟨g, 14, none⟩ = some (.int .i64 45898) ∧ c ≤ 9223372036854775807) ∧ Below wx.heap.size wx w' := by
  refine (schPeriods_yes spcA 0 2 none 0 0 0 [] wx spcA_ok calA_ok datA (rsrc_nil wx)).mono ?_
  rintro e w' ⟨⟨h, _⟩ | ⟨_, ho⟩, hb⟩
  · omega
  · rw [cut_short (Or.inl rfl), datA_list] at ho
    rcases ho with ⟨⟨j, hj, hn⟩, _⟩ | ⟨_, u, he, ho⟩
    · unfold perI at hn
      rw [perA] at hn
      cases hn
    · obtain ⟨q, g, c, rfl, hs, _, _, hcm⟩ := pown_src ho (perL_len _ _ _ _)
      have hl : 0 < (perL (opB 0 []) spcA [45670, 45714, 45806, 45898] (2 + 1)).length := by rw [perL_len]; omega
      have hq := hs.at_ hl
      subst hq
      refine ⟨⟨g, c, he, hs.lt hl, ?_, by unfold maxLen at hcm; omega⟩, hb⟩
      have hc := (hs.cell 2 (by rw [perL_len]; omega)).c4
      have e2 : (perL (opB 0 []) spcA [45670, 45714, 45806, 45898] (2 + 1)).getD 2 per0 = ⟨45806, 45898, 45806, 45898, 45898⟩ := by
        show (perI (opB 0 []) spcA [45670, 45714, 45806, 45898] 2).getD per0 = _
        unfold perI
        rw [perA]; rfl
      rw [e2] at hc
      exact hc

end Go.Proofs.Ytelghkhcplmnmaa
