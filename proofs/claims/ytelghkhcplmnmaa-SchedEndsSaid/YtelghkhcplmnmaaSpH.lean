/- sched's Dates of any schedule. -/
import Derived.Test.YtelghkhcplmnmaaSpCc
import Derived.Test.YtelghkhcplmnmaaSpF
import Derived.Test.YtelghkhcplmnmaaSpG
namespace Go.Proofs.Ytelghkhcplmnmaa
open Go.RowKit

theorem cut_fore {s : Spc} (h : ¬ s.stub ≤ 2) (C : Nat) : (List.range C).map (cutI s C) = innL s C := by
  unfold innL
  refine List.map_congr_left fun i _ => ?_
  unfold cutI
  rw [if_neg h]
theorem cut_back {s : Spc} (h : s.stub ≤ 2) (C : Nat) : (List.range C).map (cutI s C) = (innL s C).reverse := by
  refine List.ext_getElem (by simp [inn_len]) fun i h1 h2 => ?_
  have hi : i < C := by simpa using h1
  have e := inn_cut (s := s) (Nat.le_refl C) hi
  rw [if_pos h] at e
  rw [List.getElem_map, List.getElem_range, ← e, List.getElem_reverse, List.getD_eq_getElem?_getD]
  have hl := inn_len s C
  rw [List.getElem?_eq_getElem (by omega)]
  simp [hl]

theorem schDates_yes (s : Spc) (W : Int) (K : Nat) (p : Option Addr) (b off c : Nat) (rs : List Rul) (w : World) (h : SpcOk s) (hC : OkC W rs) (hK : DatR s K) (hs : RSrc w p b off rs) :
    Calls Try.prog 8 #[.agg #[.int .i64 s.st, .int .i64 s.en, .int .i64 s.n, .int .i64 s.unit, .int .i64 s.stub, .int .i64 s.roll, .int .i64 s.conv, .int .i64 s.lag, .int .i64 W, .slice p rs.length c]] w fun e w' => DatO s K w e w' ∧ Below w.heap.size w w' := by
  have hq : ∀ e w', DatQ s.st s.en K (cutN s K) ((List.range (cutN s K)).map (cutI s (cutN s K))) w e w' ∧ Below w.heap.size w w' → DatO s K w e w' ∧ Below w.heap.size w w' := fun e w' ⟨a, b⟩ => ⟨by
    rcases a with a | ⟨a, u, e1, e2⟩
    · exact Or.inl a
    · exact Or.inr ⟨a, u, e1, e2⟩, b⟩
  have H : ∀ bk, bk = decide (s.stub ≤ 2) → DatP s W (.slice p rs.length c) K (cutN s K) (innL s) (evenB s K) bk ((List.range (cutN s K)).map (cutI s (cutN s K))) w := fun bk hbk =>
    ⟨fun wx hb => schCheck_any s W 0 0 0 p b off c rs wx (.ok hC) (.cal h) (hs.below hb) (by have := hC.len; omega), fun wx => schBet_any s W _ K wx h hK, fun wx => by rw [hbk]; exact stubF_any s W _ wx h.t1 h.t2, inn_len s,
      fun hCK j hj => by rw [inn_get hj, inn_get (by omega)], by
        rw [hbk]
        by_cases e : s.stub ≤ 2
        · rw [decide_eq_true e, if_pos rfl]; exact cut_back e _
        · rw [decide_eq_false e, if_neg (by decide)]; exact cut_fore e _⟩
  by_cases hm : 1200 ≤ K
  · exact (schDates_many s W _ K _ _ _ _ _ w (H _ rfl) hm).mono hq
  · obtain ⟨C, hC', hCK, _, hst⟩ := tail_cases hK h.t1 h.t2
    by_cases e : s.stub ≤ 2
    · refine (schDates_back s W _ K _ _ _ _ w (H true (decide_eq_true e).symm) (by omega) ?_).mono hq
      rw [hC']
      rcases hst with ⟨a, a2⟩ | ⟨a, a2, a3⟩ | ⟨a, a2, a3, a4⟩ | ⟨a, a2, a3, a4⟩
      · exact Or.inl ⟨by omega, a2⟩
      · exact Or.inr (Or.inl ⟨by omega, a2, a3⟩)
      · exact Or.inr (Or.inr (Or.inl ⟨by omega, a2, a3, by omega⟩))
      · exact Or.inr (Or.inr (Or.inr ⟨by omega, a2, a3, by omega⟩))
    · refine (schDates_fore s W _ K _ _ _ _ w (H false (decide_eq_false e).symm) (by omega) ?_).mono hq
      rw [hC']
      rcases hst with ⟨a, a2⟩ | ⟨a, a2, a3⟩ | ⟨a, a2, a3, a4⟩ | ⟨a, a2, a3, a4⟩
      · exact Or.inl ⟨by omega, a2⟩
      · exact Or.inr (Or.inl ⟨by omega, a2, a3⟩)
      · exact Or.inr (Or.inr (Or.inl ⟨by omega, a2, a3, by omega⟩))
      · exact Or.inr (Or.inr (Or.inr ⟨by omega, a2, a3, by omega⟩))

theorem schDates_no (s : Spc) (W A B E : Int) (p : Option Addr) (b off c : Nat) (rs : List Rul) (w : World) (hA : ChkR W rs A B) (h : SpcR s A E) (hE : E ≠ 0) (hs : RSrc w p b off rs) (hl : rs.length ≤ 9223372036854775807) :
    Calls Try.prog 8 #[.agg #[.int .i64 s.st, .int .i64 s.en, .int .i64 s.n, .int .i64 s.unit, .int .i64 s.stub, .int .i64 s.roll, .int .i64 s.conv, .int .i64 s.lag, .int .i64 W, .slice p rs.length c]] w fun e w' => e = .returned (.tuple #[.slice none 0 0, .int .i64 E]) ∧ Below w.heap.size w w' :=
  schDates_bad s W E _ w hE (fun wx hb => schCheck_any s W A B E p b off c rs wx hA h (hs.below hb) hl)
end Go.Proofs.Ytelghkhcplmnmaa
