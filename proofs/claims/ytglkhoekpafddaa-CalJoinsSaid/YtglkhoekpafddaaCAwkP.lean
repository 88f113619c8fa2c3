/- The document's fixed calendar (Saturdays and Sundays, and January 1, moved on) around the turn of 2022: no word of the program. -/
import Derived.Test.YtglkhoekpafddaaCOpen
namespace Go.Proofs.Ytglkhoekpafddaa
open Go.RowKit

def upsC (W n : Int) (u d : Nat) : Bool := decide (u ≤ 6) && decide (d ≤ 6) && !offB W (n + u) && !offB W (n - d) && (List.range u).all (fun j => offB W (n + j)) && (List.range d).all (fun j => offB W (n - j))
theorem ups_of {W n : Int} {u d : Nat} (h : upsC W n u d = true) : Ups W n u d := by
  unfold upsC at h
  simp only [Bool.and_eq_true, decide_eq_true_eq, Bool.not_eq_true', List.all_eq_true, List.mem_range] at h
  obtain ⟨⟨⟨⟨⟨a, b⟩, c⟩, d⟩, e⟩, f⟩ := h
  exact ⟨a, b, c, d, e, f⟩
def ruleJ : Rul := ⟨1, 1, 1, 0, 0, 0, 1900, 2199, 1⟩
theorem ruleJ_fit : fitB ruleJ = true := by decide
theorem calJ_one (y N X : Int) (u d : Nat) (hy : 1900 ≤ y) (hy' : y ≤ 2199) (hN : dayI y 1 1 = N) (hu : upsC 96 N u d = true) (hX : movI 96 N 1 u d = X) : dayO 96 ruleJ y = some X := by
  unfold dayO baseO
  rw [if_neg (show ¬ (y < ruleJ.fr ∨ ruleJ.to < y) from fun a => by rcases a with a | a; exact absurd a (by show ¬ y < 1900; omega); exact absurd a (by show ¬ (2199 : Int) < y; omega)), if_pos (show ruleJ.kind = 1 from rfl), if_pos (show okD y ruleJ.mon ruleJ.day from ⟨hy, hy', by decide, by decide, by decide, by have := len_lo y ruleJ.mon; have e : ruleJ.day = 1 := rfl; omega⟩), Option.map_some]
  rw [show dayI y ruleJ.mon ruleJ.day = N from hN, show ruleJ.mv = 1 from rfl, mv_eq (ups_of hu), hX]
theorem calJ_2021 : dayO 96 ruleJ 2021 = some 44195 := calJ_one 2021 44195 44195 0 0 (by decide) (by decide) (by decide) (by decide) (by decide)
theorem calJ_2022 : dayO 96 ruleJ 2022 = some 44562 := calJ_one 2022 44560 44562 2 1 (by decide) (by decide) (by decide) (by decide) (by decide)
theorem calJ_2023 : dayO 96 ruleJ 2023 = some 44926 := calJ_one 2023 44925 44926 1 2 (by decide) (by decide) (by decide) (by decide) (by decide)
theorem calJ_2024 : dayO 96 ruleJ 2024 = some 45290 := calJ_one 2024 45290 45290 0 0 (by decide) (by decide) (by decide) (by decide) (by decide)
theorem isD_44923 : IsD 44923 2022 12 30 := ⟨by unfold okD; decide, by decide⟩
theorem holJ_44923 : holB 96 [ruleJ] 44923 (yrI 44923) = false := by
  rw [yr_eq isD_44923]
  unfold holB hitB
  rw [List.any_cons, List.any_nil, Bool.or_false, if_neg (show ¬ ruleJ.kind = 4 by decide), show (2022 - 1 : Int) = 2021 by decide, show (2022 + 1 : Int) = 2023 by decide, calJ_2021, calJ_2022, calJ_2023]
  decide
theorem opJ_44923 : opB 96 [ruleJ] 44923 = true := by
  unfold opB
  rw [holJ_44923]
  decide
theorem isD_44924 : IsD 44924 2022 12 31 := ⟨by unfold okD; decide, by decide⟩
theorem holJ_44924 : holB 96 [ruleJ] 44924 (yrI 44924) = false := by
  rw [yr_eq isD_44924]
  unfold holB hitB
  rw [List.any_cons, List.any_nil, Bool.or_false, if_neg (show ¬ ruleJ.kind = 4 by decide), show (2022 - 1 : Int) = 2021 by decide, show (2022 + 1 : Int) = 2023 by decide, calJ_2021, calJ_2022, calJ_2023]
  decide
theorem opJ_44924 : opB 96 [ruleJ] 44924 = false := by
  unfold opB
  rw [holJ_44924]
  decide
theorem isD_44925 : IsD 44925 2023 1 1 := ⟨by unfold okD; decide, by decide⟩
theorem holJ_44925 : holB 96 [ruleJ] 44925 (yrI 44925) = false := by
  rw [yr_eq isD_44925]
  unfold holB hitB
  rw [List.any_cons, List.any_nil, Bool.or_false, if_neg (show ¬ ruleJ.kind = 4 by decide), show (2023 - 1 : Int) = 2022 by decide, show (2023 + 1 : Int) = 2024 by decide, calJ_2022, calJ_2023, calJ_2024]
  decide
theorem opJ_44925 : opB 96 [ruleJ] 44925 = false := by
  unfold opB
  rw [holJ_44925]
  decide
theorem isD_44926 : IsD 44926 2023 1 2 := ⟨by unfold okD; decide, by decide⟩
theorem holJ_44926 : holB 96 [ruleJ] 44926 (yrI 44926) = true := by
  rw [yr_eq isD_44926]
  unfold holB hitB
  rw [List.any_cons, List.any_nil, Bool.or_false, if_neg (show ¬ ruleJ.kind = 4 by decide), show (2023 - 1 : Int) = 2022 by decide, show (2023 + 1 : Int) = 2024 by decide, calJ_2022, calJ_2023, calJ_2024]
  decide
theorem opJ_44926 : opB 96 [ruleJ] 44926 = false := by
  unfold opB
  rw [holJ_44926]
  decide
theorem isD_44927 : IsD 44927 2023 1 3 := ⟨by unfold okD; decide, by decide⟩
theorem holJ_44927 : holB 96 [ruleJ] 44927 (yrI 44927) = false := by
  rw [yr_eq isD_44927]
  unfold holB hitB
  rw [List.any_cons, List.any_nil, Bool.or_false, if_neg (show ¬ ruleJ.kind = 4 by decide), show (2023 - 1 : Int) = 2022 by decide, show (2023 + 1 : Int) = 2024 by decide, calJ_2022, calJ_2023, calJ_2024]
  decide
theorem opJ_44927 : opB 96 [ruleJ] 44927 = true := by
  unfold opB
  rw [holJ_44927]
  decide
theorem isD_44928 : IsD 44928 2023 1 4 := ⟨by unfold okD; decide, by decide⟩
theorem holJ_44928 : holB 96 [ruleJ] 44928 (yrI 44928) = false := by
  rw [yr_eq isD_44928]
  unfold holB hitB
  rw [List.any_cons, List.any_nil, Bool.or_false, if_neg (show ¬ ruleJ.kind = 4 by decide), show (2023 - 1 : Int) = 2022 by decide, show (2023 + 1 : Int) = 2024 by decide, calJ_2022, calJ_2023, calJ_2024]
  decide
theorem opJ_44928 : opB 96 [ruleJ] 44928 = true := by
  unfold opB
  rw [holJ_44928]
  decide
theorem isD_44929 : IsD 44929 2023 1 5 := ⟨by unfold okD; decide, by decide⟩
theorem holJ_44929 : holB 96 [ruleJ] 44929 (yrI 44929) = false := by
  rw [yr_eq isD_44929]
  unfold holB hitB
  rw [List.any_cons, List.any_nil, Bool.or_false, if_neg (show ¬ ruleJ.kind = 4 by decide), show (2023 - 1 : Int) = 2022 by decide, show (2023 + 1 : Int) = 2024 by decide, calJ_2022, calJ_2023, calJ_2024]
  decide
theorem opJ_44929 : opB 96 [ruleJ] 44929 = true := by
  unfold opB
  rw [holJ_44929]
  decide
theorem isD_44930 : IsD 44930 2023 1 6 := ⟨by unfold okD; decide, by decide⟩
theorem holJ_44930 : holB 96 [ruleJ] 44930 (yrI 44930) = false := by
  rw [yr_eq isD_44930]
  unfold holB hitB
  rw [List.any_cons, List.any_nil, Bool.or_false, if_neg (show ¬ ruleJ.kind = 4 by decide), show (2023 - 1 : Int) = 2022 by decide, show (2023 + 1 : Int) = 2024 by decide, calJ_2022, calJ_2023, calJ_2024]
  decide
theorem opJ_44930 : opB 96 [ruleJ] 44930 = true := by
  unfold opB
  rw [holJ_44930]
  decide
theorem calJ_ok : OkC 96 [ruleJ] := ⟨by decide, by decide, by decide, fun r hr => by rw [List.mem_singleton] at hr; subst hr; exact ruleJ_fit⟩
theorem srchJ_adj : srch (opB 96 [ruleJ]) 44925 1 = some 44927 :=
  srch_eq (.hit 2 (fun j hj => by
    rcases (show j = 0 ∨ j = 1 by omega) with rfl | rfl
    · exact ⟨by decide, opJ_44925⟩
    · exact ⟨by decide, opJ_44926⟩) (by decide) opJ_44927)
theorem cntJ : cntN (opB 96 [ruleJ]) 44923 7 = 4 := by
  unfold cntN cntN cntN cntN cntN cntN cntN cntN
  rw [show (44923 + ((0 : Nat) : Int)) = 44923 by decide, show (44923 + ((1 : Nat) : Int)) = 44924 by decide, show (44923 + ((2 : Nat) : Int)) = 44925 by decide, show (44923 + ((3 : Nat) : Int)) = 44926 by decide, show (44923 + ((4 : Nat) : Int)) = 44927 by decide, show (44923 + ((5 : Nat) : Int)) = 44928 by decide, show (44923 + ((6 : Nat) : Int)) = 44929 by decide, opJ_44923, opJ_44924, opJ_44925, opJ_44926, opJ_44927, opJ_44928, opJ_44929]
  rfl
end Go.Proofs.Ytglkhoekpafddaa
