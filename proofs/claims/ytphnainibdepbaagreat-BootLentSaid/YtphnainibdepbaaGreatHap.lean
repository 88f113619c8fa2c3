/- The contracts of days, leapDays, actual and thirties. A calendar that came in: its weekend, and its rules as a list. -/
import Derived.Test.YtphnainibdepbaaGreatHal
import Derived.Lib.MinMax
import Derived.Test.YtphnainibdepbaaGreatRows
import Derived.ProofKit
import Derived.OpenShut
import Derived.Carry
import Derived.Deep.Slices
namespace Go.Proofs.YtphnainibdepbaaGreat
open Go.RowKit

theorem daysP_ok (a b : Int) (w : World) (ha : isDayP a) (hb : isDayP b) :
    Calls Tryz.prog 88 #[.int .i64 a, .int .i64 b] w fun e w' => e = .returned (.tuple #[.int .i64 (b - a), .int .i64 0]) ∧ w' = w := by
  obtain ⟨a0, a1⟩ := ha
  obtain ⟨b0, b1⟩ := hb
  go_enter Tryz.func88, Tryz.ntmps88
  go_wp2_with fail
  go_ret2
  exact ⟨rfl, rfl⟩
theorem daysP_bad (a b : Int) (w : World) (hab : a ≤ b) (h : ¬ (isDayP a ∧ isDayP b)) :
    Calls Tryz.prog 88 #[.int .i64 a, .int .i64 b] w fun e w' => e = .returned (.tuple #[.int .i64 0, .int .i64 51]) ∧ w' = w := by
  unfold isDayP at h
  rcases (show a < 0 ∨ (0 ≤ a ∧ 109572 < b) by omega) with h1 | ⟨h1, h2⟩
  all_goals
    clear h hab
    go_enter Tryz.func88, Tryz.ntmps88
    go_wp2_with fail
    go_ret2
    exact ⟨rfl, rfl⟩

def ldI (y n : Int) : Int := 366 * (nyI y - 365 * (y - 1900)) + (if leapB y then n - nyI y else 0)
theorem ld_acc (y n : Int) : 366 * n - ldI y n = accI y n := by
  unfold ldI accI lpI
  cases leapB y <;> simp <;> omega
theorem ld_bd {y n : Int} (h : 1900 ≤ y) (h' : y ≤ 2199) (h0 : nyI y ≤ n) (h1 : n < nyI (y + 1)) : 0 ≤ ldI y n ∧ ldI y n ≤ 1000000 := by
  have e1 := ny_lo h
  have e2 := ny_hi (y := y + 1) (by omega)
  have e3 := ny_hi (y := y) (by omega)
  unfold ldI
  split <;> constructor <;> omega
set_option maxHeartbeats 800000 in
theorem leapDays_any (n y m d : Int) (w : World) (h : IsD n y m d) :
    Calls Tryz.prog 109 #[.int .i64 n] w fun e w' => e = .returned (.int .i64 (ldI y n)) ∧ w' = w := by
  have HC := hideS (fun wx => civil_ok n y m d wx h)
  obtain ⟨n0, n1⟩ := h.range
  obtain ⟨h1, h2, _, _, _, _⟩ := h.1
  have hy := h.year
  have ho : okD y 1 1 := ⟨h1, h2, by omega, by omega, by omega, by have := len_lo y 1; omega⟩
  have hd : dayI y 1 1 = nyI y := by unfold dayI; rw [cum_first]; omega
  have H2 := hideS (fun wx => by have := ofP_ok y 1 1 wx ho; rw [hd] at this; exact this)
  have H3 := hideS (fun wx => leap_any y wx)
  have e1 := ny_lo h1
  have e3 := ny_hi (y := y) (by omega)
  have hy1 := hy.1
  clear h ho hd hy
  unfold ldI
  generalize nyI y = N at *
  cases hl : leapB y
  all_goals
    rw [hl] at H3
    clear hl
    go_enter Tryz.func109, Tryz.ntmps109
    go_wp2_with (first | (go_at_call 110; refine (HC.out _).mono ?_; rintro e w' ⟨rfl, rfl⟩) | (go_at_call 126; refine (H2.out _).mono ?_; rintro e w' ⟨rfl, rfl⟩) | (go_at_call 127; refine (H3.out _).mono ?_; rintro e w' ⟨rfl, rfl⟩))
    go_ret
    refine ⟨?_, rfl⟩
    simp
    try omega
set_option maxHeartbeats 800000 in
theorem actualP_ok (a b ya ma da yb mb db : Int) (w : World) (hA : IsD a ya ma da) (hB : IsD b yb mb db) :
    Calls Tryz.prog 89 #[.int .i64 a, .int .i64 b] w fun e w' => e = .returned (.tuple #[.int .i64 (accI yb b - accI ya a), .int .i64 0]) ∧ w' = w := by
  have HD := hideS (fun wx => daysP_ok a b wx hA.range hB.range)
  have H1 := hideS (fun wx => leapDays_any a ya ma da wx hA)
  have H2 := hideS (fun wx => leapDays_any b yb mb db wx hB)
  have ra := hA.range
  have rb := hB.range
  obtain ⟨a0, a1⟩ := ra
  obtain ⟨b0, b1⟩ := rb
  have la := ld_bd hA.1.1 hA.1.2.1 hA.year.1 hA.year.2
  have lb := ld_bd hB.1.1 hB.1.2.1 hB.year.1 hB.year.2
  obtain ⟨la0, la1⟩ := la
  obtain ⟨lb0, lb1⟩ := lb
  have ea := ld_acc ya a
  have eb := ld_acc yb b
  clear hA hB
  obtain ⟨R, hR⟩ : ∃ R, accI yb b - accI ya a = R := ⟨_, rfl⟩
  have HR : Hid (366 * (b - a) - (ldI yb b - ldI ya a) = R) := by show _ = _; omega
  rw [hR]
  clear ea eb hR
  generalize ldI ya a = X at *
  generalize ldI yb b = Y at *
  go_enter Tryz.func89, Tryz.ntmps89
  go_wp2_with (first | (go_at_call 88; refine (HD.out _).mono ?_; rintro e w' ⟨rfl, rfl⟩) | (go_at_call_of 109 (Value.int IntKind.i64 b); refine (H2.out _).mono ?_; rintro e w' ⟨rfl, rfl⟩) | (go_at_call_of 109 (Value.int IntKind.i64 a); refine (H1.out _).mono ?_; rintro e w' ⟨rfl, rfl⟩))
  go_ret2
  have e := HR.out
  rw [show 366 * (b - a - (Y - X)) + 365 * (Y - X) = R by omega]
  exact ⟨rfl, rfl⟩
theorem actualP_bad (a b : Int) (w : World) (hab : a ≤ b) (h : ¬ (isDayP a ∧ isDayP b)) :
    Calls Tryz.prog 89 #[.int .i64 a, .int .i64 b] w fun e w' => e = .returned (.tuple #[.int .i64 0, .int .i64 51]) ∧ w' = w := by
  have HD := hideS (fun wx => daysP_bad a b wx hab h)
  clear hab h
  go_enter Tryz.func89, Tryz.ntmps89
  go_wp2_with (go_at_call 88; refine (HD.out _).mono ?_; rintro e w' ⟨rfl, rfl⟩)
  go_ret2
  exact ⟨rfl, rfl⟩
set_option maxHeartbeats 1600000 in
theorem thirties_run (a b L ya ma da yb mb db D1 D2 : Int) (w : World) (hA : IsD a ya ma da) (hB : IsD b yb mb db) (h1 : min da 30 = D1) (h2 : (D1 = 30 ∧ min db 30 = D2) ∨ (D1 ≠ 30 ∧ min db L = D2)) (hL : L = 30 ∨ L = 31) :
    Calls Tryz.prog 90 #[.int .i64 a, .int .i64 b, .int .i64 L] w fun e w' => e = .returned (.tuple #[.int .i64 (360 * (yb - ya) + 30 * (mb - ma) + D2 - D1), .int .i64 0]) ∧ w' = w := by
  have H1 := hideS (fun wx => civil_ok a ya ma da wx hA)
  have H2 := hideS (fun wx => civil_ok b yb mb db wx hB)
  obtain ⟨a1, a2, a3, a4, a5, a6⟩ := hA.1
  obtain ⟨b1, b2, b3, b4, b5, b6⟩ := hB.1
  have l1 := len_hi ya ma
  have l2 := len_hi yb mb
  have d1 : D1 ≤ 30 := by omega
  have d2 : 1 ≤ D1 := by omega
  have d3 : D2 ≤ 31 := by omega
  have d4 : 1 ≤ D2 := by omega
  have d5 : da ≤ 31 := by omega
  have d6 : db ≤ 31 := by omega
  clear hA hB l1 l2 a6 b6
  rcases h2 with ⟨e1, e2⟩ | ⟨e1, e2⟩
  · subst e1
    go_enter Tryz.func90, Tryz.ntmps90
    go_wp2_with (first | (go_at_call_of 110 (Value.int IntKind.i64 a); refine (H1.out _).mono ?_; rintro e w' ⟨rfl, rfl⟩) | (go_at_call_of 110 (Value.int IntKind.i64 b); refine (H2.out _).mono ?_; rintro e w' ⟨rfl, rfl⟩))
    go_ret2
    exact ⟨rfl, rfl⟩
  · have e3 : (D1 == 30) = false := beq_false_of_ne e1
    go_enter Tryz.func90, Tryz.ntmps90
    go_wp2_with (first | (go_at_call_of 110 (Value.int IntKind.i64 a); refine (H1.out _).mono ?_; rintro e w' ⟨rfl, rfl⟩) | (go_at_call_of 110 (Value.int IntKind.i64 b); refine (H2.out _).mono ?_; rintro e w' ⟨rfl, rfl⟩))
    go_ret2
    exact ⟨rfl, rfl⟩
theorem thirties_ok (kind a b L ya ma da yb mb db : Int) (w : World) (hA : IsD a ya ma da) (hB : IsD b yb mb db) (hL : (kind = 4 ∧ L = 31) ∨ (kind = 5 ∧ L = 30)) :
    Calls Tryz.prog 90 #[.int .i64 a, .int .i64 b, .int .i64 L] w fun e w' => e = .returned (.tuple #[.int .i64 (thirI kind ya ma da yb mb db), .int .i64 0]) ∧ w' = w := by
  have hb : db ≤ 31 := by have := hB.1.2.2.2.2.2; have := len_hi yb mb; omega
  by_cases h : min da 30 = 30
  · have e : thirI kind ya ma da yb mb db = 360 * (yb - ya) + 30 * (mb - ma) + min db 30 - min da 30 := by
      unfold thirI; rw [if_pos (Or.inr h)]
    rw [e]
    exact thirties_run a b L ya ma da yb mb db _ _ w hA hB rfl (Or.inl ⟨h, rfl⟩) (by omega)
  · have e : thirI kind ya ma da yb mb db = 360 * (yb - ya) + 30 * (mb - ma) + min db L - min da 30 := by
      unfold thirI
      rcases hL with ⟨h4, hL⟩ | ⟨h5, hL⟩
      · rw [if_neg (by omega)]; omega
      · rw [if_pos (Or.inl h5), hL]
    rw [e]
    exact thirties_run a b L ya ma da yb mb db _ _ w hA hB rfl (Or.inr ⟨h, rfl⟩) (by omega)
theorem thirties_bad (a b L : Int) (w : World) (h : ¬ (isDayP a ∧ isDayP b)) :
    Calls Tryz.prog 90 #[.int .i64 a, .int .i64 b, .int .i64 L] w fun e w' => e = .returned (.tuple #[.int .i64 0, .int .i64 51]) ∧ w' = w := by
  by_cases ha : isDayP a
  · obtain ⟨ya, ma, da, hA⟩ := isD_ex ha.1 ha.2
    have H1 := hideS (fun wx => civil_ok a ya ma da wx hA)
    have H2 := hideS (fun wx => civil_bad b wx (fun hb => h ⟨ha, hb⟩))
    clear h ha hA
    go_enter Tryz.func90, Tryz.ntmps90
    go_wp2_with (first | (go_at_call_of 110 (Value.int IntKind.i64 a); refine (H1.out _).mono ?_; rintro e w' ⟨rfl, rfl⟩) | (go_at_call_of 110 (Value.int IntKind.i64 b); refine (H2.out _).mono ?_; rintro e w' ⟨rfl, rfl⟩))
    go_ret2
    exact ⟨rfl, rfl⟩
  · have H1 := hideS (fun wx => civil_bad a wx ha)
    clear h ha
    go_enter Tryz.func90, Tryz.ntmps90
    go_wp2_with (go_at_call 110; refine (H1.out _).mono ?_; rintro e w' ⟨rfl, rfl⟩)
    go_ret2
    exact ⟨rfl, rfl⟩
end Go.Proofs.YtphnainibdepbaaGreat
namespace Go.Proofs.YtphnainibdepbaaGreat
open Go.ChangeShapes Go.WideShapes Go.ChangeAt Go.RowKit

theorem cal_laid : laidOutB Tryz.prog = true := by kernel_rfl
theorem cellsI : Tryz.prog.cellsOf 3 = 1 := by kernel_rfl
theorem cellsRule : Tryz.prog.cellsOf 88 = 9 := by kernel_rfl
theorem cellsRules : Tryz.prog.cellsOf 22 = 1 := by kernel_rfl
theorem cellsCal : Tryz.prog.cellsOf 24 = 2 := by kernel_rfl

def intV : Value → Int
  | .int _ n => n
  | _ => 0
def rulOf (f : Nat → Value) : Rul := ⟨intV (f 0), intV (f 1), intV (f 2), intV (f 3), intV (f 4), intV (f 5), intV (f 6), intV (f 7), intV (f 8)⟩
def I64 (n : Int) : Prop := -9223372036854775808 ≤ n ∧ n ≤ 9223372036854775807
structure RulI (r : Rul) : Prop where
  (kind : I64 r.kind) (mon : I64 r.mon) (day : I64 r.day) (nth : I64 r.nth) (wd : I64 r.wd) (off : I64 r.off) (fr : I64 r.fr) (to : I64 r.to) (mv : I64 r.mv)
theorem i64_of_wf {n : Int} (h : (Lit.int .i64 n).wf = true) : I64 n := by
  simp only [Lit.wf, IntKind.min, IntKind.max, IntKind.signed, IntKind.bits] at h
  simp at h
  unfold I64; omega

theorem rule_cells {H : Type} {enc : TypeId × Value → H} {w : World} {base n : Nat} {spare : Nat → Bool} {held : Bool} {cs : List Value} {x : DataW H × List MemPlace} (h : DataW.trod enc Tryz.prog w base spare held n 88 cs = some x) :
    ∀ j < 9, ∃ z, cs[j]? = some (.int .i64 z) ∧ I64 z := by
  obtain ⟨xs, m, _, _, hl, hlen, hf⟩ := DataW.trod_struct Tryz.underlying88 h
  rw [cellsRule] at hl
  have hlen9 : xs.length = 9 := hlen
  have key : ∀ j < 9, DataW.trod enc Tryz.prog w base spare held m 3 ((cs.drop j).take 1) = xs[j]? := fun j hj => by
    have e0 : DataW.trod enc Tryz.prog w base spare held m 3 ((cs.drop 0).take (Tryz.prog.cellsOf 3)) = xs[0]? := hf 0 _ rfl
    rw [cellsI] at e0
    have e1 : DataW.trod enc Tryz.prog w base spare held m 3 ((cs.drop 1).take (Tryz.prog.cellsOf 3)) = xs[1]? := hf 1 _ rfl
    rw [cellsI] at e1
    have e2 : DataW.trod enc Tryz.prog w base spare held m 3 ((cs.drop 2).take (Tryz.prog.cellsOf 3)) = xs[2]? := hf 2 _ rfl
    rw [cellsI] at e2
    have e3 : DataW.trod enc Tryz.prog w base spare held m 3 ((cs.drop 3).take (Tryz.prog.cellsOf 3)) = xs[3]? := hf 3 _ rfl
    rw [cellsI] at e3
    have e4 : DataW.trod enc Tryz.prog w base spare held m 3 ((cs.drop 4).take (Tryz.prog.cellsOf 3)) = xs[4]? := hf 4 _ rfl
    rw [cellsI] at e4
    have e5 : DataW.trod enc Tryz.prog w base spare held m 3 ((cs.drop 5).take (Tryz.prog.cellsOf 3)) = xs[5]? := hf 5 _ rfl
    rw [cellsI] at e5
    have e6 : DataW.trod enc Tryz.prog w base spare held m 3 ((cs.drop 6).take (Tryz.prog.cellsOf 3)) = xs[6]? := hf 6 _ rfl
    rw [cellsI] at e6
    have e7 : DataW.trod enc Tryz.prog w base spare held m 3 ((cs.drop 7).take (Tryz.prog.cellsOf 3)) = xs[7]? := hf 7 _ rfl
    rw [cellsI] at e7
    have e8 : DataW.trod enc Tryz.prog w base spare held m 3 ((cs.drop 8).take (Tryz.prog.cellsOf 3)) = xs[8]? := hf 8 _ rfl
    rw [cellsI] at e8
    rcases (show j = 0 ∨ j = 1 ∨ j = 2 ∨ j = 3 ∨ j = 4 ∨ j = 5 ∨ j = 6 ∨ j = 7 ∨ j = 8 by omega) with rfl | rfl | rfl | rfl | rfl | rfl | rfl | rfl | rfl
    · exact e0
    · exact e1
    · exact e2
    · exact e3
    · exact e4
    · exact e5
    · exact e6
    · exact e7
    · exact e8
  intro j hj
  have e := key j hj
  rw [List.getElem?_eq_getElem (by omega)] at e
  obtain ⟨z, hz, _, hw⟩ := DataW.trod_int Tryz.underlying3 e
  refine ⟨z, ?_, i64_of_wf hw⟩
  have hj' : j < cs.length := by omega
  rw [List.drop_eq_getElem_cons hj', List.take_succ_cons, List.take_zero] at hz
  rw [List.getElem?_eq_getElem hj']
  exact congrArg some (List.cons.inj hz).1

theorem rules_source {H : Type} {enc : TypeId × Value → H} {W : World} {fuel : Nat} {v : Value} {x : DataW H × List MemPlace} (h : DataW.trod enc Tryz.prog W 0 (fun _ => true) true fuel 22 [v] = some x) :
    ∃ p len cap, v = .slice p len cap ∧ len ≤ cap ∧ cap ≤ maxLen ∧ ∃ b off rs, rs.length = len ∧ RSrc W p b off rs ∧ ∀ r ∈ rs, RulI r := by
  rcases Go.Deep.open_slice Tryz.underlying22 h with ⟨hcs, _⟩ | ⟨a, len, cap, m, n, D, Pl, hcs, _, hl, hm, hmm, _, hc⟩
  · obtain rfl := (List.cons.inj hcs).1
    exact ⟨none, 0, 0, rfl, Nat.le_refl _, Nat.zero_le _, 0, 0, [], rfl, ⟨fun h => by simp at h, fun h => by simp at h, fun j hj => by simp at hj⟩, fun r hr => by simp at hr⟩
  · obtain rfl := (List.cons.inj hcs).1
    simp only [if_true] at hmm
    subst hmm
    obtain ⟨b, off, spot⟩ := a
    refine ⟨_, len, m, rfl, hl, hm, ?_⟩
    rw [cellsRule] at hc
    have hv : ∀ i, i < len → ∃ f : Nat → Value, ∀ j < 9, ∃ z, f j = .int .i64 z ∧ I64 z ∧ W.cell? (Addr.add (Addr.add ⟨b, off, spot⟩ (i * 9)) j) = some (.int .i64 z) := fun i hi => by
      obtain ⟨cs', h1, h2⟩ := hc i (by omega)
      obtain ⟨_, _, hcell⟩ := World.cells?_some h1
      have hr := rule_cells h2
      refine ⟨fun j => cs'.getD j (.int .i64 0), fun j hj => ?_⟩
      obtain ⟨z, hz, hz2⟩ := hr j hj
      refine ⟨z, ?_, hz2, (hcell j hj).trans hz⟩
      show cs'.getD j _ = _
      rw [List.getD_eq_getElem?_getD, hz]; rfl
    have hv2 : ∃ F : Nat → Nat → Value, ∀ i, i < len → ∀ j < 9, ∃ z, F i j = .int .i64 z ∧ I64 z ∧ W.cell? (Addr.add (Addr.add ⟨b, off, spot⟩ (i * 9)) j) = some (.int .i64 z) := by
      refine ⟨fun i => if hi : i < len then (hv i hi).choose else fun _ => .int .i64 0, fun i hi j hj => ?_⟩
      dsimp only
      rw [dif_pos hi]
      exact (hv i hi).choose_spec j hj
    obtain ⟨F, hF⟩ := hv2
    have hcell : ∀ i, i < len → ∀ j < 9, W.cell? (Addr.add (Addr.add ⟨b, off, spot⟩ (i * 9)) j) = some (.int .i64 (intV (F i j))) ∧ I64 (intV (F i j)) := fun i hi j hj => by
      obtain ⟨z, hz, hz2, hz3⟩ := hF i hi j hj
      rw [hz]; exact ⟨hz3, hz2⟩
    have hg : ∀ i, i < len → ((List.range len).map fun i => rulOf (F i)).getD i rul0 = rulOf (F i) := fun i hi => by simp [List.getD, hi]
    have hsp : 0 < len → spot = none := fun h0 => by
      have h2 := World.cell?_spot (hcell 0 h0 0 (by omega)).1
      simpa [Addr.add] using h2
    refine ⟨b, off, (List.range len).map fun i => rulOf (F i), by simp, ⟨fun h0 => ?_, fun h0 => ?_, fun j hj => ?_⟩, fun r hr => ?_⟩
    · rw [hsp (by simpa using h0)]
    · have h1 := (hcell 0 (by simpa using h0) 0 (by omega)).1
      have h3 := World.block_lt_of_cell? _ _ h1
      simpa [Addr.add] using h3
    · have hj' : j < len := by simpa using hj
      have hs := hsp (by omega)
      subst hs
      rw [hg j hj']
      have e : ∀ k < 9, W.cell? ⟨b, off + j * 9 + k, none⟩ = some (.int .i64 (intV (F j k))) := fun k hk => by
        have h1 := (hcell j hj' k hk).1
        rw [Addr.add_lit, Addr.add_lit] at h1
        exact h1
      exact ⟨e 0 (by omega), e 1 (by omega), e 2 (by omega), e 3 (by omega), e 4 (by omega), e 5 (by omega), e 6 (by omega), e 7 (by omega), e 8 (by omega)⟩
    · obtain ⟨i, hi, rfl⟩ := List.mem_map.1 hr
      have hi' : i < len := by simpa using hi
      have e : ∀ k < 9, I64 (intV (F i k)) := fun k hk => (hcell i hi' k hk).2
      exact ⟨e 0 (by omega), e 1 (by omega), e 2 (by omega), e 3 (by omega), e 4 (by omega), e 5 (by omega), e 6 (by omega), e 7 (by omega), e 8 (by omega)⟩

set_option maxRecDepth 100000 in
theorem cal_source {H : Type} {enc : TypeId × Value → H} {W : World} {base : Nat} {v : Value} {d : DataW H} {ps : List MemPlace} (hval : Value.okWide Tryz.prog W .any base 24 v) (h : DataW.Trod enc Tryz.prog W 0 (fun _ => true) true 24 v d ps) :
    ∃ wk p len cap, v = .agg #[.int .i64 wk, .slice p len cap] ∧ I64 wk ∧ len ≤ cap ∧ cap ≤ maxLen ∧ ∃ b off rs, rs.length = len ∧ RSrc W p b off rs ∧ ∀ r ∈ rs, RulI r := by
  obtain ⟨cs, rfl, hcs⟩ := okWide_struct Tryz.underlying24 hval
  obtain ⟨fuel, hf⟩ := h
  obtain ⟨y0, y1, n, _, hl, h0, h1⟩ := trod_struct2 Tryz.underlying24 hf
  rw [cellsCal] at hl
  dsimp only at h0 h1
  rw [cellsI] at h0
  rw [cellsRules] at h1
  obtain ⟨l⟩ := cs
  have e : (Value.agg ⟨l⟩).cells.toList = l := rfl
  rw [e] at hl h0 h1
  match l, hl with
  | [x, y], _ =>
    obtain ⟨wk, hx, _, hw⟩ := DataW.trod_int Tryz.underlying3 h0
    obtain rfl : x = .int .i64 wk := (List.cons.inj hx).1
    obtain ⟨p, len, cap, rfl, a, b, c⟩ := rules_source (v := y) h1
    exact ⟨wk, p, len, cap, rfl, i64_of_wf hw, a, b, c⟩
end Go.Proofs.YtphnainibdepbaaGreat
