/- What the laws of schedules call, in one manner. -/
import Derived.Test.YtelghkhcplmnmaaSpL
import Derived.Test.YtelghkhcplmnmaaFSpc
namespace Go.Proofs.Ytelghkhcplmnmaa
open Go.RowKit

/-- A list of ints and an error are told. -/
def IntsOut (xs : List Int) (E : Int) (wx : World) (e : Ending) (w' : World) : Prop := ∃ q g c, e = .returned (.tuple #[.slice q xs.length c, .int .i64 E]) ∧ ISrc w' q g 0 xs ∧ c ≤ 9223372036854775807 ∧ (0 < xs.length → wx.heap.size ≤ g)
/-- A list of periods and an error are told. -/
def PersOut (xs : List Per) (E : Int) (wx : World) (e : Ending) (w' : World) : Prop := ∃ q g c, e = .returned (.tuple #[.slice q xs.length c, .int .i64 E]) ∧ PSrc w' q g 0 xs ∧ c ≤ 9223372036854775807 ∧ (0 < xs.length → wx.heap.size ≤ g)
theorem isrc_nil (w : World) : ISrc w none 0 0 [] := ⟨fun h => absurd h (by decide), fun h => absurd h (by decide), fun i hi => absurd hi (by simp)⟩
theorem psrc_nil (w : World) : PSrc w none 0 0 [] := ⟨fun h => absurd h (by decide), fun h => absurd h (by decide), fun i hi => absurd hi (by simp)⟩
theorem ints_nil (E : Int) (wx w' : World) : IntsOut [] E wx (.returned (.tuple #[.slice none 0 0, .int .i64 E])) w' := ⟨none, 0, 0, rfl, isrc_nil w', by omega, fun h => absurd h (by decide)⟩
theorem pers_nil (E : Int) (wx w' : World) : PersOut [] E wx (.returned (.tuple #[.slice none 0 0, .int .i64 E])) w' := ⟨none, 0, 0, rfl, psrc_nil w', by omega, fun h => absurd h (by decide)⟩
theorem ints_of {s : Spc} {K : Nat} {w w' : World} {e : Ending} (h : DatO s K w e w') : IntsOut (if K < 1200 then datL s (cutN s K) else []) (if K < 1200 then 0 else 81) w e w' := by
  rcases h with ⟨hk, rfl⟩ | ⟨hk, v, rfl, ho⟩
  · rw [if_neg (by omega), if_neg (by omega)]; exact ints_nil 81 _ _
  · rw [if_pos hk, if_pos hk]
    obtain ⟨q, g, c, rfl, hs, hg, _, hm⟩ := iown_src ho (dat_len s _)
    exact ⟨q, g, c, by rw [dat_len], hs, by unfold maxLen at hm; omega, fun _ => hg⟩
open Classical in
theorem pers_of {op : Int → Bool} {s : Spc} {K : Nat} {w w' : World} {e : Ending} (h : PerZ op s K w e w') : PersOut (if K < 1200 ∧ ∀ j < cutN s K + 1, (perI op s (datL s (cutN s K)) j).isSome = true then perL op s (datL s (cutN s K)) (cutN s K + 1) else []) (if K < 1200 then (if ∀ j < cutN s K + 1, (perI op s (datL s (cutN s K)) j).isSome = true then 0 else 51) else 81) w e w' := by
  rcases h with ⟨hk, rfl⟩ | ⟨hk, ⟨⟨j, hj, hn⟩, rfl⟩ | ⟨ha, v, rfl, ho⟩⟩
  · rw [if_neg (by omega), if_neg (by omega)]; exact pers_nil 81 _ _
  · have hna : ¬ ∀ j < cutN s K + 1, (perI op s (datL s (cutN s K)) j).isSome = true := fun h => by have := h j hj; rw [hn] at this; cases this
    rw [if_neg (fun h => hna h.2), if_pos hk, if_neg hna]; exact pers_nil 51 _ _
  · rw [if_pos ⟨hk, ha⟩, if_pos hk, if_pos ha]
    obtain ⟨q, g, c, rfl, hs, hg, _, hm⟩ := pown_src ho (perL_len _ _ _ _)
    exact ⟨q, g, c, by rw [perL_len], hs, by unfold maxLen at hm; omega, fun _ => hg⟩

/-- Dates of the program and of the document. -/
theorem dates_two (s : Spc) (W : Int) (p : Option Addr) (b off c : Nat) (rs : List Rul) (w : World) (hs : RSrc w p b off rs) (hl : rs.length ≤ 1000000) : ∃ (xs : List Int) (E : Int), xs.length ≤ 2000 ∧
    (∀ wx, Below w.heap.size w wx → Calls Try.prog 8 #[.agg #[.int .i64 s.st, .int .i64 s.en, .int .i64 s.n, .int .i64 s.unit, .int .i64 s.stub, .int .i64 s.roll, .int .i64 s.conv, .int .i64 s.lag, .int .i64 W, .slice p rs.length c]] wx fun e w' => IntsOut xs E wx e w' ∧ Below wx.heap.size wx w') ∧
    (∀ wx, Below w.heap.size w wx → Calls Try.prog 11 #[.agg #[.int .i64 s.st, .int .i64 s.en, .int .i64 s.n, .int .i64 s.unit, .int .i64 s.stub, .int .i64 s.roll, .int .i64 s.conv, .int .i64 s.lag, .int .i64 W, .slice p rs.length c]] wx fun e w' => IntsOut xs E wx e w' ∧ Below wx.heap.size wx w') := by
  obtain ⟨A, B, hA⟩ := chk_ex W rs
  obtain ⟨E, hE⟩ := spc_ex s A
  by_cases h0 : E = 0
  · subst h0
    obtain ⟨hok, rfl⟩ := spc_ok hE
    obtain ⟨hC, _⟩ := chk_ok hA
    obtain ⟨K, hK⟩ := dat_ex hok
    refine ⟨_, _, ?_, fun wx hb => (schDates_yes s W K p b off c rs wx hok hC hK (hs.below hb)).mono fun e w' ⟨a, b⟩ => ⟨ints_of a, b⟩, fun wx hb => (ref8Dates_ok s W K p b off c rs wx hok hC hK (hs.below hb)).mono fun e w' ⟨a, b⟩ => ⟨ints_of a, b⟩⟩
    split
    · rw [dat_len]; have := cut_le s K; omega
    · simp
  · exact ⟨[], E, by simp, fun wx hb => (schDates_no s W A B E p b off c rs wx hA hE h0 (hs.below hb) (by omega)).mono fun e w' ⟨a, b⟩ => ⟨by rw [a]; exact ints_nil _ _ _, b⟩, fun wx hb => (ref8Dates_no s W A B E p b off c rs wx hA hE h0 (hs.below hb) hl).mono fun e w' ⟨a, b⟩ => ⟨by rw [a]; exact ints_nil _ _ _, b⟩⟩
/-- Periods of the program and of the document. -/
theorem periods_two (s : Spc) (W : Int) (p : Option Addr) (b off c : Nat) (rs : List Rul) (w : World) (hs : RSrc w p b off rs) (hl : rs.length ≤ 1000000) : ∃ (xs : List Per) (E : Int), xs.length ≤ 2000 ∧
    (∀ wx, Below w.heap.size w wx → Calls Try.prog 9 #[.agg #[.int .i64 s.st, .int .i64 s.en, .int .i64 s.n, .int .i64 s.unit, .int .i64 s.stub, .int .i64 s.roll, .int .i64 s.conv, .int .i64 s.lag, .int .i64 W, .slice p rs.length c]] wx fun e w' => PersOut xs E wx e w' ∧ Below wx.heap.size wx w') ∧
    (∀ wx, Below w.heap.size w wx → Calls Try.prog 12 #[.agg #[.int .i64 s.st, .int .i64 s.en, .int .i64 s.n, .int .i64 s.unit, .int .i64 s.stub, .int .i64 s.roll, .int .i64 s.conv, .int .i64 s.lag, .int .i64 W, .slice p rs.length c]] wx fun e w' => PersOut xs E wx e w' ∧ Below wx.heap.size wx w') := by
  obtain ⟨A, B, hA⟩ := chk_ex W rs
  obtain ⟨E, hE⟩ := spc_ex s A
  by_cases h0 : E = 0
  · subst h0
    obtain ⟨hok, rfl⟩ := spc_ok hE
    obtain ⟨hC, _⟩ := chk_ok hA
    obtain ⟨K, hK⟩ := dat_ex hok
    refine ⟨_, _, ?_, fun wx hb => (schPeriods_yes s W K p b off c rs wx hok hC hK (hs.below hb)).mono fun e w' ⟨a, b⟩ => ⟨pers_of a, b⟩, fun wx hb => (ref8Periods_ok s W K p b off c rs wx hok hC hK (hs.below hb)).mono fun e w' ⟨a, b⟩ => ⟨pers_of a, b⟩⟩
    split
    · rw [perL_len]; have := cut_le s K; omega
    · simp
  · exact ⟨[], E, by simp, fun wx hb => (schPeriods_no s W A B E p b off c rs wx hA hE h0 (hs.below hb) (by omega)).mono fun e w' ⟨a, b⟩ => ⟨by rw [a]; exact pers_nil _ _ _, b⟩, fun wx hb => (ref8Periods_no s W A B E p b off c rs wx hA hE h0 (hs.below hb) hl).mono fun e w' ⟨a, b⟩ => ⟨by rw [a]; exact pers_nil _ _ _, b⟩⟩
end Go.Proofs.Ytelghkhcplmnmaa
