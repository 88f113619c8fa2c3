/- Lists of one's own that may be written; one block alone that was written. -/
import Derived.Test.YtelghkhcplmnmaaSpN
import Derived.Test.YtelghkhcplmnmaaCRefM
namespace Go.Proofs.Ytelghkhcplmnmaa
open Go.RowKit

/-- A list of ints of one's own and an error are told. -/
def IntsW (xs : List Int) (E : Int) (wx : World) (e : Ending) (w' : World) : Prop := ∃ q g c, e = .returned (.tuple #[.slice q xs.length c, .int .i64 E]) ∧ ISrc w' q g 0 xs ∧ c ≤ 9223372036854775807 ∧ (0 < xs.length → wx.heap.size ≤ g ∧ ∀ j, w'.frozen? ⟨g, j, none⟩ = false)
def PersW (xs : List Per) (E : Int) (wx : World) (e : Ending) (w' : World) : Prop := ∃ q g c, e = .returned (.tuple #[.slice q xs.length c, .int .i64 E]) ∧ PSrc w' q g 0 xs ∧ c ≤ 9223372036854775807 ∧ (0 < xs.length → wx.heap.size ≤ g ∧ ∀ j, w'.frozen? ⟨g, j, none⟩ = false)
theorem ints_nilW (E : Int) (wx w' : World) : IntsW [] E wx (.returned (.tuple #[.slice none 0 0, .int .i64 E])) w' := ⟨none, 0, 0, rfl, isrc_nil w', by omega, fun h => absurd h (by decide)⟩
theorem pers_nilW (E : Int) (wx w' : World) : PersW [] E wx (.returned (.tuple #[.slice none 0 0, .int .i64 E])) w' := ⟨none, 0, 0, rfl, psrc_nil w', by omega, fun h => absurd h (by decide)⟩
theorem own_frz {w : World} {base t size n c : Nat} {q : Option Addr} {xs : List Value} (h : w.ownsRow base t size (.slice q n c) n xs) (hn : 0 < n) {g : Nat} (hq : q = some ⟨g, 0, none⟩) : ∀ j, w.frozen? ⟨g, j, none⟩ = false := by
  rcases h.2 with ⟨hv, h0⟩ | ⟨g', cap, cur, hv, hg, hh, _⟩
  · injection hv with e1 e2 e3; omega
  · injection hv with e1 e2 e3
    rw [hq] at e1
    injection e1 with e1
    injection e1 with e1
    subst e1
    exact fun j => frozen_of_row w g j cur _ hh
theorem ints_ofW {s : Spc} {K : Nat} {w w' : World} {e : Ending} (h : DatO s K w e w') : IntsW (if K < 1200 then datL s (cutN s K) else []) (if K < 1200 then 0 else 81) w e w' := by
  rcases h with ⟨hk, rfl⟩ | ⟨hk, v, rfl, ho⟩
  · rw [if_neg (by omega), if_neg (by omega)]; exact ints_nilW 81 _ _
  · rw [if_pos hk, if_pos hk]
    obtain ⟨q, g, c, rfl, hs, hg, _, hm⟩ := iown_src ho (dat_len s _)
    exact ⟨q, g, c, by rw [dat_len], hs, by unfold maxLen at hm; omega, fun h0 => ⟨hg, own_frz ho (by omega) (hs.at_ h0)⟩⟩
open Classical in
theorem pers_ofW {op : Int → Bool} {s : Spc} {K : Nat} {w w' : World} {e : Ending} (h : PerZ op s K w e w') : PersW (if K < 1200 ∧ ∀ j < cutN s K + 1, (perI op s (datL s (cutN s K)) j).isSome = true then perL op s (datL s (cutN s K)) (cutN s K + 1) else []) (if K < 1200 then (if ∀ j < cutN s K + 1, (perI op s (datL s (cutN s K)) j).isSome = true then 0 else 51) else 81) w e w' := by
  rcases h with ⟨hk, rfl⟩ | ⟨hk, ⟨⟨j, hj, hn⟩, rfl⟩ | ⟨ha, v, rfl, ho⟩⟩
  · rw [if_neg (by omega), if_neg (by omega)]; exact pers_nilW 81 _ _
  · have hna : ¬ ∀ j < cutN s K + 1, (perI op s (datL s (cutN s K)) j).isSome = true := fun h => by have := h j hj; rw [hn] at this; cases this
    rw [if_neg (fun h => hna h.2), if_pos hk, if_neg hna]; exact pers_nilW 51 _ _
  · rw [if_pos ⟨hk, ha⟩, if_pos hk, if_pos ha]
    obtain ⟨q, g, c, rfl, hs, hg, _, hm⟩ := pown_src ho (perL_len _ _ _ _)
    exact ⟨q, g, c, by rw [perL_len], hs, by unfold maxLen at hm; omega, fun h0 => ⟨hg, own_frz ho (by omega) (hs.at_ h0)⟩⟩

/-- Dates of the program, of one's own, and of the document. -/
theorem dates_three (s : Spc) (W : Int) (p : Option Addr) (b off c : Nat) (rs : List Rul) (w : World) (hs : RSrc w p b off rs) (hl : rs.length ≤ 1000000) : ∃ (xs : List Int) (E : Int), xs.length ≤ 2000 ∧
    (∀ wx, Below w.heap.size w wx → Calls Try.prog 8 #[.agg #[.int .i64 s.st, .int .i64 s.en, .int .i64 s.n, .int .i64 s.unit, .int .i64 s.stub, .int .i64 s.roll, .int .i64 s.conv, .int .i64 s.lag, .int .i64 W, .slice p rs.length c]] wx fun e w' => IntsW xs E wx e w' ∧ Below wx.heap.size wx w') ∧
    (∀ wx, Below w.heap.size w wx → Calls Try.prog 11 #[.agg #[.int .i64 s.st, .int .i64 s.en, .int .i64 s.n, .int .i64 s.unit, .int .i64 s.stub, .int .i64 s.roll, .int .i64 s.conv, .int .i64 s.lag, .int .i64 W, .slice p rs.length c]] wx fun e w' => IntsOut xs E wx e w' ∧ Below wx.heap.size wx w') := by
  obtain ⟨A, B, hA⟩ := chk_ex W rs
  obtain ⟨E, hE⟩ := spc_ex s A
  by_cases h0 : E = 0
  · subst h0
    obtain ⟨hok, rfl⟩ := spc_ok hE
    obtain ⟨hC, _⟩ := chk_ok hA
    obtain ⟨K, hK⟩ := dat_ex hok
    refine ⟨_, _, ?_, fun wx hb => (schDates_yes s W K p b off c rs wx hok hC hK (hs.below hb)).mono fun e w' ⟨a, b⟩ => ⟨ints_ofW a, b⟩, fun wx hb => (ref8Dates_ok s W K p b off c rs wx hok hC hK (hs.below hb)).mono fun e w' ⟨a, b⟩ => ⟨ints_of a, b⟩⟩
    split
    · rw [dat_len]; have := cut_le s K; omega
    · simp
  · exact ⟨[], E, by simp, fun wx hb => (schDates_no s W A B E p b off c rs wx hA hE h0 (hs.below hb) (by omega)).mono fun e w' ⟨a, b⟩ => ⟨by rw [a]; exact ints_nilW _ _ _, b⟩, fun wx hb => (ref8Dates_no s W A B E p b off c rs wx hA hE h0 (hs.below hb) hl).mono fun e w' ⟨a, b⟩ => ⟨by rw [a]; exact ints_nil _ _ _, b⟩⟩
theorem periods_three (s : Spc) (W : Int) (p : Option Addr) (b off c : Nat) (rs : List Rul) (w : World) (hs : RSrc w p b off rs) (hl : rs.length ≤ 1000000) : ∃ (xs : List Per) (E : Int), xs.length ≤ 2000 ∧
    (∀ wx, Below w.heap.size w wx → Calls Try.prog 9 #[.agg #[.int .i64 s.st, .int .i64 s.en, .int .i64 s.n, .int .i64 s.unit, .int .i64 s.stub, .int .i64 s.roll, .int .i64 s.conv, .int .i64 s.lag, .int .i64 W, .slice p rs.length c]] wx fun e w' => PersW xs E wx e w' ∧ Below wx.heap.size wx w') ∧
    (∀ wx, Below w.heap.size w wx → Calls Try.prog 12 #[.agg #[.int .i64 s.st, .int .i64 s.en, .int .i64 s.n, .int .i64 s.unit, .int .i64 s.stub, .int .i64 s.roll, .int .i64 s.conv, .int .i64 s.lag, .int .i64 W, .slice p rs.length c]] wx fun e w' => PersOut xs E wx e w' ∧ Below wx.heap.size wx w') := by
  obtain ⟨A, B, hA⟩ := chk_ex W rs
  obtain ⟨E, hE⟩ := spc_ex s A
  by_cases h0 : E = 0
  · subst h0
    obtain ⟨hok, rfl⟩ := spc_ok hE
    obtain ⟨hC, _⟩ := chk_ok hA
    obtain ⟨K, hK⟩ := dat_ex hok
    refine ⟨_, _, ?_, fun wx hb => (schPeriods_yes s W K p b off c rs wx hok hC hK (hs.below hb)).mono fun e w' ⟨a, b⟩ => ⟨pers_ofW a, b⟩, fun wx hb => (ref8Periods_ok s W K p b off c rs wx hok hC hK (hs.below hb)).mono fun e w' ⟨a, b⟩ => ⟨pers_of a, b⟩⟩
    split
    · rw [perL_len]; have := cut_le s K; omega
    · simp
  · exact ⟨[], E, by simp, fun wx hb => (schPeriods_no s W A B E p b off c rs wx hA hE h0 (hs.below hb) (by omega)).mono fun e w' ⟨a, b⟩ => ⟨by rw [a]; exact pers_nilW _ _ _, b⟩, fun wx hb => (ref8Periods_no s W A B E p b off c rs wx hA hE h0 (hs.below hb) hl).mono fun e w' ⟨a, b⟩ => ⟨by rw [a]; exact pers_nil _ _ _, b⟩⟩

/-- Only the block g has been written (if m is 0, none). -/
structure OnlyB (g m : Nat) (w5 wr : World) : Prop where
  zero : m = 0 → wr = w5
  os : wr.os = w5.os
  tape : wr.tape = w5.tape
  output : wr.output = w5.output
  size : wr.heap.size = w5.heap.size
  other : ∀ k, k ≠ g → wr.heap[k]? = w5.heap[k]?
  cell : ∀ j < m, ∃ v, wr.cell? ⟨g, j, none⟩ = some v
  frz : 0 < m → ∀ j, wr.frozen? ⟨g, j, none⟩ = false
theorem OnlyB.first {g m : Nat} {w5 : World} (hc : ∀ j < m, ∃ v, w5.cell? ⟨g, j, none⟩ = some v) (hf : 0 < m → ∀ j, w5.frozen? ⟨g, j, none⟩ = false) : OnlyB g m w5 w5 :=
  ⟨fun _ => rfl, rfl, rfl, rfl, rfl, fun _ _ => rfl, hc, hf⟩
theorem OnlyB.set {g m : Nat} {w5 wr : World} (h : OnlyB g m w5 wr) (hm : 0 < m) (j : Nat) (x : Value) : OnlyB g m w5 (wr.setCell ⟨g, j, none⟩ x) :=
  ⟨fun e => by omega, h.os, h.tape, h.output, by simpa using h.size, fun k hk => (Below.heap_setCell wr ⟨g, j, none⟩ x k hk).trans (h.other k hk), fun i hi => by
    obtain ⟨v, hv⟩ := h.cell i hi
    exact cell?_setCell_some hv, fun h0 i => by rw [World.frozen?_setCell]; exact h.frz h0 i⟩
theorem OnlyB.cellEq {g m : Nat} {w5 wr : World} (h : OnlyB g m w5 wr) {k : Nat} (hk : 0 < m → k ≠ g) (o : Nat) : wr.cell? ⟨k, o, none⟩ = w5.cell? ⟨k, o, none⟩ := by
  by_cases h0 : m = 0
  · rw [h.zero h0]
  · exact World.cell?_of_block (w := w5) (h.other k (hk (by omega)))
theorem OnlyB.below {g m B : Nat} {w w5 wr : World} (h : OnlyB g m w5 wr) (hb : Below B w w5) (hg : 0 < m → B ≤ g) : Below B w wr := by
  by_cases h0 : m = 0
  · rw [h.zero h0]; exact hb
  · have := hg (by omega)
    exact ⟨h.os.trans hb.os, h.tape.trans hb.tape, h.output.trans hb.output, by rw [h.size]; exact hb.size, fun k hk => (h.other k (by omega)).trans (hb.block k hk)⟩
theorem OnlyB.isrc {g m : Nat} {w5 wr : World} (h : OnlyB g m w5 wr) {q : Option Addr} {b off : Nat} {xs : List Int} (hs : ISrc w5 q b off xs) (hb : 0 < m → 0 < xs.length → b ≠ g) : ISrc wr q b off xs :=
  ⟨hs.at_, fun hx => by rw [h.size]; exact hs.lt hx, fun i hi => (h.cellEq (fun h0 => hb h0 (by omega)) _).trans (hs.cell i hi)⟩
theorem OnlyB.psrc {g m : Nat} {w5 wr : World} (h : OnlyB g m w5 wr) {q : Option Addr} {b off : Nat} {xs : List Per} (hs : PSrc w5 q b off xs) (hb : 0 < m → 0 < xs.length → b ≠ g) : PSrc wr q b off xs :=
  ⟨hs.at_, fun hx => by rw [h.size]; exact hs.lt hx, fun i hi => by
    have hg := fun h0 => hb h0 (by omega)
    obtain ⟨c0, c1, c2, c3, c4⟩ := hs.cell i hi
    exact ⟨(h.cellEq hg _).trans c0, (h.cellEq hg _).trans c1, (h.cellEq hg _).trans c2, (h.cellEq hg _).trans c3, (h.cellEq hg _).trans c4⟩⟩
theorem OnlyB.rsrc {g m : Nat} {w5 wr : World} (h : OnlyB g m w5 wr) {q : Option Addr} {b off : Nat} {rs : List Rul} (hs : RSrc w5 q b off rs) (hb : 0 < m → 0 < rs.length → b ≠ g) : RSrc wr q b off rs :=
  ⟨hs.at_, fun hx => by rw [h.size]; exact hs.lt hx, fun i hi => by
    have hg := fun h0 => hb h0 (by omega)
    obtain ⟨c0, c1, c2, c3, c4, c5, c6, c7, c8⟩ := hs.cell i hi
    exact ⟨(h.cellEq hg _).trans c0, (h.cellEq hg _).trans c1, (h.cellEq hg _).trans c2, (h.cellEq hg _).trans c3, (h.cellEq hg _).trans c4, (h.cellEq hg _).trans c5, (h.cellEq hg _).trans c6, (h.cellEq hg _).trans c7, (h.cellEq hg _).trans c8⟩⟩
theorem own_built (w : World) : (w.alloc (.cells #[] 45)).ownsRow w.heap.size 45 9 (.slice (some ⟨w.heap.size, 0, none⟩) 0 0) 0 (rowC []) := ⟨rfl, .inr ⟨w.heap.size, 0, #[], rfl, Nat.le_refl _, heap_alloc_new w _, Nat.le_refl _, by unfold maxLen; omega, rfl, rfl⟩⟩
theorem rgrown_below {w w' : World} {v : Value} {B n : Nat} {xs : List Value} (ho : w.ownsRow B 45 9 v n xs) (hg : w.grownBy w' v.ownBlock) (hB : B ≤ w.heap.size) : Below B w w' :=
  (Below.refl B w).grown hg hB (fun k hk => by
    rcases ho.2 with ⟨rfl, _⟩ | ⟨g, cap, cur, rfl, hbg, _⟩
    · cases hk
    · obtain rfl : g = k := by simpa [Value.ownBlock] using hk
      exact hbg)
theorem psrc_cells {w : World} {q : Option Addr} {g : Nat} {ps : List Per} (h : PSrc w q g 0 ps) : ∀ j < ps.length * 5, ∃ v, w.cell? ⟨g, j, none⟩ = some v := fun j hj => by
  have hi : j / 5 < ps.length := by omega
  obtain ⟨c0, c1, c2, c3, c4⟩ := h.cell (j / 5) hi
  rcases (show j = 0 + j / 5 * 5 + 0 ∨ j = 0 + j / 5 * 5 + 1 ∨ j = 0 + j / 5 * 5 + 2 ∨ j = 0 + j / 5 * 5 + 3 ∨ j = 0 + j / 5 * 5 + 4 by omega) with e | e | e | e | e
  all_goals rw [e]
  · exact ⟨_, c0⟩
  · exact ⟨_, c1⟩
  · exact ⟨_, c2⟩
  · exact ⟨_, c3⟩
  · exact ⟨_, c4⟩
end Go.Proofs.Ytelghkhcplmnmaa
