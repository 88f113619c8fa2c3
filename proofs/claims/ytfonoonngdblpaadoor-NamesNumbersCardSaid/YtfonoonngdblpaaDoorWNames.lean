/- The walk of NamesNumbers. -/
import Derived.Test.YtfonoonngdblpaaDoorNOwn
import Derived.LoopTactic
import Derived.BigQuiet
namespace Go.Proofs.YtfonoonngdblpaaDoor
open Go.RowKit

theorem info_pair : (Tryd.prog.info? 25).map (fun i => (i.zero, i.size, i.bytes)) = some (some (.agg #[.int .i64 0, .int .i64 0]), 2, 16) := by kernel_rfl

theorem pairs_cells {w : World} {base g n c : Nat} {l : List Int} (h : Pairs w base (.slice (some ⟨g, 0, none⟩) n c) n l) : ∀ j u, (dbl l)[j]? = some u → w.cell? ((⟨g, 0, none⟩ : Addr).add j) = some u := by
  intro j u hj
  have hlt : j < (dbl l).length := by
    rcases Nat.lt_or_ge j (dbl l).length with h | h
    · exact h
    · rw [List.getElem?_eq_none h] at hj; cases hj
  have := World.ownsRow.cellAt h j (by rw [← h.1]; exact hlt)
  rw [hj] at this
  have e : (⟨g, 0, none⟩ : Addr).add j = ⟨g, j, none⟩ := by
    cases j with
    | zero => rfl
    | succ j => simp [Addr.add]
  rw [e]; exact this

theorem call_bits' (b : Nat) (w : World) : (callFunc 13 #[.float .f64 b]).run Tryd.prog w = .ok (.value (.int .u64 b)) w :=
  (run_callFunc_extern (e := Extern.MathFloatBits.float64bits) Tryd.func13 (by kernel_rfl) (by kernel_rfl) (by kernel_rfl) (by kernel_rfl) _ w).trans rfl
theorem call_frombits' (n : Int) (w : World) : (callFunc 14 #[.int .u64 n]).run Tryd.prog w = .ok (.value (.float .f64 n.toNat)) w :=
  (run_callFunc_extern (e := Extern.MathFloatBits.float64frombits) Tryd.func14 (by kernel_rfl) (by kernel_rfl) (by kernel_rfl) (by kernel_rfl) _ w).trans rfl
theorem call_bits32' (b : Nat) (w : World) : (callFunc 15 #[.float .f32 b]).run Tryd.prog w = .ok (.value (.int .u32 b)) w :=
  (run_callFunc_extern (e := Extern.MathFloatBits.float32bits) Tryd.func15 (by kernel_rfl) (by kernel_rfl) (by kernel_rfl) (by kernel_rfl) _ w).trans rfl
theorem call_frombits32' (n : Int) (w : World) : (callFunc 16 #[.int .u32 n]).run Tryd.prog w = .ok (.value (.float .f32 n.toNat)) w :=
  (run_callFunc_extern (e := Extern.MathFloatBits.float32frombits) Tryd.func16 (by kernel_rfl) (by kernel_rfl) (by kernel_rfl) (by kernel_rfl) _ w).trans rfl

/-- The law, where the loop begins: a row of 120 pairs. -/
theorem pair_at {w : World} {base g c : Nat} {l : List Int} (h : Pairs w base (.slice (some ⟨g, 0, none⟩) 120 c) 120 l) (hl : l.length = 120) (i : Nat) (hi : i < 120) :
    ∃ x : Int, w.cell? ⟨g, i * 2, none⟩ = some (.int .i64 x) ∧ w.cell? ⟨g, i * 2 + 1, none⟩ = some (.int .i64 x) := by
  have := dbl_get l i (by omega)
  refine ⟨l[i], ?_, ?_⟩
  · rw [World.ownsRow.cellAt h (i * 2) (by omega), show i * 2 = 2 * i by omega]; exact this.1
  · rw [World.ownsRow.cellAt h (i * 2 + 1) (by omega), show i * 2 + 1 = 2 * i + 1 by omega]; exact this.2

set_option maxRecDepth 10000 in
set_option maxHeartbeats 1000000 in
theorem names_walk (w : World) (htab : Lib.TabIs Tryd.prog w "internal/strconv.uint64pow10" .u64 Lib.pow10Tab) :
    Calls Tryd.prog 3 #[] w fun e w' => e = .returned (.bool true) ∧ Below w.heap.size w w' := by
  have HT : Hid (Lib.TabBelow Tryd.prog w.heap.size w "internal/strconv.uint64pow10" .u64 Lib.pow10Tab) := Lib.tabBelow_of_tabIs htab
  clear htab
  obtain ⟨i0, hi, hz0, hz1, hz2⟩ := info_parts info_pair
  go_enter Tryd.func3, Tryd.ntmps3
  go_wp2_with fail
  refine (errs_own _).mono ?_
  rintro e w1 ⟨rfl, ho1, hb1⟩
  have h01 : w.heap.size < w1.heap.size := (World.ownsRow.lt ho1 _ rfl).2
  have HO1 : Hid (Pairs w1 w.heap.size (.slice (some ⟨w.heap.size, 0, none⟩) 31 31) 31 errsN) := ho1
  have HB1 : Hid (Below w.heap.size w w1) := hb1
  clear ho1 hb1
  go_wp2_with fail
  refine (limits_own _).mono ?_
  rintro e w2 ⟨rfl, ho2, hb2⟩
  have h12 : w1.heap.size < w2.heap.size := (World.ownsRow.lt ho2 _ rfl).2
  have HO1 : Hid (Pairs w2 w.heap.size (.slice (some ⟨w.heap.size, 0, none⟩) 31 31) 31 errsN) := own_below HO1.out hb2 (Nat.le_refl _)
  have HO2 : Hid (Pairs w2 w1.heap.size (.slice (some ⟨w1.heap.size, 0, none⟩) 26 26) 26 limitsN) := ho2
  have HB2 : Hid (Below w.heap.size w w2) := HB1.out.trans (hb2.mono (by omega))
  clear ho2 hb2
  have hlE : (dbl errsN).length = 62 := by rw [dbl_length]; rfl
  have hlL : (dbl limitsN).length = 26 * 2 := by rw [dbl_length]; rfl
  have HC2 := pairs_cells HO2.out
  have HC2 : Hid (∀ j u, (dbl limitsN)[j]? = some u → w2.cell? ((⟨w1.heap.size, 0, none⟩ : Addr).add j) = some u) := HC2
  clear hlE
  go_wp2_with (at_builtin; go_must (refine wpList_append_own w2 rfl (.tmp 3) (.tmp 4) 22 rfl w.heap.size 25 i0 (.agg #[.int .i64 0, .int .i64 0]) 2 16 Tryd.underlying22 hi hz0 hz1 hz2 rfl (by decide) (.slice (some ⟨w.heap.size, 0, none⟩) 31 31) 31 (dbl errsN) rfl HO1.out ⟨w1.heap.size, 0, none⟩ 26 26 (dbl limitsN) rfl hlL HC2.out (dbl_one _) (by unfold maxLen; omega) (by omega) (by omega) ?_); intro v3 w3 ho3 hg3 hn3)
  have h23 : w2.heap.size ≤ w3.heap.size := hg3.size
  have HB3 : Hid (Below w.heap.size w w3) := HB2.out.grown hg3 (by omega) (fun k hk => by simp only [Value.ownBlock, Option.some.injEq] at hk; omega)
  have HO3 : Hid (Pairs w3 w.heap.size v3 57 (errsN ++ limitsN)) := by show World.ownsRow _ _ _ _ _ _ _; rw [dbl_append]; exact ho3
  clear ho3 hg3 hn3 HO1 HO2 HC2 hlL
  refine (kinds_own _).mono ?_
  rintro e w4 ⟨rfl, ho4, hb4⟩
  have h34 : w3.heap.size < w4.heap.size := (World.ownsRow.lt ho4 _ rfl).2
  have HO3 : Hid (Pairs w4 w.heap.size v3 57 (errsN ++ limitsN)) := own_below HO3.out hb4 (Nat.le_refl _)
  have HC4 : Hid (∀ j u, (dbl kindsN)[j]? = some u → w4.cell? ((⟨w3.heap.size, 0, none⟩ : Addr).add j) = some u) := pairs_cells (show Pairs w4 w3.heap.size _ 63 kindsN from ho4)
  have HB4 : Hid (Below w.heap.size w w4) := HB3.out.trans (hb4.mono (by omega))
  have hlK : (dbl kindsN).length = 63 * 2 := by rw [dbl_length]; rfl
  clear ho4 hb4
  go_wp2_with (at_builtin; go_must (refine wpList_append_own w4 rfl (.tmp 5) (.tmp 6) 22 rfl w.heap.size 25 i0 (.agg #[.int .i64 0, .int .i64 0]) 2 16 Tryd.underlying22 hi hz0 hz1 hz2 rfl (by decide) v3 57 (dbl (errsN ++ limitsN)) rfl HO3.out ⟨w3.heap.size, 0, none⟩ 63 63 (dbl kindsN) rfl hlK HC4.out (dbl_one _) (by unfold maxLen; omega) (by omega) (by omega) ?_); intro v5 w5 ho5 hg5 hn5)
  have hr3 := World.ownsRow.lt HO3.out
  have HB5 : Hid (Below w.heap.size w w5) := HB4.out.grown hg5 (by omega) (fun k hk => (hr3 k hk).1)
  have hp5 : Pairs w5 w.heap.size v5 120 (errsN ++ limitsN ++ kindsN) := by show World.ownsRow _ _ _ _ _ _ _; rw [dbl_append]; exact ho5
  have hex : ∃ g c, v5 = .slice (some ⟨g, 0, none⟩) 120 c := by
    rcases hp5.2 with ⟨_, h⟩ | ⟨g, c, _, h, _⟩
    · cases h
    · exact ⟨g, c, h⟩
  obtain ⟨g, c, hv⟩ := hex
  rw [hv] at hp5 ⊢
  have HP5 : Hid (Pairs w5 w.heap.size (.slice (some ⟨g, 0, none⟩) 120 c) 120 (errsN ++ limitsN ++ kindsN)) := hp5
  clear hp5 hv ho5 hg5 hn5 hr3 HO3 HC4 hlK hi hz0 hz1 hz2
  go_wp2_with fail
  go_loopw [2] (fun i wr => ∃ k : Nat, k ≤ 120 ∧ i = .int .i64 k ∧ Hid (∃ n, wr = w5.drewN n)) (fun i _ => 120 - (intOf i).toNat)
  case atStart => exact ⟨0, Nat.zero_le _, rfl, 0, rfl⟩
  case round =>
    obtain ⟨k, hk, rfl, HW⟩ := hrel
    obtain ⟨nw, rfl⟩ := HW.out
    clear HW
    by_cases hlt : k < 120
    · obtain ⟨x, c1, c2⟩ := pair_at HP5.out rfl k hlt
      have hki : (k : Int) < 120 := by omega
      have hk0 : (0 : Int) ≤ (k : Int) := by omega
      have tn : ((k : Int)).toNat = k := by omega
      go_wp2_with fail
      go_quiet (fail)
      go_wp2_with fail
      go_roundw
      case rel => first | exact ⟨k + 1, by omega, by go_num, _, rfl⟩ | ((repeat apply Exists.intro); exact ⟨⟨k + 1, by omega, by go_num, ⟨_, rfl⟩⟩, rfl⟩)
      case measure => simp [intOf]; omega
    · have HT5 : Hid (Lib.TabIs Tryd.prog (w5.drewN nw) "internal/strconv.uint64pow10" .u64 Lib.pow10Tab) := HT.out _ (below_drewN HB5.out nw)
      have q1 := call_bits'
      have q2 := call_frombits'
      have q3 := call_bits32'
      have q4 := call_frombits32'
      have o1 : (FloatKind.f64.format.order 13830554455654793216 13830554455654793216 == some .eq) = true := by decide
      have o2 : (FloatKind.f32.format.order 3212836864 3212836864 == some .eq) = true := by decide
      go_wp2_with fail
      refine (error210 _ HT5.out).mono ?_
      rintro e w6 ⟨rfl, hb6⟩
      have HB6 : Hid (Below (w5.drewN nw).heap.size (w5.drewN nw) w6) := hb6
      clear hb6
      go_wp2_with fail
      refine (error0 _).mono ?_
      rintro e w' ⟨rfl, rfl⟩
      go_wp2
      go_ret
      exact ⟨rfl, (below_drewN HB5.out nw).trans (HB6.out.mono (by have := HB5.out.size; show w.heap.size ≤ w5.heap.size; omega))⟩

end Go.Proofs.YtfonoonngdblpaaDoor
