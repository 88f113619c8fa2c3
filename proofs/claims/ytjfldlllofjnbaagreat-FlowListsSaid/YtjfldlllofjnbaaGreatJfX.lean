/- The contracts of the document's Give, Window, Scale and Shift. -/
import Derived.Test.YtjfldlllofjnbaaGreatHas
import Derived.Test.YtjfldlllofjnbaaGreatJfW
import Derived.Test.YtjfldlllofjnbaaGreatHap
namespace Go.Proofs.YtjfldlllofjnbaaGreat
open Go.RowKit

theorem neg_flipJ {x : Nat} (h : x < 18446744073709551616) : Op.negFloat .f64 x = flipN x := (show Op.negFloat .f64 x = x ^^^ 9223372036854775808 from rfl).trans (flip_bits h)
set_option maxRecDepth 20000 in
set_option maxHeartbeats 6400000 in
theorem ref14Give_any (l : List Flw) (p : Option Addr) (b off c N : Nat) (w : World) (hl : JSrc aB w p b off l) (hN : l.length = N) (hc : N * 24 ≤ 140737488355328) (hf : FitJ l) :
    Calls Tryz.prog 26 #[.slice p N c] w fun e w' => (∃ u, e = .returned u ∧ w'.ownsRow w.heap.size 85 3 u N (rowF aB (l.map giveF))) ∧ Below w.heap.size w w' := by
  have HN := hideS hN
  have HQ := hideS hl
  have HF := hideS hf
  have HP : Hid (0 < N → p = some ⟨b, off, none⟩) := fun h => hl.at_ (by omega)
  have HC := hideS hc
  have hc2 : N ≤ 140737488355328 := by omega
  have HO0 := hideS (fown_nil aB w w.heap.size 85)
  clear hl hN hc hf
  go_enter Tryz.func26, Tryz.ntmps26
  go_wp2_with fail
  go_loopw [3, 4] (fun g i wr => ∃ (k : Nat) (q : Option Addr) (cp : Nat), k ≤ N ∧ i = .int .i64 k ∧ g = .slice q k cp ∧ Hid (wr.ownsRow w.heap.size 85 3 (.slice q k cp) k (rowF aB (mapN giveF l k))) ∧ Hid (Below w.heap.size w wr)) (fun _ i _ => N - (intOf i).toNat)
  case atStart => exact ⟨0, none, 0, Nat.zero_le _, rfl, rfl, HO0, Below.refl _ _⟩
  case round =>
    clear HO0
    obtain ⟨k, q, cp, hk, rfl, rfl, HO, HB⟩ := hrel
    by_cases hlt : k < N
    · obtain rfl := HP.out (by omega)
      obtain ⟨c0, c1, c2⟩ := (HQ.out.below HB.out).cell k (by rw [HN.out]; exact hlt)
      have hbl : b < wr.heap.size := Nat.lt_of_lt_of_le (HQ.out.lt (by rw [HN.out]; omega)) HB.out.size
      have HS : Hid (mapN giveF l (k + 1) = mapN giveF l k ++ [⟨(l.getD k flw0).day, Op.negFloat .f64 (l.getD k flw0).am, (l.getD k flw0).cur⟩]) := mapN_succ giveF l k
      have HFk := hideS (HF.out k)
      obtain ⟨f, hf⟩ : ∃ f, l.getD k flw0 = f := ⟨_, rfl⟩
      rw [hf] at HS c0 c1 c2 HFk
      clear hf
      obtain ⟨qd, qa, qc⟩ := f
      dsimp only [aB] at *
      obtain ⟨na, hna⟩ : ∃ na, Op.negFloat .f64 qa = na := ⟨_, rfl⟩
      have HFl := hideS fun wx => refFlip_at qa qa (na : Int) wx rfl (by have := HFk.out; unfold U64; omega) (by show _ = _; rw [← hna, neg_flipJ HFk.out])
      rw [hna] at HS
      clear hna
      have hbn : b ≠ wr.heap.size := Nat.ne_of_lt hbl
      have HBw := hideS ((Below.refl wr.heap.size wr).drew.alloc (Nat.le_refl _) (.cells #[.int .i64 qd, .int .u64 (na : Int), .int .i64 qc] 85))
      have HO4 := hideS (fown_below HO.out HBw.out)
      have HB4 := hideS (HB.out.trans (HBw.out.mono HB.out.size))
      have HFc : Hid (FCells aB (wr.drew.alloc (.cells #[.int .i64 qd, .int .u64 (na : Int), .int .i64 qc] 85)) wr.heap.size 0 ⟨qd, na, qc⟩) := dcells_new wr.drew ⟨qd, na, qc⟩
      have g3 : (0 : Int) ≤ (k : Int) := by omega
      have g4 : (k : Int) < (N : Int) := by omega
      go_wp2_with fail
      go_region_law (first | (go_simp; go_at_call 49; refine (HFl.out _).mono ?_; rintro e wb ⟨rfl, rfl⟩) | (refine step_append_fd rfl (.tmp 11) (.tmp 29) rfl w.heap.size (.slice q k cp) k (mapN giveF l k) rfl HO4.out HB4.out.size wr.heap.size ⟨qd, na, qc⟩ rfl HFc.out (by have := HC.out; omega) ?_; intro v5 w5 ho5 hb5; rw [← HS.out] at ho5; have HB5 := hideS (HB4.out.trans hb5); obtain ⟨q5, g5, k5, hv5, _, _, _, hm5⟩ := fown_src ho5 (mapN_len _ _ _); subst hv5; have HO5 := hideS ho5; clear ho5 hb5))
      all_goals
        go_wp2_with fail
        go_roundw
        case rel => exact ⟨k + 1, q5, k5, by omega, by go_num, rfl, HO5, HB5⟩
        case measure => simp [intOf]; omega
    · obtain rfl : k = N := by omega
      go_wp2_with fail
      go_ret
      refine ⟨⟨_, rfl, ?_⟩, HB.out⟩
      have := HO.out
      rw [← HN.out, mapN_all, HN.out] at this
      exact this
set_option maxRecDepth 20000 in
set_option maxHeartbeats 3200000 in
theorem ref14Window_any (l : List Flw) (p : Option Addr) (b off c N : Nat) (x y : Int) (w : World) (hl : JSrc aB w p b off l) (hN : l.length = N) (hc : N * 24 ≤ 140737488355328) :
    Calls Tryz.prog 28 #[.slice p N c, .int .i64 x, .int .i64 y] w fun e w' => (∃ u, e = .returned u ∧ w'.ownsRow w.heap.size 85 3 u (l.filter (winF x y)).length (rowF aB (l.filter (winF x y)))) ∧ Below w.heap.size w w' := by
  have HN := hideS hN
  have HQ := hideS hl
  have HP : Hid (0 < N → p = some ⟨b, off, none⟩) := fun h => hl.at_ (by omega)
  have HC := hideS hc
  have hc2 : N ≤ 140737488355328 := by omega
  have HO0 := hideS (fown_nil aB w w.heap.size 85)
  have HR : Hid (winN x y l N = l.filter (winF x y)) := by show _ = _; rw [← hN]; exact winN_all x y l
  rw [← HR.out]
  clear hl hN hc HR
  go_enter Tryz.func28, Tryz.ntmps28
  go_wp2_with fail
  go_loopw [7, 8] (fun g i wr => ∃ (k m : Nat) (q : Option Addr) (cp : Nat), k ≤ N ∧ i = .int .i64 k ∧ g = .slice q m cp ∧ Hid (m = (winN x y l k).length) ∧ Hid (wr.ownsRow w.heap.size 85 3 (.slice q m cp) m (rowF aB (winN x y l k))) ∧ Hid (Below w.heap.size w wr)) (fun _ i _ => N - (intOf i).toNat)
  case atStart => exact ⟨0, 0, none, 0, Nat.zero_le _, rfl, rfl, rfl, HO0, Below.refl _ _⟩
  case round =>
    clear HO0
    obtain ⟨k, m, q, cp, hk, rfl, rfl, HM, HO, HB⟩ := hrel
    by_cases hlt : k < N
    · obtain rfl := HP.out (by omega)
      obtain ⟨c0, c1, c2⟩ := (HQ.out.below HB.out).cell k (by rw [HN.out]; exact hlt)
      have HL := hideS (winN_len x y l k)
      have HS : Hid (winN x y l (k + 1) = if x ≤ (l.getD k flw0).day ∧ (l.getD k flw0).day < y then winN x y l k ++ [l.getD k flw0] else winN x y l k) := rfl
      obtain ⟨f, hf⟩ : ∃ f, l.getD k flw0 = f := ⟨_, rfl⟩
      rw [hf] at HS c0 c1 c2
      clear hf
      obtain ⟨qd, qa, qc⟩ := f
      dsimp only [aB] at *
      by_cases h1 : x ≤ qd
      · by_cases h2 : qd < y
        · rw [if_pos ⟨h1, h2⟩] at HS
          have HBw := hideS ((Below.refl wr.heap.size wr).alloc (Nat.le_refl _) (.cells #[.int .i64 qd, .int .u64 (qa : Int), .int .i64 qc] 85))
          have HO4 := hideS (fown_below HO.out HBw.out)
          have HFc := hideS (dcells_new wr ⟨qd, qa, qc⟩)
          have HB4 := hideS (HB.out.trans (HBw.out.mono HB.out.size))
          have HLn : Hid ((winN x y l (k + 1)).length = m + 1) := by show _ = _; rw [HS.out, List.length_append, ← HM.out]; rfl
          go_wp2_with (at_builtin; refine wpList_append_d1 _ rfl (.tmp 31) (.tmp 36) rfl w.heap.size (.slice q m cp) m (winN x y l k) rfl HO4.out HB4.out.size wr.heap.size ⟨qd, qa, qc⟩ rfl HFc.out (by have := HC.out; have := HL.out; have := HM.out; omega) ?_; intro v5 w5 ho5 hb5; rw [← HS.out] at ho5; have HB5 := hideS (HB4.out.trans hb5); obtain ⟨q5, g5, k5, hv5, _, _, _, hm5⟩ := fown_src ho5 HLn.out; subst hv5; have HO5 := hideS ho5; clear ho5 hb5)
          go_roundw
          case rel => exact ⟨k + 1, m + 1, q5, k5, by omega, by go_num, rfl, HLn.out.symm, HO5, HB5⟩
          case measure => simp [intOf]; omega
        · rw [if_neg (fun h => h2 h.2)] at HS
          rw [← HS.out] at HO HM
          go_wp2_with fail
          go_roundw
          case rel => exact ⟨k + 1, m, q, cp, by omega, by go_num, rfl, HM, HO, HB⟩
          case measure => simp [intOf]; omega
      · rw [if_neg (fun h => h1 h.1)] at HS
        rw [← HS.out] at HO HM
        go_wp2_with fail
        go_roundw
        case rel => exact ⟨k + 1, m, q, cp, by omega, by go_num, rfl, HM, HO, HB⟩
        case measure => simp [intOf]; omega
    · obtain rfl : k = N := by omega
      go_wp2_with fail
      go_ret
      refine ⟨⟨_, rfl, ?_⟩, HB.out⟩
      rw [← HM.out]
      exact HO.out
end Go.Proofs.YtjfldlllofjnbaaGreat
