/- The contracts of the document's Give, Window, Scale and Shift. The contracts of the document's Scale and Shift. -/
import Derived.Test.YteglnchcnacjlaaGreatHav
import Derived.Test.YteglnchcnacjlaaGreatJfW
import Derived.Test.YteglnchcnacjlaaGreatHas
namespace Go.Proofs.YteglnchcnacjlaaGreat
open Go.RowKit

theorem neg_flipJ {x : Nat} (h : x < 18446744073709551616) : Op.negFloat .f64 x = flipN x := (show Op.negFloat .f64 x = x ^^^ 9223372036854775808 from rfl).trans (flip_bits h)
set_option maxRecDepth 20000 in
set_option maxHeartbeats 6400000 in
theorem ref14Give_any (l : List Flw) (p : Option Addr) (b off c N : Nat) (w : World) (hl : JSrc aB w p b off l) (hN : l.length = N) (hc : N * 24 ≤ 140737488355328) (hf : FitJ l) :
    Calls Tryz.prog 17 #[.slice p N c] w fun e w' => (∃ u, e = .returned u ∧ w'.ownsRow w.heap.size 49 3 u N (rowF aB (l.map giveF))) ∧ Below w.heap.size w w' := by
  have HN := hideS hN
  have HQ := hideS hl
  have HF := hideS hf
  have HP : Hid (0 < N → p = some ⟨b, off, none⟩) := fun h => hl.at_ (by omega)
  have HC := hideS hc
  have hc2 : N ≤ 140737488355328 := by omega
  have HO0 := hideS (fown_nil aB w w.heap.size 49)
  clear hl hN hc hf
  go_enter Tryz.func17, Tryz.ntmps17
  go_wp2_with fail
  go_loopw [3, 4] (fun g i wr => ∃ (k : Nat) (q : Option Addr) (cp : Nat), k ≤ N ∧ i = .int .i64 k ∧ g = .slice q k cp ∧ Hid (wr.ownsRow w.heap.size 49 3 (.slice q k cp) k (rowF aB (mapN giveF l k))) ∧ Hid (Below w.heap.size w wr)) (fun _ i _ => N - (intOf i).toNat)
  case atStart => exact ⟨0, none, 0, Nat.zero_le _, rfl, rfl, HO0, Below.refl _ _⟩
  case round =>
    clear HO0
    obtain ⟨k, q, cp, hk, rfl, rfl, HO, HB⟩ := hrel
    by_cases hlt : k < N
    · obtain rfl := HP.out (by omega)
      obtain ⟨c0, c1, c2⟩ := (HQ.out.below HB.out).cell k (by rw [HN.out]; exact hlt)
      have hbl : b < wr.heap.size := Nat.lt_of_lt_of_le (HQ.out.lt (by rw [HN.out]; omega)) HB.out.size
      have HS : Hid (mapN giveF l (k + 1) = mapN giveF l k ++ [⟨(l.getD k flw0).day, Op.negFloat .f64 (l.getD k flw0).am, (l.getD k flw0).cur⟩]) := mapN_succ giveF l k
      have HFk := hideS (HF.out k)
      obtain ⟨f, hf⟩ : ∃ f, l.getD k flw0 = f := ⟨_, rfl⟩
      rw [hf] at HS c0 c1 c2 HFk
      clear hf
      obtain ⟨qd, qa, qc⟩ := f
      dsimp only [aB] at *
      obtain ⟨na, hna⟩ : ∃ na, Op.negFloat .f64 qa = na := ⟨_, rfl⟩
      have HFl := hideS fun wx => refFlip_at qa qa (na : Int) wx rfl (by have := HFk.out; unfold U64; omega) (by show _ = _; rw [← hna, neg_flipJ HFk.out])
      rw [hna] at HS
      clear hna
      have hbn : b ≠ wr.heap.size := Nat.ne_of_lt hbl
      have HBw := hideS ((Below.refl wr.heap.size wr).drew.alloc (Nat.le_refl _) (.cells #[.int .i64 qd, .int .u64 (na : Int), .int .i64 qc] 49))
      have HO4 := hideS (fown_below HO.out HBw.out)
      have HB4 := hideS (HB.out.trans (HBw.out.mono HB.out.size))
      have HFc : Hid (FCells aB (wr.drew.alloc (.cells #[.int .i64 qd, .int .u64 (na : Int), .int .i64 qc] 49)) wr.heap.size 0 ⟨qd, na, qc⟩) := dcells_new wr.drew ⟨qd, na, qc⟩
      have g3 : (0 : Int) ≤ (k : Int) := by omega
      have g4 : (k : Int) < (N : Int) := by omega
      go_wp2_with fail
      go_region_law (first | (go_simp; go_at_call 34; refine (HFl.out _).mono ?_; rintro e wb ⟨rfl, rfl⟩) | (refine step_append_fd rfl (.tmp 11) (.tmp 29) rfl w.heap.size (.slice q k cp) k (mapN giveF l k) rfl HO4.out HB4.out.size wr.heap.size ⟨qd, na, qc⟩ rfl HFc.out (by have := HC.out; omega) ?_; intro v5 w5 ho5 hb5; rw [← HS.out] at ho5; have HB5 := hideS (HB4.out.trans hb5); obtain ⟨q5, g5, k5, hv5, _, _, _, hm5⟩ := fown_src ho5 (mapN_len _ _ _); subst hv5; have HO5 := hideS ho5; clear ho5 hb5))
      all_goals
        go_wp2_with fail
        go_roundw
        case rel => exact ⟨k + 1, q5, k5, by omega, by go_num, rfl, HO5, HB5⟩
        case measure => simp [intOf]; omega
    · obtain rfl : k = N := by omega
      go_wp2_with fail
      go_ret
      refine ⟨⟨_, rfl, ?_⟩, HB.out⟩
      have := HO.out
      rw [← HN.out, mapN_all, HN.out] at this
      exact this
set_option maxRecDepth 20000 in
set_option maxHeartbeats 3200000 in
theorem ref14Window_any (l : List Flw) (p : Option Addr) (b off c N : Nat) (x y : Int) (w : World) (hl : JSrc aB w p b off l) (hN : l.length = N) (hc : N * 24 ≤ 140737488355328) :
    Calls Tryz.prog 18 #[.slice p N c, .int .i64 x, .int .i64 y] w fun e w' => (∃ u, e = .returned u ∧ w'.ownsRow w.heap.size 49 3 u (l.filter (winF x y)).length (rowF aB (l.filter (winF x y)))) ∧ Below w.heap.size w w' := by
  have HN := hideS hN
  have HQ := hideS hl
  have HP : Hid (0 < N → p = some ⟨b, off, none⟩) := fun h => hl.at_ (by omega)
  have HC := hideS hc
  have hc2 : N ≤ 140737488355328 := by omega
  have HO0 := hideS (fown_nil aB w w.heap.size 49)
  have HR : Hid (winN x y l N = l.filter (winF x y)) := by show _ = _; rw [← hN]; exact winN_all x y l
  rw [← HR.out]
  clear hl hN hc HR
  go_enter Tryz.func18, Tryz.ntmps18
  go_wp2_with fail
  go_loopw [7, 8] (fun g i wr => ∃ (k m : Nat) (q : Option Addr) (cp : Nat), k ≤ N ∧ i = .int .i64 k ∧ g = .slice q m cp ∧ Hid (m = (winN x y l k).length) ∧ Hid (wr.ownsRow w.heap.size 49 3 (.slice q m cp) m (rowF aB (winN x y l k))) ∧ Hid (Below w.heap.size w wr)) (fun _ i _ => N - (intOf i).toNat)
  case atStart => exact ⟨0, 0, none, 0, Nat.zero_le _, rfl, rfl, rfl, HO0, Below.refl _ _⟩
  case round =>
    clear HO0
    obtain ⟨k, m, q, cp, hk, rfl, rfl, HM, HO, HB⟩ := hrel
    by_cases hlt : k < N
    · obtain rfl := HP.out (by omega)
      obtain ⟨c0, c1, c2⟩ := (HQ.out.below HB.out).cell k (by rw [HN.out]; exact hlt)
      have HL := hideS (winN_len x y l k)
      have HS : Hid (winN x y l (k + 1) = if x ≤ (l.getD k flw0).day ∧ (l.getD k flw0).day < y then winN x y l k ++ [l.getD k flw0] else winN x y l k) := rfl
      obtain ⟨f, hf⟩ : ∃ f, l.getD k flw0 = f := ⟨_, rfl⟩
      rw [hf] at HS c0 c1 c2
      clear hf
      obtain ⟨qd, qa, qc⟩ := f
      dsimp only [aB] at *
      by_cases h1 : x ≤ qd
      · by_cases h2 : qd < y
        · rw [if_pos ⟨h1, h2⟩] at HS
          have HBw := hideS ((Below.refl wr.heap.size wr).alloc (Nat.le_refl _) (.cells #[.int .i64 qd, .int .u64 (qa : Int), .int .i64 qc] 49))
          have HO4 := hideS (fown_below HO.out HBw.out)
          have HFc := hideS (dcells_new wr ⟨qd, qa, qc⟩)
          have HB4 := hideS (HB.out.trans (HBw.out.mono HB.out.size))
          have HLn : Hid ((winN x y l (k + 1)).length = m + 1) := by show _ = _; rw [HS.out, List.length_append, ← HM.out]; rfl
          go_wp2_with (at_builtin; refine wpList_append_d1 _ rfl (.tmp 31) (.tmp 36) rfl w.heap.size (.slice q m cp) m (winN x y l k) rfl HO4.out HB4.out.size wr.heap.size ⟨qd, qa, qc⟩ rfl HFc.out (by have := HC.out; have := HL.out; have := HM.out; omega) ?_; intro v5 w5 ho5 hb5; rw [← HS.out] at ho5; have HB5 := hideS (HB4.out.trans hb5); obtain ⟨q5, g5, k5, hv5, _, _, _, hm5⟩ := fown_src ho5 HLn.out; subst hv5; have HO5 := hideS ho5; clear ho5 hb5)
          go_roundw
          case rel => exact ⟨k + 1, m + 1, q5, k5, by omega, by go_num, rfl, HLn.out.symm, HO5, HB5⟩
          case measure => simp [intOf]; omega
        · rw [if_neg (fun h => h2 h.2)] at HS
          rw [← HS.out] at HO HM
          go_wp2_with fail
          go_roundw
          case rel => exact ⟨k + 1, m, q, cp, by omega, by go_num, rfl, HM, HO, HB⟩
          case measure => simp [intOf]; omega
      · rw [if_neg (fun h => h1 h.1)] at HS
        rw [← HS.out] at HO HM
        go_wp2_with fail
        go_roundw
        case rel => exact ⟨k + 1, m, q, cp, by omega, by go_num, rfl, HM, HO, HB⟩
        case measure => simp [intOf]; omega
    · obtain rfl : k = N := by omega
      go_wp2_with fail
      go_ret
      refine ⟨⟨_, rfl, ?_⟩, HB.out⟩
      rw [← HM.out]
      exact HO.out
end Go.Proofs.YteglnchcnacjlaaGreat
namespace Go.Proofs.YteglnchcnacjlaaGreat
open Go.RowKit

set_option maxRecDepth 20000 in
set_option maxHeartbeats 6400000 in
theorem ref14Scale_any (l : List Flw) (p : Option Addr) (b off c N x : Nat) (w : World) (hl : JSrc aB w p b off l) (hN : l.length = N) (hc : N * 24 ≤ 140737488355328) (hx : x < 18446744073709551616) (hf : FitJ l) :
    Calls Tryz.prog 12 #[.int .u64 (x : Int), .slice p N c] w fun e w' => LstO aB 49 (sclL x l) 91 w.heap.size e w' ∧ Below w.heap.size w w' := by
  have HN := hideS hN
  have HQ := hideS hl
  have HP : Hid (0 < N → p = some ⟨b, off, none⟩) := fun h => hl.at_ (by omega)
  have HC := hideS hc
  have HFt := hideS hf
  have hc2 : N ≤ 140737488355328 := by omega
  have HO0 := hideS (fown_nil aB w w.heap.size 49)
  have HNx := hideS fun wx => refNum_any (x : Int) wx (by unfold U64; omega)
  have HR : Hid (sclL x l = if finB x then mapO (sclO x) l N else none) := by show _ = _; rw [← hN]; rfl
  rw [HR.out]
  have HX := hideS hx
  obtain ⟨xi, hxi⟩ : ∃ xi : Int, (x : Int) = xi := ⟨_, rfl⟩
  have HXi := hideS hxi
  rw [hxi] at HNx
  rw [hxi]
  clear hl hN hc HR hf hx hxi
  cases hfx : finB xi
  · rw [hfx] at HNx
    have HPost : Hid (∀ w', LstO aB 49 none 91 w.heap.size (.returned (.tuple #[.slice none 0 0, .int .i64 91])) w') := fun w' => Or.inl ⟨rfl, rfl⟩
    rw [if_neg (by simp)]
    generalize LstO aB 49 none 91 w.heap.size = Lo at *
    clear hfx HO0
    go_enter Tryz.func12, Tryz.ntmps12
    go_wp2_with fail
    refine (HNx.out _).mono ?_
    rintro e w' ⟨rfl, rfl⟩
    go_wp2_with fail
    go_ret2
    exact ⟨HPost.out _, Below.refl _ _⟩
  · rw [hfx] at HNx
    rw [if_pos rfl]
    obtain ⟨Lo, hLo⟩ : ∃ Lo, LstO aB 49 (mapO (sclO x) l N) 91 w.heap.size = Lo := ⟨_, rfl⟩
    rw [hLo]
    have HLo := hideS hLo
    clear hfx hLo
    go_enter Tryz.func12, Tryz.ntmps12
    go_wp2_with fail
    refine (HNx.out _).mono ?_
    rintro e w' ⟨rfl, rfl⟩
    go_wp2_with fail
    go_loopw [6, 7] (fun g i wr => ∃ (k : Nat) (m : List Flw) (q : Option Addr) (cp : Nat), k ≤ N ∧ i = .int .i64 k ∧ g = .slice q k cp ∧ Hid (mapO (sclO x) l k = some m) ∧ Hid (wr.ownsRow w'.heap.size 49 3 (.slice q k cp) k (rowF aB m)) ∧ Hid (Below w'.heap.size w' wr)) (fun _ i _ => N - (intOf i).toNat)
    case atStart => exact ⟨0, [], none, 0, Nat.zero_le _, rfl, rfl, rfl, HO0, Below.refl _ _⟩
    case round =>
      clear HO0
      obtain ⟨k, m, q, cp, hk, rfl, rfl, HM, HO, HB⟩ := hrel
      by_cases hlt : k < N
      · obtain rfl := HP.out (by omega)
        have HQr := hideS (HQ.out.below HB.out)
        obtain ⟨c0, c1, c2⟩ := HQr.out.cell k (by rw [HN.out]; exact hlt)
        have HU := hideS (HFt.out k)
        have HMu := hideS fun wx => refMul_any x (l.getD k flw0).am xi ((l.getD k flw0).am : Int) wx HXi.out.symm rfl (by have := HX.out; rw [← HXi.out]; unfold U64; omega) (by have := HFt.out k; unfold U64; omega)
        have HSt := hideS (fun h => mapO_stop (g := sclO x) (l := l) (k := k) h N hlt)
        have HSu := hideS (fun f h => mapO_succ (f := f) HM.out h)
        have HGd : Hid (sclO x (l.getD k flw0) = match floatBits .mul .f64 x (l.getD k flw0).am with | some r => if finB r then some ⟨(l.getD k flw0).day, r, (l.getD k flw0).cur⟩ else none | none => none) := rfl
        have HLb : Hid (b < wr.heap.size) := Nat.lt_of_lt_of_le (HQ.out.lt (by rw [HN.out]; omega)) HB.out.size
        obtain ⟨f, hf⟩ : ∃ f, l.getD k flw0 = f := ⟨_, rfl⟩
        have HQc : Hid (FCells aB wr b (off + k * 3) f) := by have := HQr.out.cell k (by rw [HN.out]; exact hlt); rw [hf] at this; exact this
        rw [hf] at c0 c1 c2 HU HMu HSt HSu HGd
        clear hf
        obtain ⟨qd, qa, qc⟩ := f
        dsimp only [aB] at *
        have hcl := cn_lt (op := .mul) (Or.inr (Or.inr (Or.inl rfl))) x qa
        have hag := ag_cn (floatBits .mul .f64 x qa)
        generalize cn (floatBits .mul .f64 x qa) = r at *
        have HNr := hideS fun wx => refNum_any (r : Int) wx (by unfold U64; omega)
        cases hfr : finB r
        · rw [hfr] at HNr
          have HE : Hid (∀ wx, Lo (.returned (.tuple #[.slice none 0 0, .int .i64 91])) wx) := fun wx => by
            rw [← HLo.out]
            refine Or.inl ⟨HSt.out ?_, rfl⟩
            rw [HGd.out]
            cases e : floatBits .mul .f64 x qa with
            | none => rfl
            | some q => rw [e] at hag; rw [← ag_some hag]; dsimp only; rw [hfr]; rfl
          clear hfr hag hcl
          go_wp2_with fail
          refine (HMu.out _).mono ?_
          rintro e w2 ⟨rfl, hb2⟩
          have HB2 := hideS (HB.out.trans (hb2.mono HB.out.size))
          clear hb2
          go_wp2_with fail
          refine (turned (HNr.out _)).mono ?_
          rintro e w5 ⟨rfl, rfl⟩
          go_wp2_with fail
          go_ret2
          exact ⟨HE.out _, HB2.out⟩
        · rw [hfr] at HNr
          have HG : Hid (sclO x ⟨qd, qa, qc⟩ = some ⟨qd, r, qc⟩) := by
            show _ = _
            rw [HGd.out]
            cases e : floatBits .mul .f64 x qa with
            | none => rw [e] at hag; rw [fin_nan (ag_none hag).1] at hfr; cases hfr
            | some q => rw [e] at hag; rw [← ag_some hag]; dsimp only; rw [hfr]; rfl
          have HS := hideS (HSu.out _ HG.out)
          clear hfr hag hcl
          go_wp2_with fail
          refine (HMu.out _).mono ?_
          rintro e w2 ⟨rfl, hb2⟩
          have HO2 := hideS (fown_below HO.out hb2)
          have HB2 := hideS (HB.out.trans (hb2.mono HB.out.size))
          have hQ2 := HQc.out.below hb2 HLb.out
          have d0 := hQ2.c0
          have d2 := hQ2.c2
          dsimp only at d0 d2
          have hbn2 : b < w2.heap.size := Nat.lt_of_lt_of_le HLb.out hb2.size
          clear hb2 c0 c1 c2 hQ2 HMu
          go_wp2_with fail
          refine (turned (HNr.out _)).mono ?_
          rintro e w5 ⟨rfl, rfl⟩
          have HBw := hideS ((Below.refl w2.heap.size w2).drew.alloc (Nat.le_refl _) (.cells #[.int .i64 qd, .int .u64 (r : Int), .int .i64 qc] 49))
          have HO4 := hideS (fown_below HO2.out HBw.out)
          have HB4 := hideS (HB2.out.trans (HBw.out.mono HB2.out.size))
          have HFc : Hid (FCells aB (w2.drew.alloc (.cells #[.int .i64 qd, .int .u64 (r : Int), .int .i64 qc] 49)) w2.heap.size 0 ⟨qd, r, qc⟩) := dcells_new w2.drew ⟨qd, r, qc⟩
          have g3 : (0 : Int) ≤ (k : Int) := by omega
          have g4 : (k : Int) < (N : Int) := by omega
          have hbn : b ≠ w2.heap.size := Nat.ne_of_lt hbn2
          go_wp2_with fail
          go_region_law (refine step_append_fd rfl (.tmp 28) (.tmp 41) rfl w'.heap.size (.slice q k cp) k m rfl HO4.out HB4.out.size w2.heap.size ⟨qd, r, qc⟩ rfl HFc.out (by have := HC.out; omega) ?_; intro v5 w5 ho5 hb5; have HB5 := hideS (HB4.out.trans hb5); obtain ⟨q5, g5, k5, hv5, _, _, _, hm5⟩ := fown_src ho5 (mapO_len HS.out); subst hv5; have HO5 := hideS ho5; clear ho5 hb5)
          all_goals
            go_wp2_with fail
            go_roundw
            case rel => exact ⟨k + 1, _, q5, k5, by omega, by go_num, rfl, HS, HO5, HB5⟩
            case measure => simp [intOf]; omega
      · obtain rfl : k = N := by omega
        go_wp2_with fail
        go_ret2
        refine ⟨?_, HB.out⟩
        rw [← HLo.out, HM.out]
        refine Or.inr ⟨m, _, rfl, rfl, ?_⟩
        rw [mapO_len HM.out]; exact HO.out

set_option maxRecDepth 20000 in
set_option maxHeartbeats 6400000 in
theorem ref14Shift_any (l : List Flw) (p : Option Addr) (b off c N : Nat) (mo : Int) (g : Int → Option Int) (w : World) (hl : JSrc aB w p b off l) (hN : l.length = N) (hc : N * 24 ≤ 140737488355328)
    (hg : ∀ n w, Calls Tryz.prog 29 #[.int .i64 n, .int .i64 mo, .bool false] w fun e w' => e = .returned (.tuple #[.int .i64 ((g n).getD 0), .int .i64 (if (g n).isSome then 0 else 51)]) ∧ Below w.heap.size w w') :
    Calls Tryz.prog 14 #[.slice p N c, .int .i64 mo] w fun e w' => LstO aB 49 (mapO (shfF g) l N) 51 w.heap.size e w' ∧ Below w.heap.size w w' := by
  have HN := hideS hN
  have HQ := hideS hl
  have HP : Hid (0 < N → p = some ⟨b, off, none⟩) := fun h => hl.at_ (by omega)
  have HC := hideS hc
  have HG := hideS hg
  have hc2 : N ≤ 140737488355328 := by omega
  have HO0 := hideS (fown_nil aB w w.heap.size 49)
  obtain ⟨Lo, hLo⟩ : ∃ Lo, LstO aB 49 (mapO (shfF g) l N) 51 w.heap.size = Lo := ⟨_, rfl⟩
  rw [hLo]
  have HLo := hideS hLo
  clear hl hN hc hg hLo
  go_enter Tryz.func14, Tryz.ntmps14
  go_wp2_with fail
  go_loopw [6, 7] (fun v i wr => ∃ (k : Nat) (m : List Flw) (q : Option Addr) (cp : Nat), k ≤ N ∧ i = .int .i64 k ∧ v = .slice q k cp ∧ Hid (mapO (shfF g) l k = some m) ∧ Hid (wr.ownsRow w.heap.size 49 3 (.slice q k cp) k (rowF aB m)) ∧ Hid (Below w.heap.size w wr)) (fun _ i _ => N - (intOf i).toNat)
  case atStart => exact ⟨0, [], none, 0, Nat.zero_le _, rfl, rfl, rfl, HO0, Below.refl _ _⟩
  case round =>
    clear HO0
    obtain ⟨k, m, q, cp, hk, rfl, rfl, HM, HO, HB⟩ := hrel
    by_cases hlt : k < N
    · obtain rfl := HP.out (by omega)
      have HQr := hideS (HQ.out.below HB.out)
      have HSt := hideS (fun h => mapO_stop (g := shfF g) (l := l) (k := k) h N hlt)
      have HSu := hideS (fun f h => mapO_succ (f := f) HM.out h)
      have HGd : Hid (shfF g (l.getD k flw0) = (g (l.getD k flw0).day).map fun n => ⟨n, (l.getD k flw0).am, (l.getD k flw0).cur⟩) := rfl
      have HLb : Hid (b < wr.heap.size) := Nat.lt_of_lt_of_le (HQ.out.lt (by rw [HN.out]; omega)) HB.out.size
      obtain ⟨f, hf⟩ : ∃ f, l.getD k flw0 = f := ⟨_, rfl⟩
      have HQc : Hid (FCells aB wr b (off + k * 3) f) := by have := HQr.out.cell k (by rw [HN.out]; exact hlt); rw [hf] at this; exact this
      rw [hf] at HSt HSu HGd
      clear hf
      obtain ⟨qd, qa, qc⟩ := f
      dsimp only [aB] at *
      have c0 := HQc.out.c0
      dsimp only at c0
      have HGq := hideS (HG.out qd)
      cases hgq : g qd with
      | none =>
        rw [hgq] at HGq HGd
        have HE : Hid (∀ wx, Lo (.returned (.tuple #[.slice none 0 0, .int .i64 51])) wx) := fun wx => by
          rw [← HLo.out]; exact Or.inl ⟨HSt.out HGd.out, rfl⟩
        clear hgq
        dsimp only [Option.getD, Option.isSome] at HGq
        go_wp2_with fail
        refine (HGq.out _).mono ?_
        rintro e w2 ⟨rfl, hb2⟩
        have HB2 := hideS (HB.out.trans (hb2.mono HB.out.size))
        clear hb2
        go_wp2_with fail
        go_ret2
        exact ⟨HE.out _, HB2.out⟩
      | some n =>
        rw [hgq] at HGq HGd
        dsimp only [Option.getD, Option.isSome] at HGq
        have HS := hideS (HSu.out _ HGd.out)
        clear hgq
        go_wp2_with fail
        refine (HGq.out _).mono ?_
        rintro e w2 ⟨rfl, hb2⟩
        have HO2 := hideS (fown_below HO.out hb2)
        have HB2 := hideS (HB.out.trans (hb2.mono HB.out.size))
        have hQ2 := HQc.out.below hb2 HLb.out
        have d1 := hQ2.c1
        have d2 := hQ2.c2
        dsimp only at d1 d2
        have hbn2 : b < w2.heap.size := Nat.lt_of_lt_of_le HLb.out hb2.size
        clear hb2 c0 hQ2
        unfold aB at d1
        have HBw := hideS ((Below.refl w2.heap.size w2).drew.alloc (Nat.le_refl _) (.cells #[.int .i64 n, .int .u64 (qa : Int), .int .i64 qc] 49))
        have HO4 := hideS (fown_below HO2.out HBw.out)
        have HB4 := hideS (HB2.out.trans (HBw.out.mono HB2.out.size))
        have HFc : Hid (FCells aB (w2.drew.alloc (.cells #[.int .i64 n, .int .u64 (qa : Int), .int .i64 qc] 49)) w2.heap.size 0 ⟨n, qa, qc⟩) := dcells_new w2.drew ⟨n, qa, qc⟩
        have g3 : (0 : Int) ≤ (k : Int) := by omega
        have g4 : (k : Int) < (N : Int) := by omega
        have hbn : b ≠ w2.heap.size := Nat.ne_of_lt hbn2
        go_wp2_with fail
        go_region_law (refine step_append_fd rfl (.tmp 29) (.tmp 42) rfl w.heap.size (.slice q k cp) k m rfl HO4.out HB4.out.size w2.heap.size ⟨n, qa, qc⟩ rfl HFc.out (by have := HC.out; omega) ?_; intro v5 w5 ho5 hb5; have HB5 := hideS (HB4.out.trans hb5); obtain ⟨q5, g5, k5, hv5, _, _, _, hm5⟩ := fown_src ho5 (mapO_len HS.out); subst hv5; have HO5 := hideS ho5; clear ho5 hb5)
        all_goals
          go_wp2_with fail
          go_roundw
          case rel => exact ⟨k + 1, _, q5, k5, by omega, by go_num, rfl, HS, HO5, HB5⟩
          case measure => simp [intOf]; omega
    · obtain rfl : k = N := by omega
      go_wp2_with fail
      go_ret2
      refine ⟨?_, HB.out⟩
      rw [← HLo.out, HM.out]
      refine Or.inr ⟨m, _, rfl, rfl, ?_⟩
      rw [mapO_len HM.out]; exact HO.out
end Go.Proofs.YteglnchcnacjlaaGreat
