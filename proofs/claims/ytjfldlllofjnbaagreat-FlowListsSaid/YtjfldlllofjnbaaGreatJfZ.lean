/- The contracts of the document's Scale and Shift. -/
import Derived.Test.YtjfldlllofjnbaaGreatJfX
namespace Go.Proofs.YtjfldlllofjnbaaGreat
open Go.RowKit

set_option maxRecDepth 20000 in
set_option maxHeartbeats 6400000 in
theorem ref14Scale_any (l : List Flw) (p : Option Addr) (b off c N x : Nat) (w : World) (hl : JSrc aB w p b off l) (hN : l.length = N) (hc : N * 24 ≤ 140737488355328) (hx : x < 18446744073709551616) (hf : FitJ l) :
    Calls Tryz.prog 21 #[.int .u64 (x : Int), .slice p N c] w fun e w' => LstO aB 85 (sclL x l) 91 w.heap.size e w' ∧ Below w.heap.size w w' := by
  have HN := hideS hN
  have HQ := hideS hl
  have HP : Hid (0 < N → p = some ⟨b, off, none⟩) := fun h => hl.at_ (by omega)
  have HC := hideS hc
  have HFt := hideS hf
  have hc2 : N ≤ 140737488355328 := by omega
  have HO0 := hideS (fown_nil aB w w.heap.size 85)
  have HNx := hideS fun wx => refNum_any (x : Int) wx (by unfold U64; omega)
  have HR : Hid (sclL x l = if finB x then mapO (sclO x) l N else none) := by show _ = _; rw [← hN]; rfl
  rw [HR.out]
  have HX := hideS hx
  obtain ⟨xi, hxi⟩ : ∃ xi : Int, (x : Int) = xi := ⟨_, rfl⟩
  have HXi := hideS hxi
  rw [hxi] at HNx
  rw [hxi]
  clear hl hN hc HR hf hx hxi
  cases hfx : finB xi
  · rw [hfx] at HNx
    have HPost : Hid (∀ w', LstO aB 85 none 91 w.heap.size (.returned (.tuple #[.slice none 0 0, .int .i64 91])) w') := fun w' => Or.inl ⟨rfl, rfl⟩
    rw [if_neg (by simp)]
    generalize LstO aB 85 none 91 w.heap.size = Lo at *
    clear hfx HO0
    go_enter Tryz.func21, Tryz.ntmps21
    go_wp2_with fail
    refine (HNx.out _).mono ?_
    rintro e w' ⟨rfl, rfl⟩
    go_wp2_with fail
    go_ret2
    exact ⟨HPost.out _, Below.refl _ _⟩
  · rw [hfx] at HNx
    rw [if_pos rfl]
    obtain ⟨Lo, hLo⟩ : ∃ Lo, LstO aB 85 (mapO (sclO x) l N) 91 w.heap.size = Lo := ⟨_, rfl⟩
    rw [hLo]
    have HLo := hideS hLo
    clear hfx hLo
    go_enter Tryz.func21, Tryz.ntmps21
    go_wp2_with fail
    refine (HNx.out _).mono ?_
    rintro e w' ⟨rfl, rfl⟩
    go_wp2_with fail
    go_loopw [6, 7] (fun g i wr => ∃ (k : Nat) (m : List Flw) (q : Option Addr) (cp : Nat), k ≤ N ∧ i = .int .i64 k ∧ g = .slice q k cp ∧ Hid (mapO (sclO x) l k = some m) ∧ Hid (wr.ownsRow w'.heap.size 85 3 (.slice q k cp) k (rowF aB m)) ∧ Hid (Below w'.heap.size w' wr)) (fun _ i _ => N - (intOf i).toNat)
    case atStart => exact ⟨0, [], none, 0, Nat.zero_le _, rfl, rfl, rfl, HO0, Below.refl _ _⟩
    case round =>
      clear HO0
      obtain ⟨k, m, q, cp, hk, rfl, rfl, HM, HO, HB⟩ := hrel
      by_cases hlt : k < N
      · obtain rfl := HP.out (by omega)
        have HQr := hideS (HQ.out.below HB.out)
        obtain ⟨c0, c1, c2⟩ := HQr.out.cell k (by rw [HN.out]; exact hlt)
        have HU := hideS (HFt.out k)
        have HMu := hideS fun wx => refMul_any x (l.getD k flw0).am xi ((l.getD k flw0).am : Int) wx HXi.out.symm rfl (by have := HX.out; rw [← HXi.out]; unfold U64; omega) (by have := HFt.out k; unfold U64; omega)
        have HSt := hideS (fun h => mapO_stop (g := sclO x) (l := l) (k := k) h N hlt)
        have HSu := hideS (fun f h => mapO_succ (f := f) HM.out h)
        have HGd : Hid (sclO x (l.getD k flw0) = match floatBits .mul .f64 x (l.getD k flw0).am with | some r => if finB r then some ⟨(l.getD k flw0).day, r, (l.getD k flw0).cur⟩ else none | none => none) := rfl
        have HLb : Hid (b < wr.heap.size) := Nat.lt_of_lt_of_le (HQ.out.lt (by rw [HN.out]; omega)) HB.out.size
        obtain ⟨f, hf⟩ : ∃ f, l.getD k flw0 = f := ⟨_, rfl⟩
        have HQc : Hid (FCells aB wr b (off + k * 3) f) := by have := HQr.out.cell k (by rw [HN.out]; exact hlt); rw [hf] at this; exact this
        rw [hf] at c0 c1 c2 HU HMu HSt HSu HGd
        clear hf
        obtain ⟨qd, qa, qc⟩ := f
        dsimp only [aB] at *
        have hcl := cn_lt (op := .mul) (Or.inr (Or.inr (Or.inl rfl))) x qa
        have hag := ag_cn (floatBits .mul .f64 x qa)
        generalize cn (floatBits .mul .f64 x qa) = r at *
        have HNr := hideS fun wx => refNum_any (r : Int) wx (by unfold U64; omega)
        cases hfr : finB r
        · rw [hfr] at HNr
          have HE : Hid (∀ wx, Lo (.returned (.tuple #[.slice none 0 0, .int .i64 91])) wx) := fun wx => by
            rw [← HLo.out]
            refine Or.inl ⟨HSt.out ?_, rfl⟩
            rw [HGd.out]
            cases e : floatBits .mul .f64 x qa with
            | none => rfl
            | some q => rw [e] at hag; rw [← ag_some hag]; dsimp only; rw [hfr]; rfl
          clear hfr hag hcl
          go_wp2_with fail
          refine (HMu.out _).mono ?_
          rintro e w2 ⟨rfl, hb2⟩
          have HB2 := hideS (HB.out.trans (hb2.mono HB.out.size))
          clear hb2
          go_wp2_with fail
          refine (turned (HNr.out _)).mono ?_
          rintro e w5 ⟨rfl, rfl⟩
          go_wp2_with fail
          go_ret2
          exact ⟨HE.out _, HB2.out⟩
        · rw [hfr] at HNr
          have HG : Hid (sclO x ⟨qd, qa, qc⟩ = some ⟨qd, r, qc⟩) := by
            show _ = _
            rw [HGd.out]
            cases e : floatBits .mul .f64 x qa with
            | none => rw [e] at hag; rw [fin_nan (ag_none hag).1] at hfr; cases hfr
            | some q => rw [e] at hag; rw [← ag_some hag]; dsimp only; rw [hfr]; rfl
          have HS := hideS (HSu.out _ HG.out)
          clear hfr hag hcl
          go_wp2_with fail
          refine (HMu.out _).mono ?_
          rintro e w2 ⟨rfl, hb2⟩
          have HO2 := hideS (fown_below HO.out hb2)
          have HB2 := hideS (HB.out.trans (hb2.mono HB.out.size))
          have hQ2 := HQc.out.below hb2 HLb.out
          have d0 := hQ2.c0
          have d2 := hQ2.c2
          dsimp only at d0 d2
          have hbn2 : b < w2.heap.size := Nat.lt_of_lt_of_le HLb.out hb2.size
          clear hb2 c0 c1 c2 hQ2 HMu
          go_wp2_with fail
          refine (turned (HNr.out _)).mono ?_
          rintro e w5 ⟨rfl, rfl⟩
          have HBw := hideS ((Below.refl w2.heap.size w2).drew.alloc (Nat.le_refl _) (.cells #[.int .i64 qd, .int .u64 (r : Int), .int .i64 qc] 85))
          have HO4 := hideS (fown_below HO2.out HBw.out)
          have HB4 := hideS (HB2.out.trans (HBw.out.mono HB2.out.size))
          have HFc : Hid (FCells aB (w2.drew.alloc (.cells #[.int .i64 qd, .int .u64 (r : Int), .int .i64 qc] 85)) w2.heap.size 0 ⟨qd, r, qc⟩) := dcells_new w2.drew ⟨qd, r, qc⟩
          have g3 : (0 : Int) ≤ (k : Int) := by omega
          have g4 : (k : Int) < (N : Int) := by omega
          have hbn : b ≠ w2.heap.size := Nat.ne_of_lt hbn2
          go_wp2_with fail
          go_region_law (refine step_append_fd rfl (.tmp 28) (.tmp 41) rfl w'.heap.size (.slice q k cp) k m rfl HO4.out HB4.out.size w2.heap.size ⟨qd, r, qc⟩ rfl HFc.out (by have := HC.out; omega) ?_; intro v5 w5 ho5 hb5; have HB5 := hideS (HB4.out.trans hb5); obtain ⟨q5, g5, k5, hv5, _, _, _, hm5⟩ := fown_src ho5 (mapO_len HS.out); subst hv5; have HO5 := hideS ho5; clear ho5 hb5)
          all_goals
            go_wp2_with fail
            go_roundw
            case rel => exact ⟨k + 1, _, q5, k5, by omega, by go_num, rfl, HS, HO5, HB5⟩
            case measure => simp [intOf]; omega
      · obtain rfl : k = N := by omega
        go_wp2_with fail
        go_ret2
        refine ⟨?_, HB.out⟩
        rw [← HLo.out, HM.out]
        refine Or.inr ⟨m, _, rfl, rfl, ?_⟩
        rw [mapO_len HM.out]; exact HO.out

set_option maxRecDepth 20000 in
set_option maxHeartbeats 6400000 in
theorem ref14Shift_any (l : List Flw) (p : Option Addr) (b off c N : Nat) (mo : Int) (g : Int → Option Int) (w : World) (hl : JSrc aB w p b off l) (hN : l.length = N) (hc : N * 24 ≤ 140737488355328)
    (hg : ∀ n w, Calls Tryz.prog 48 #[.int .i64 n, .int .i64 mo, .bool false] w fun e w' => e = .returned (.tuple #[.int .i64 ((g n).getD 0), .int .i64 (if (g n).isSome then 0 else 51)]) ∧ Below w.heap.size w w') :
    Calls Tryz.prog 24 #[.slice p N c, .int .i64 mo] w fun e w' => LstO aB 85 (mapO (shfF g) l N) 51 w.heap.size e w' ∧ Below w.heap.size w w' := by
  have HN := hideS hN
  have HQ := hideS hl
  have HP : Hid (0 < N → p = some ⟨b, off, none⟩) := fun h => hl.at_ (by omega)
  have HC := hideS hc
  have HG := hideS hg
  have hc2 : N ≤ 140737488355328 := by omega
  have HO0 := hideS (fown_nil aB w w.heap.size 85)
  obtain ⟨Lo, hLo⟩ : ∃ Lo, LstO aB 85 (mapO (shfF g) l N) 51 w.heap.size = Lo := ⟨_, rfl⟩
  rw [hLo]
  have HLo := hideS hLo
  clear hl hN hc hg hLo
  go_enter Tryz.func24, Tryz.ntmps24
  go_wp2_with fail
  go_loopw [6, 7] (fun v i wr => ∃ (k : Nat) (m : List Flw) (q : Option Addr) (cp : Nat), k ≤ N ∧ i = .int .i64 k ∧ v = .slice q k cp ∧ Hid (mapO (shfF g) l k = some m) ∧ Hid (wr.ownsRow w.heap.size 85 3 (.slice q k cp) k (rowF aB m)) ∧ Hid (Below w.heap.size w wr)) (fun _ i _ => N - (intOf i).toNat)
  case atStart => exact ⟨0, [], none, 0, Nat.zero_le _, rfl, rfl, rfl, HO0, Below.refl _ _⟩
  case round =>
    clear HO0
    obtain ⟨k, m, q, cp, hk, rfl, rfl, HM, HO, HB⟩ := hrel
    by_cases hlt : k < N
    · obtain rfl := HP.out (by omega)
      have HQr := hideS (HQ.out.below HB.out)
      have HSt := hideS (fun h => mapO_stop (g := shfF g) (l := l) (k := k) h N hlt)
      have HSu := hideS (fun f h => mapO_succ (f := f) HM.out h)
      have HGd : Hid (shfF g (l.getD k flw0) = (g (l.getD k flw0).day).map fun n => ⟨n, (l.getD k flw0).am, (l.getD k flw0).cur⟩) := rfl
      have HLb : Hid (b < wr.heap.size) := Nat.lt_of_lt_of_le (HQ.out.lt (by rw [HN.out]; omega)) HB.out.size
      obtain ⟨f, hf⟩ : ∃ f, l.getD k flw0 = f := ⟨_, rfl⟩
      have HQc : Hid (FCells aB wr b (off + k * 3) f) := by have := HQr.out.cell k (by rw [HN.out]; exact hlt); rw [hf] at this; exact this
      rw [hf] at HSt HSu HGd
      clear hf
      obtain ⟨qd, qa, qc⟩ := f
      dsimp only [aB] at *
      have c0 := HQc.out.c0
      dsimp only at c0
      have HGq := hideS (HG.out qd)
      cases hgq : g qd with
      | none =>
        rw [hgq] at HGq HGd
        have HE : Hid (∀ wx, Lo (.returned (.tuple #[.slice none 0 0, .int .i64 51])) wx) := fun wx => by
          rw [← HLo.out]; exact Or.inl ⟨HSt.out HGd.out, rfl⟩
        clear hgq
        dsimp only [Option.getD, Option.isSome] at HGq
        go_wp2_with fail
        refine (HGq.out _).mono ?_
        rintro e w2 ⟨rfl, hb2⟩
        have HB2 := hideS (HB.out.trans (hb2.mono HB.out.size))
        clear hb2
        go_wp2_with fail
        go_ret2
        exact ⟨HE.out _, HB2.out⟩
      | some n =>
        rw [hgq] at HGq HGd
        dsimp only [Option.getD, Option.isSome] at HGq
        have HS := hideS (HSu.out _ HGd.out)
        clear hgq
        go_wp2_with fail
        refine (HGq.out _).mono ?_
        rintro e w2 ⟨rfl, hb2⟩
        have HO2 := hideS (fown_below HO.out hb2)
        have HB2 := hideS (HB.out.trans (hb2.mono HB.out.size))
        have hQ2 := HQc.out.below hb2 HLb.out
        have d1 := hQ2.c1
        have d2 := hQ2.c2
        dsimp only at d1 d2
        have hbn2 : b < w2.heap.size := Nat.lt_of_lt_of_le HLb.out hb2.size
        clear hb2 c0 hQ2
        unfold aB at d1
        have HBw := hideS ((Below.refl w2.heap.size w2).drew.alloc (Nat.le_refl _) (.cells #[.int .i64 n, .int .u64 (qa : Int), .int .i64 qc] 85))
        have HO4 := hideS (fown_below HO2.out HBw.out)
        have HB4 := hideS (HB2.out.trans (HBw.out.mono HB2.out.size))
        have HFc : Hid (FCells aB (w2.drew.alloc (.cells #[.int .i64 n, .int .u64 (qa : Int), .int .i64 qc] 85)) w2.heap.size 0 ⟨n, qa, qc⟩) := dcells_new w2.drew ⟨n, qa, qc⟩
        have g3 : (0 : Int) ≤ (k : Int) := by omega
        have g4 : (k : Int) < (N : Int) := by omega
        have hbn : b ≠ w2.heap.size := Nat.ne_of_lt hbn2
        go_wp2_with fail
        go_region_law (refine step_append_fd rfl (.tmp 29) (.tmp 42) rfl w.heap.size (.slice q k cp) k m rfl HO4.out HB4.out.size w2.heap.size ⟨n, qa, qc⟩ rfl HFc.out (by have := HC.out; omega) ?_; intro v5 w5 ho5 hb5; have HB5 := hideS (HB4.out.trans hb5); obtain ⟨q5, g5, k5, hv5, _, _, _, hm5⟩ := fown_src ho5 (mapO_len HS.out); subst hv5; have HO5 := hideS ho5; clear ho5 hb5)
        all_goals
          go_wp2_with fail
          go_roundw
          case rel => exact ⟨k + 1, _, q5, k5, by omega, by go_num, rfl, HS, HO5, HB5⟩
          case measure => simp [intOf]; omega
    · obtain rfl : k = N := by omega
      go_wp2_with fail
      go_ret2
      refine ⟨?_, HB.out⟩
      rw [← HLo.out, HM.out]
      refine Or.inr ⟨m, _, rfl, rfl, ?_⟩
      rw [mapO_len HM.out]; exact HO.out
end Go.Proofs.YtjfldlllofjnbaaGreat
