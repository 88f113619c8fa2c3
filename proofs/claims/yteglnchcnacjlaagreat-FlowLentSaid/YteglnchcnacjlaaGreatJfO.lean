/- The contract of the document's Net. -/
import Derived.Test.YteglnchcnacjlaaGreatHbg
import Derived.Test.YteglnchcnacjlaaGreatHav
import Derived.Test.YteglnchcnacjlaaGreatHbd
namespace Go.Proofs.YteglnchcnacjlaaGreat
open Go.RowKit

theorem least_step (l : List Flw) (last : Int) (k : Nat) {qd qc : Int} {qa : Nat} (hf : l.getD k flw0 = ⟨qd, qa, qc⟩) : leastN l last (k + 1) = if last < qc * 1048576 + qd ∧ (leastN l last k < 0 ∨ qc * 1048576 + qd < leastN l last k) then qc * 1048576 + qd else leastN l last k := by
  show (if last < kN (keyF (l.getD k flw0)) ∧ (leastN l last k < 0 ∨ kN (keyF (l.getD k flw0)) < leastN l last k) then kN (keyF (l.getD k flw0)) else leastN l last k) = _
  rw [hf]; rfl

set_option maxRecDepth 20000 in
set_option maxHeartbeats 12800000 in
theorem ref14Net_ok (l : List Flw) (p : Option Addr) (b off c N : Nat) (S : List (Int × Int)) (w : World) (hl : JSrc aB w p b off l) (hN : l.length = N) (hc : N ≤ 500) (hf : FitJ l) (hE : ChkF l 0 0) (hS : KeyR l S) :
    Calls Tryz.prog 15 #[.slice p N c] w fun e w' => LstO aB 49 (netN l S S.length) 91 w.heap.size e w' ∧ Below w.heap.size w w' := by
  have HC := hideS (ref14Check_any l p b off c N 0 0 w hl hN (by omega) hf hE)
  have hk : ∀ i < l.length, KeyB (keyF (l.getD i flw0)) := fun i hi => badF_key (by
    cases hE with
    | fine _ h => exact h i hi
    | bad _ k _ _ _ h0 _ => exact absurd rfl h0)
  have HKb := hideS hk
  have HLe := hideS fun j (hj : j ≤ S.length) => least_at hS hk hj
  have HKB : Hid (∀ j < S.length, KeyB (S.getD j key0)) := fun j hj => by
    obtain ⟨i, hi, e⟩ := hS.at_ hj
    rw [← e]; exact hk i hi
  have HLt : Hid (∀ j < S.length, lastJ S j < kN (S.getD j key0)) := fun j hj => by
    cases j with
    | zero => show -1 < _; have := (kN_bd (HKB.out 0 hj)).1; omega
    | succ m => exact (kN_lt (HKB.out m (by omega)) (HKB.out (m + 1) hj)).2 (hS.get (by omega) hj)
  have HSl : Hid (S.length ≤ 500) := by
    show _ ≤ _
    have e : S.length = (keysN l l.length).length := by
      have hp : S.Perm (keysN l l.length) := (List.perm_ext_iff_of_nodup hS.len (keysN_nodup l _)).2 (fun x => (hS.mem x).trans (keysN_mem l x l.length).symm)
      exact hp.length_eq
    have := keysN_len l l.length
    omega
  have HN := hideS hN
  have HQ := hideS hl
  have HF := hideS hf
  have HP : Hid (0 < N → p = some ⟨b, off, none⟩) := fun h => hl.at_ (by omega)
  have HO0 := hideS fun wx => fown_nil aB wx w.heap.size 49
  obtain ⟨Lo, hLo⟩ : ∃ Lo, LstO aB 49 (netN l S S.length) 91 w.heap.size = Lo := ⟨_, rfl⟩
  rw [hLo]
  have HLo := hideS hLo
  clear hl hN hf hE hS hk hLo
  go_enter Tryz.func15, Tryz.ntmps15
  go_wp2_with fail
  refine HC.out.mono ?_
  rintro e w1 ⟨rfl, hb1⟩
  have HB1 := hideS hb1
  clear hb1 HC
  go_wp2_with fail
  go_loopw [6, 7] (fun v la wr => ∃ (j : Nat) (L : List Flw) (lv : Int), j ≤ S.length ∧ la = .int .i64 lv ∧ Hid (lv = lastJ S j) ∧ Hid (netN l S j = some L) ∧ Hid (wr.ownsRow w.heap.size 49 3 v j (rowF aB L)) ∧ Hid (Below w.heap.size w wr)) (fun _ la _ => (114894679044 - intOf la).toNat)
  case atStart => exact ⟨0, [], -1, Nat.zero_le _, rfl, rfl, rfl, HO0.out _, HB1⟩
  case round =>
    clear HO0 HB1
    obtain ⟨j, L, lv, hj, rfl, HLv, HM, HO, HB⟩ := hrel
    generalize wr = wo at *
    go_wp2_with fail
    go_loopw [8, 9] (fun ky i wq => ∃ (k : Nat) (kv : Int), k ≤ N ∧ i = .int .i64 k ∧ ky = .int .i64 kv ∧ Hid (kv = leastN l lv k) ∧ Hid (∃ n, wq = wo.drewN n)) (fun _ i _ => N - (intOf i).toNat)
    case atStart => exact ⟨0, -1, Nat.zero_le _, rfl, rfl, rfl, 0, rfl⟩
    case round =>
      obtain ⟨k, kv, hk, rfl, rfl, HKv, HW⟩ := hrel
      have HBq : Hid (Below w.heap.size w wr) := by obtain ⟨n, rfl⟩ := HW.out; exact below_drewJ HB.out n
      by_cases hlt : k < N
      · obtain rfl := HP.out (by omega)
        obtain ⟨c0, c1, c2⟩ := (HQ.out.below HBq.out).cell k (by rw [HN.out]; exact hlt)
        obtain ⟨f, hf⟩ : ∃ f, l.getD k flw0 = f := ⟨_, rfl⟩
        have hkb := HKb.out k (by rw [HN.out]; exact hlt)
        rw [hf] at c0 c1 c2 hkb
        obtain ⟨qd, qa, qc⟩ := f
        have HSt := hideS (least_step l lv k hf)
        clear hf
        rw [← HKv.out] at HSt
        obtain ⟨b1, b2, b3, b4⟩ := hkb
        dsimp only [keyF, aB] at *
        go_wp2_with fail
        go_quiet (fail)
        go_wp2_with fail
        all_goals
          refine ⟨⟨k + 1, _, by omega, by go_num, rfl, ?_, ?_⟩, by simp [intOf]; omega⟩
          · show _ = _
            rw [HSt.out]
            first | rw [if_pos (by omega)] | rw [if_neg (by omega)]
          · obtain ⟨n, rfl⟩ := HW.out
            exact ⟨n + _, by simp [World.drewN, Nat.add_assoc]; rfl⟩
      · obtain rfl : k = N := by omega
        have hle := HLe.out j hj
        rw [HN.out, ← HLv.out, ← HKv.out] at hle
        have HOq : Hid (wr.ownsRow w.heap.size 49 3 u6 j (rowF aB L)) := by obtain ⟨n, rfl⟩ := HW.out; exact HO.out
        clear HO HB HW HKv
        by_cases hjs : j < S.length
        · rw [if_pos hjs] at hle
          have hkb := HKB.out j hjs
          have HX := hideS hle
          obtain ⟨x, hx⟩ : ∃ x, S.getD j key0 = x := ⟨_, rfl⟩
          rw [hx] at hle hkb
          have HXx := hideS hx
          have hbd := kN_bd hkb
          rw [← hle] at hbd
          have HPa := hideS (kN_parts hkb)
          rw [← hle] at HPa
          have HKx := hideS hkb
          have HKe := hideS hle
          have hn0 : ¬ kv < 0 := by omega
          clear hle hx
          have H0 := hideS (held_new wr)
          generalize wr = ws at *
          go_wp2_with fail
          go_loopw [12] (fun i wq => ∃ n : Nat, n ≤ k ∧ i = .int .i64 n ∧ Hid (Held ws wq ws.heap.size (sumN l x n) n)) (fun i _ => k - (intOf i).toNat)
          case atStart => exact ⟨0, Nat.zero_le _, rfl, H0⟩
          case round =>
            clear H0
            obtain ⟨n, hn, rfl, HH⟩ := hrel
            obtain ⟨⟨neg, va, M, ee, hb, hd, hfr, hdv⟩, hbl, hlo, hlt0⟩ := HH.out
            by_cases hlt : n < k
            · obtain rfl := HP.out (by omega)
              have HBr := hideS (HBq.out.trans (hbl.mono HBq.out.size))
              have hFc := (HQ.out.below HBr.out).cell n (by rw [HN.out]; exact hlt)
              have HLb : Hid (b < wr.heap.size) := Nat.lt_of_lt_of_le (HQ.out.lt (by rw [HN.out]; omega)) HBr.out.size
              obtain ⟨f, hf⟩ : ∃ f, l.getD n flw0 = f := ⟨_, rfl⟩
              have hkf := HKb.out n (by rw [HN.out]; exact hlt)
              have HU := hideS (HF.out n)
              have HSa : Hid (keyF (l.getD n flw0) = x → sumN l x (n + 1) = (sumN l x n).merge (A.oneS ((l.getD n flw0).am : Nat))) := fun e => if_pos e
              have HSb : Hid (keyF (l.getD n flw0) ≠ x → sumN l x (n + 1) = sumN l x n) := fun e => if_neg e
              rw [hf] at hFc hkf HU HSa HSb
              clear hf
              obtain ⟨qd, qa, qc⟩ := f
              have HFc := hideS hFc
              obtain ⟨c0, c1, c2⟩ := hFc
              obtain ⟨b1, b2, b3, b4⟩ := (show KeyB (qc, qd) from hkf)
              have HIf : Hid (qc * 1048576 + qd = kv ↔ (qc, qd) = x) := by
                constructor
                · intro e; exact kN_inj hkf HKx.out (by rw [← HKe.out]; exact e)
                · intro e; rw [HKe.out, ← e]; rfl
              dsimp only [aB, keyF] at *
              by_cases he : qc * 1048576 + qd = kv
              · have HSn := hideS (HSa.out (HIf.out.1 he))
                have he' : (qc * 1048576 + qd == kv) = true := by rw [he]; simp
                clear HIf
                go_wp2_with fail
                go_quiet (fail)
                obtain ⟨wt, hwt⟩ : ∃ wt, wr.drewN nq = wt := ⟨_, rfl⟩
                have hbt : wt.heap[ws.heap.size]? = some (.cells #[.int .i64 ((sumN l x n).s : Int), .bool neg, va, .int .i64 ee] 75 (0, 0)) := by rw [← hwt]; exact hb
                have hdt : DN wt va M := by rw [← hwt]; exact hd.drewN nq
                have hblt : Below ws.heap.size ws wt := by rw [← hwt]; exact below_drewJ hbl nq
                have hltt : ws.heap.size < wt.heap.size := by rw [← hwt]; exact hlt0
                have hc1 : wt.cell? ⟨b, off + n * 3 + 1, none⟩ = some (.int .u64 (qa : Int)) := by rw [← hwt]; exact c1
                have hlb : b < wt.heap.size := by rw [← hwt]; exact HLb.out
                have h4 := held4_of hbt
                obtain ⟨xi, hxi⟩ : ∃ xi : Int, xi = (qa : Int) := ⟨_, rfl⟩
                have HXI := hideS hxi
                rw [← hxi] at hc1 HSn
                have HAd := hideS (dAdd (sumN l x n).s neg va M ee (sumN l x n).N n qa xi wt.drew (hdt.drewN 1) hdv (fewK_of (by omega)) (by rw [hxi]; exact u64_of_nat HU.out) HXI)
                rw [st_eta, ← HSn.out] at HAd
                have HPut := hideS fun w1 r (hend : AddEnd wt.drew va M (sumN l x (n + 1)) (n + 1) r w1) => held_put (wr := wt.drew) hbt hfr hblt.drew hlo hltt hend
                obtain ⟨pa, la, ca, rfl⟩ := hd.shape
                have d0 := h4.c0
                have d1 := h4.c1
                have d2 := h4.c2
                have d3 := h4.c3
                rw [hwt]
                clear hwt hbt hdt hblt hb hd hdv hfr hbl hlo hlt0 hltt h4 HH c0 c1 c2 hxi he he' HBr HFc HLb
                go_wp2_with fail
                go_region_with ((go_at_call 31; refine HAd.out.mono ?_; intro r w1 hend; obtain ⟨neg', p4, l4, c4, e4, rfl, K4, hH⟩ := HPut.out w1 r hend; have HH := hideS hH; have k0 := K4.c0; have k1 := K4.c1; have k2 := K4.c2; have k3 := K4.c3; have l0 := K4.f0; have l1 := K4.f1; have l2 := K4.f2; have l3 := K4.f3; clear hend hH K4))
                all_goals
                  go_wp2_with fail
                  go_roundw
                  case rel => exact ⟨n + 1, by omega, by simp, HH⟩
                  case measure => simp [intOf]; omega
              · have HSn := hideS (HSb.out (fun e => he (HIf.out.2 e)))
                have he' : (qc * 1048576 + qd == kv) = false := by simpa using he
                clear HIf
                have HHd : Hid (∀ m, Held ws (wr.drewN m) ws.heap.size (sumN l x (n + 1)) (n + 1)) := fun m => by
                  rw [HSn.out]
                  exact ⟨⟨neg, va, M, ee, hb, hd.drewN m, hfr, hdv.mono (by omega)⟩, below_drewJ hbl m, hlo, hlt0⟩
                clear hb hd hdv hfr hbl hlo hlt0 HH
                go_wp2_with fail
                go_quiet (fail)
                go_wp2_with fail
                go_roundw
                case rel => exact ⟨n + 1, by omega, by simp, HHd.out _⟩
                case measure => simp [intOf]; omega
            · obtain rfl : n = k := by omega
              have h4 := held4_of hb
              obtain ⟨pa, la, ca, rfl⟩ := hd.shape
              have d0 := h4.c0
              have d1 := h4.c1
              have d2 := h4.c2
              have d3 := h4.c3
              have HV := hideS (dValue _ neg _ M ee _ n wr hd hdv (fewK_of (by omega)))
              rw [st_eta] at HV
              have HVu := hideS (valSt_ltJ (sumN l x n))
              have HNm : Hid (netO l (S.getD j key0) = if finB (A.valSt (sumN l x n)) then some ⟨x.2, A.valSt (sumN l x n), x.1⟩ else none) := by
                show _ = _
                rw [HXx.out, ← HN.out]; rfl
              have HSt := hideS (fun h => netN_stop (l := l) (S := S) (k := j) h S.length hjs)
              have HSu := hideS (fun f h => netN_succ (f := f) HM.out h)
              have HBr := hideS (HBq.out.trans (hbl.mono HBq.out.size))
              have HOr := hideS (fown_below HOq.out hbl)
              clear hd hdv hb hfr hbl hlo hlt0 h4 HH
              generalize A.valSt (sumN l x n) = am at *
              have HNn := hideS fun wx => refNum_any (am : Int) wx (by have := HVu.out; unfold U64; omega)
              obtain ⟨pa1, pa2⟩ := HPa.out
              cases hfa : finB am
              · rw [hfa] at HNn HNm
                have HE : Hid (∀ wx, Lo (.returned (.tuple #[.slice none 0 0, .int .i64 91])) wx) := fun wx => by
                  rw [← HLo.out]; exact Or.inl ⟨HSt.out HNm.out, rfl⟩
                clear hfa
                go_wp2_with fail
                refine HV.out.mono ?_
                rintro e w2 ⟨rfl, hb2⟩
                have HB2 := hideS (HBr.out.trans (hb2.mono HBr.out.size))
                clear hb2
                go_wp2_with fail
                refine (turned (HNn.out _)).mono ?_
                rintro e w3 ⟨rfl, rfl⟩
                go_wp2_with fail
                go_ret2
                exact ⟨HE.out _, HB2.out⟩
              · rw [hfa] at HNn HNm
                have HG := hideS (HSu.out _ HNm.out)
                have HLx : Hid (kv = lastJ S (j + 1)) := by show _ = kN (S.getD j key0); rw [HXx.out]; exact HKe.out
                clear hfa
                go_wp2_with fail
                refine HV.out.mono ?_
                rintro e w2 ⟨rfl, hb2⟩
                have HB2 := hideS (HBr.out.trans (hb2.mono HBr.out.size))
                have HO2 := hideS (fown_below HOr.out hb2)
                clear hb2 HV
                go_wp2_with fail
                refine (turned (HNn.out _)).mono ?_
                rintro e w3 ⟨rfl, rfl⟩
                have HBw := hideS ((Below.refl w2.heap.size w2).alloc (Nat.le_refl _) (.cells #[.int .i64 x.2, .int .u64 (am : Int), .int .i64 x.1] 49))
                have HO4 := hideS (fown_below HO2.out HBw.out)
                have HFc := hideS (dcells_new w2 ⟨x.2, am, x.1⟩)
                have HB4 := hideS (HB2.out.trans (HBw.out.mono HB2.out.size))
                have HL4 := hideS HSl.out
                have hlv : lv < kv := by have := HLt.out j hjs; rw [← HLv.out, HXx.out, ← HKe.out] at this; exact this
                go_wp2_with (at_builtin; refine wpList_append_d1 _ rfl (.tmp 88) (.tmp 95) rfl w.heap.size u6 j L rfl HO4.out HB4.out.size w2.heap.size ⟨x.2, am, x.1⟩ rfl HFc.out (by have := HL4.out; omega) ?_; intro v5 w5 ho5 hb5; have HB5 := hideS (HB4.out.trans hb5); have HO5 := hideS ho5; clear ho5 hb5)
                go_roundw
                case rel => exact ⟨j + 1, _, kv, hjs, rfl, HLx, HG, HO5, HB5⟩
                case measure => simp [intOf]; omega
        · rw [if_neg hjs] at hle
          subst hle
          go_wp2_with fail
          go_ret2
          obtain rfl : j = S.length := by omega
          refine ⟨?_, HBq.out⟩
          rw [← HLo.out, HM.out]
          refine Or.inr ⟨L, _, rfl, rfl, ?_⟩
          rw [netN_len HM.out]
          exact HOq.out
end Go.Proofs.YteglnchcnacjlaaGreat
