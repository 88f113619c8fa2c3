/- The walk of PriceRises. -/
import Derived.Test.YtkcnkhdbojdhgaaGreatHbl
import Derived.Test.YtkcnkhdbojdhgaaGreatFFlw
namespace Go.Proofs.YtkcnkhdbojdhgaaGreat
open Go.RowKit

structure RisK (l : List Flw) (cur : Int) (c d : Cv) (k : Nat) (bv : Bool) : Prop where
  up : ∀ j < k, 0 ≤ rankI ((l.getD j flw0).am : Nat)
  le : bv = true → ∀ j < k, tkB cur c.base (l.getD j flw0) = true → rankI (c.V (l.getD j flw0).day : Nat) ≤ rankI (d.V (l.getD j flw0).day : Nat)
theorem RisK.skip {l : List Flw} {cur : Int} {c d : Cv} {k : Nat} {bv : Bool} (h : RisK l cur c d k bv) (hu : 0 ≤ rankI ((l.getD k flw0).am : Nat)) (ht : tkB cur c.base (l.getD k flw0) = false) : RisK l cur c d (k + 1) bv :=
  ⟨fun j hj => by
    by_cases e : j < k
    · exact h.up j e
    · obtain rfl : j = k := by omega
      exact hu, fun hb j hj t => by
    by_cases e : j < k
    · exact h.le hb j e t
    · obtain rfl : j = k := by omega
      rw [ht] at t; cases t⟩
theorem RisK.take {l : List Flw} {cur : Int} {c d : Cv} {k : Nat} {bv bw : Bool} (h : RisK l cur c d k bv) (hu : 0 ≤ rankI ((l.getD k flw0).am : Nat)) (hw : bw = true → bv = true ∧ rankI (c.V (l.getD k flw0).day : Nat) ≤ rankI (d.V (l.getD k flw0).day : Nat)) : RisK l cur c d (k + 1) bw :=
  ⟨fun j hj => by
    by_cases e : j < k
    · exact h.up j e
    · obtain rfl : j = k := by omega
      exact hu, fun hb j hj t => by
    by_cases e : j < k
    · exact h.le (hw hb).1 j e t
    · obtain rfl : j = k := by omega
      exact (hw hb).2⟩

set_option maxRecDepth 40000 in
set_option maxHeartbeats 6400000 in
theorem priceRises_go (l : List Flw) (cur : Int) (c d : Cv) (pl : Option Addr) (bl ol cl N : Nat) (pd pf : Option Addr) (bd od cd b2 o2 cf : Nat) (pd' pf' : Option Addr) (bd' od' cd' b2' o2' cf' : Nat) (w : World) (hl : JSrc aF w pl bl ol l) (hN : l.length = N) (hf : FitJ l) (hs : TFl w pd pf bd od b2 o2 c.ds c.fs) (hs' : TFl w pd' pf' bd' od' b2' o2' d.ds d.fs) (hm : N ≤ 60 ∧ c.ds.length ≤ 12 ∧ c.fs.length ≤ 12) (hm' : N ≤ 60 ∧ d.ds.length ≤ 12 ∧ d.fs.length ≤ 12) :
    Calls Tryz.prog 7 #[.slice pl N cl, .int .i64 cur, .agg #[.int .i64 c.base, .int .i64 c.kind, .slice pd c.ds.length cd, .slice pf c.fs.length cf], .agg #[.int .i64 d.base, .int .i64 d.kind, .slice pd' d.ds.length cd', .slice pf' d.fs.length cf']] w fun e w' => e = .returned (.bool true) ∧ Below w.heap.size w w' := by
  obtain ⟨X, E, hX⟩ := preR_ex l cur c
  obtain ⟨Y, F, hY⟩ := preR_ex l cur d
  have HS1 := hideS fun wx => xSmall_any c.base c.kind pl pd pf N cl c.ds.length cd c.fs.length cf wx
  have HS2 := hideS fun wx => xSmall_any d.base d.kind pl pd' pf' N cl d.ds.length cd' d.fs.length cf' wx
  rw [decide_eq_true hm] at HS1
  rw [decide_eq_true hm'] at HS2
  have HP1 := hideS fun wx (hb : Below w.heap.size w wx) => xPre_any l cur c pl bl ol cl N pd pf bd od cd b2 o2 cf wx X E hX (hl.below hb) hN (by omega) hf (hs.below hb)
  have HP2 := hideS fun wx (hb : Below w.heap.size w wx) => xPre_any l cur d pl bl ol cl N pd' pf' bd' od' cd' b2' o2' cf' wx Y F hY (hl.below hb) hN (by omega) hf (hs'.below hb)
  have HF1 := hideS fun x wx (hb : Below w.heap.size w wx) => curFactor_any c.base c.kind x (c.E x) (c.V x) pd pf bd od cd b2 o2 cf c.ds c.fs wx (hs.below hb) (facV_is c.base c.kind c.ds c.fs x)
  have HF2 := hideS fun x wx (hb : Below w.heap.size w wx) => curFactor_any d.base d.kind x (d.E x) (d.V x) pd' pf' bd' od' cd' b2' o2' cf' d.ds d.fs wx (hs'.below hb) (facV_is d.base d.kind d.ds d.fs x)
  have HA := hideS awake15
  have HX := hideS hX
  have HY := hideS hY
  have HQ := hideS hl
  have HN := hideS hN
  have HF := hideS hf
  have HV : Hid (c.Fit ∧ d.Fit) := ⟨hs.f, hs'.f⟩
  have hN60 := hm.1
  have HP : Hid (0 < N → pl = some ⟨bl, ol, none⟩) := fun h => hl.at_ (by omega)
  clear hX hY hl hN hf hs hs' hm hm'
  generalize Value.slice pd c.ds.length cd = vd at *
  generalize Value.slice pf c.fs.length cf = vf at *
  generalize Value.slice pd' d.ds.length cd' = ud at *
  generalize Value.slice pf' d.fs.length cf' = uf at *
  have H2 := hideS (twoB_at w c.base c.kind vd vf d.base d.kind ud uf)
  obtain ⟨w2, hw2⟩ : ∃ w2, (w.alloc (.cells #[.int .i64 c.base, .int .i64 c.kind, vd, vf] 26)).alloc (.cells #[.int .i64 d.base, .int .i64 d.kind, ud, uf] 26) = w2 := ⟨_, rfl⟩
  rw [hw2] at H2
  obtain ⟨bc, hbc⟩ : ∃ b, c.base = b := ⟨_, rfl⟩
  obtain ⟨kc, hkc⟩ : ∃ b, c.kind = b := ⟨_, rfl⟩
  obtain ⟨bd2, hbd⟩ : ∃ b, d.base = b := ⟨_, rfl⟩
  obtain ⟨kd, hkd⟩ : ∃ b, d.kind = b := ⟨_, rfl⟩
  rw [hbc, hkc] at HS1 HP1 HF1 H2 hw2 ⊢
  rw [hbd, hkd] at HS2 HP2 HF2 H2 hw2 ⊢
  have HBs := hideS (And.intro hbc hbd)
  clear hbc hkc hbd hkd
  obtain ⟨t0, t1, t2, t3⟩ := H2.out.k1.t
  obtain ⟨s0, s1, s2, s3⟩ := H2.out.k2.t
  go_enter Tryz.func7, Tryz.ntmps7
  go_wp2_with fail
  clear hw2 t0 t1 t2 t3 s0 s1 s2 s3
  refine (HS1.out _).mono ?_
  rintro e w3 ⟨rfl, hb3⟩
  have H3 := hideS (H2.out.step hb3)
  clear hb3 H2 HS1
  obtain ⟨t0, t1, t2, t3⟩ := H3.out.k1.t
  obtain ⟨s0, s1, s2, s3⟩ := H3.out.k2.t
  go_wp2_with fail
  clear t0 t1 t2 t3 s0 s1 s2 s3
  refine (HS2.out _).mono ?_
  rintro e w4 ⟨rfl, hb4⟩
  have H4 := hideS (H3.out.step hb4)
  clear hb4 H3 HS2
  obtain ⟨t0, t1, t2, t3⟩ := H4.out.k1.t
  obtain ⟨s0, s1, s2, s3⟩ := H4.out.k2.t
  go_wp2_with fail
  clear t0 t1 t2 t3 s0 s1 s2 s3
  refine (HP1.out _ H4.out.bl).mono ?_
  rintro e w5 ⟨rfl, hb5⟩
  have H5 := hideS (H4.out.step hb5)
  clear hb5 H4 HP1
  obtain ⟨t0, t1, t2, t3⟩ := H5.out.k1.t
  obtain ⟨s0, s1, s2, s3⟩ := H5.out.k2.t
  go_wp2_with fail
  clear t0 t1 t2 t3 s0 s1 s2 s3
  refine (HP2.out _ H5.out.bl).mono ?_
  rintro e w6 ⟨rfl, hb6⟩
  have H6 := hideS (H5.out.step hb6)
  clear hb6 H5 HP2
  obtain ⟨t0, t1, t2, t3⟩ := H6.out.k1.t
  obtain ⟨s0, s1, s2, s3⟩ := H6.out.k2.t
  by_cases hno : E = 0 ∧ F = 0 ∧ bc = bd2
  · obtain ⟨rfl, rfl, rfl⟩ := hno
    obtain ⟨FP, eX, fX⟩ := preR_fine HX.out
    obtain ⟨FQ, eY, fY⟩ := preR_fine HY.out
    have HFP := hideS FP
    have HFQ := hideS FQ
    have HeX := hideS eX
    have HeY := hideS eY
    have HfX := hideS fX
    have HfY := hideS fY
    clear FP FQ eX eY fX fY HX HY
    have o0 : (bc != bc) = false := by simp
    go_wp2_with fail
    go_loopw [13, 14] (fun b i wr => ∃ (k : Nat) (bv : Bool), k ≤ N ∧ b = .bool bv ∧ i = .int .i64 k ∧ Hid (RisK l cur c d k bv) ∧ Hid (TwoB w bc kc vd vf bc kd ud uf wr)) (fun _ i _ => N - (intOf i).toNat)
    case atStart => exact ⟨0, true, Nat.zero_le _, rfl, rfl, ⟨fun j hj => by omega, fun _ j hj => by omega⟩, H6.out⟩
    case round =>
      clear t0 t1 t2 t3 s0 s1 s2 s3 H6
      obtain ⟨k, bv, hk, rfl, rfl, HR, H7⟩ := hrel
      obtain ⟨t0, t1, t2, t3⟩ := H7.out.k1.t
      obtain ⟨s0, s1, s2, s3⟩ := H7.out.k2.t
      by_cases hlt : k < N
      · obtain rfl := HP.out (by omega)
        obtain ⟨c0, c1, c2⟩ := (HQ.out.below H7.out.bl).cell k (by rw [HN.out]; exact hlt)
        have HM : Hid (l.getD k flw0 ∈ l) := getD_memF (by rw [HN.out]; exact hlt)
        obtain ⟨q, hq⟩ : ∃ q, l.getD k flw0 = q := ⟨_, rfl⟩
        have Hq := hideS hq
        rw [hq] at c0 c1 c2 HM
        clear hq
        have hqn : finB (q.am : Nat) = true := bad_am (HFP.out.bad q HM.out)
        have hql := fitJ_mem HF.out HM.out
        obtain ⟨qd, qa, qc⟩ := q
        dsimp only [aF] at c0 c1 c2 hqn hql
        have oa := lt_rank (a := qa) (b := 0) (u64_of_nat hql) (u64_of_nat (by decide)) (num_nan (numB_fin hqn)) (by decide)
        rw [show rankI ((0 : Nat) : Int) = 0 from by decide] at oa
        clear hqn hql
        by_cases ha : rankI (qa : Nat) < 0
        · rw [decide_eq_true ha] at oa
          clear ha
          go_wp2_with fail
          refine (HA.out _).mono ?_
          rintro e w8 ⟨rfl, hb8⟩
          have HB8 := hideS (H7.out.step hb8).bl
          clear hb8 t0 t1 t2 t3 s0 s1 s2 s3 c0 c1 c2
          go_wp2_with fail
          go_ret
          exact ⟨rfl, HB8.out⟩
        · rw [decide_eq_false ha] at oa
          have HU : Hid (0 ≤ rankI (qa : Nat)) := by show _ ≤ _; omega
          clear ha
          by_cases ht : qc = cur ∧ bc ≤ qd
          · obtain ⟨rfl, hda⟩ := ht
            have o1 : (qc == qc) = true := by simp
            have o2 : decide (bc ≤ qd) = true := decide_eq_true hda
            have HVc := hideS (Cv.num HFP.out.ok HV.out.1 (HFP.out.fac _ HM.out (by simp [tkB, HBs.out.1]; omega)))
            have HVd := hideS (Cv.num HFQ.out.ok HV.out.2 (HFQ.out.fac _ HM.out (by simp [tkB, HBs.out.2]; omega)))
            have HEc := hideS (HFP.out.fac _ HM.out (by simp [tkB, HBs.out.1]; omega))
            have HEd := hideS (HFQ.out.fac _ HM.out (by simp [tkB, HBs.out.2]; omega))
            have HFc := hideS (HF1.out qd)
            have HFd := hideS (HF2.out qd)
            have HTk : Hid (∀ bw : Bool, (bw = true → bv = true ∧ rankI (c.V qd : Nat) ≤ rankI (d.V qd : Nat)) → RisK l qc c d (k + 1) bw) := fun bw h => HR.out.take (by rw [Hq.out]; exact HU.out) (by rw [Hq.out]; exact h)
            dsimp only at HVc HVd HEc HEd
            rw [HEc.out] at HFc
            rw [HEd.out] at HFd
            obtain ⟨A1, hA1⟩ : ∃ x, c.V qd = x := ⟨_, rfl⟩
            obtain ⟨B1, hB1⟩ : ∃ x, d.V qd = x := ⟨_, rfl⟩
            rw [hA1] at HFc HVc HTk
            rw [hB1] at HFd HVd HTk
            have olq := leq_rank HVc.out.1 HVd.out.1 HVc.out.2.2 HVd.out.2.2
            clear hA1 hB1 HEc HEd HVc HVd HR hda
            go_wp2_with fail
            go_quiet (fail)
            go_wp2_with fail
            go_region_with ((go_at_call 35; refine (HFc.out _ (H7.out.drewN _).bl).mono ?_; rintro e w8 ⟨rfl, hb8⟩; have H8 := hideS ((H7.out.drewN _).step hb8); clear hb8))
            all_goals
              clear t0 t1 t2 t3 s0 s1 s2 s3 c0 c1 c2
              obtain ⟨s0, s1, s2, s3⟩ := H8.out.k2.t
              obtain ⟨c0, c1, c2⟩ := (HQ.out.below H8.out.bl).cell k (by rw [HN.out]; exact hlt)
              rw [Hq.out] at c0 c1 c2
              dsimp only [aF] at c0 c1 c2
              go_wp2_with fail
              go_region_with ((go_at_call 35; refine (HFd.out _ (H8.out.drewN _).bl).mono ?_; rintro e w9 ⟨rfl, hb9⟩; have H9 := hideS ((H8.out.drewN _).step hb9); clear hb9))
            all_goals
              clear s0 s1 s2 s3 c0 c1 c2
              cases bv
              · go_wp2_with fail
                go_roundw
                case rel => exact ⟨k + 1, false, by omega, rfl, by simp, HTk.out false (fun h => by cases h), H9⟩
                case measure => simp [intOf]; omega
              · go_wp2_with fail
                go_roundw
                case rel => exact ⟨k + 1, _, by omega, rfl, by simp, HTk.out _ (fun h => ⟨rfl, of_decide_eq_true h⟩), H9⟩
                case measure => simp [intOf]; omega
          · have HSk : Hid (RisK l cur c d (k + 1) bv) := HR.out.skip (by rw [Hq.out]; exact HU.out) (by rw [Hq.out]; unfold tkB; rw [HBs.out.1]; simp; omega)
            clear HR
            by_cases hcu : qc = cur
            · subst hcu
              have o1 : (qc == qc) = true := by simp
              have o2 : decide (bc ≤ qd) = false := decide_eq_false (fun h => ht ⟨rfl, h⟩)
              clear ht
              go_wp2_with fail
              go_quiet (fail)
              have H8 := hideS (H7.out.drewN nq)
              clear t0 t1 t2 t3 s0 s1 s2 s3 c0 c1 c2 H7
              go_wp2_with fail
              go_roundw
              case rel => exact ⟨k + 1, bv, by omega, rfl, by simp, HSk, H8⟩
              case measure => simp [intOf]; omega
            · have o1 : (qc == cur) = false := beq_eq_false_iff_ne.2 hcu
              clear ht hcu
              go_wp2_with fail
              go_quiet (fail)
              have H8 := hideS (H7.out.drewN nq)
              clear t0 t1 t2 t3 s0 s1 s2 s3 c0 c1 c2 H7
              go_wp2_with fail
              go_roundw
              case rel => exact ⟨k + 1, bv, by omega, rfl, by simp, HSk, H8⟩
              case measure => simp [intOf]; omega
      · obtain rfl : k = N := by omega
        have hup : ∀ f ∈ l, 0 ≤ rankI (f.am : Nat) := fun f hf => by
          obtain ⟨i, hi, rfl⟩ := mem_getDF hf
          exact HR.out.up i (by rw [← HN.out]; exact hi)
        have hX0 := valF_up (ws_up HFP.out HF.out HV.out.1 hup)
        have hY0 := valF_up (ws_up HFQ.out HF.out HV.out.2 hup)
        have hXY : bv = true → rankI (valF (wsI cur c l) : Nat) ≤ rankI (valF (wsI cur d l) : Nat) := fun hb => valF_mono (ws_sink HFP.out HFQ.out (HBs.out.1.trans HBs.out.2.symm) HF.out HV.out.1 HV.out.2 hup (fun f hf ht => by
          obtain ⟨i, hi, rfl⟩ := mem_getDF hf
          exact HR.out.le hb i (by rw [← HN.out]; exact hi) ht))
        have lX := valF_lt (wsI cur c l)
        have lY := valF_lt (wsI cur d l)
        rw [← HeX.out] at hX0 hXY lX
        rw [← HeY.out] at hY0 hXY lY
        have oX := geq_rank (a := X) (b := 0) lX (by decide) (num_nan (numB_fin HfX.out)) (by decide)
        have oY := geq_rank (a := Y) (b := 0) lY (by decide) (num_nan (numB_fin HfY.out)) (by decide)
        have oZ := leq_rank lX lY (num_nan (numB_fin HfX.out)) (num_nan (numB_fin HfY.out))
        rw [show rankI ((0 : Nat) : Int) = 0 from by decide] at oX oY
        rw [decide_eq_true hX0] at oX
        rw [decide_eq_true hY0] at oY
        clear hup hX0 hY0 lX lY
        cases bv
        · clear hXY oZ
          go_wp2_with fail
          refine (HA.out _).mono ?_
          rintro e w8 ⟨rfl, hb8⟩
          have HB8 := hideS (H7.out.step hb8).bl
          clear hb8 t0 t1 t2 t3 s0 s1 s2 s3
          go_wp2_with fail
          go_ret
          exact ⟨rfl, HB8.out⟩
        · rw [decide_eq_true (hXY rfl)] at oZ
          clear hXY
          go_wp2_with fail
          refine (HA.out _).mono ?_
          rintro e w8 ⟨rfl, hb8⟩
          have HB8 := hideS (H7.out.step hb8).bl
          clear hb8 t0 t1 t2 t3 s0 s1 s2 s3
          go_wp2_with fail
          go_ret
          exact ⟨rfl, HB8.out⟩
  · have HNo := hideS hno
    have hd : (E != 0) = true ∨ (E != 0) = false ∧ (F != 0) = true ∨ (E != 0) = false ∧ (F != 0) = false ∧ (bc != bd2) = true := by
      by_cases a : E = 0
      · by_cases b : F = 0
        · exact Or.inr (Or.inr ⟨by simp [a], by simp [b], bne_iff_ne.2 fun e => hno ⟨a, b, e⟩⟩)
        · exact Or.inr (Or.inl ⟨by simp [a], bne_iff_ne.2 b⟩)
      · exact Or.inl (bne_iff_ne.2 a)
    clear hno
    rcases hd with d1 | ⟨d1, d2⟩ | ⟨d1, d2, d3⟩
    all_goals
      go_wp2_with fail
      refine (HA.out _).mono ?_
      rintro e w8 ⟨rfl, hb8⟩
      have HB8 := hideS (H6.out.step hb8).bl
      clear hb8 t0 t1 t2 t3 s0 s1 s2 s3
      go_wp2_with fail
      go_ret
      exact ⟨rfl, HB8.out⟩
set_option maxRecDepth 40000 in
set_option maxHeartbeats 3200000 in
theorem priceRises_many (cur : Int) (a p b q : Int) (pl : Option Addr) (cl N : Nat) (pd pf : Option Addr) (D cd F cf : Nat) (pd' pf' : Option Addr) (D' cd' F' cf' : Nat) (w : World) (hm : ¬ ((N ≤ 60 ∧ D ≤ 12 ∧ F ≤ 12) ∧ (N ≤ 60 ∧ D' ≤ 12 ∧ F' ≤ 12))) :
    Calls Tryz.prog 7 #[.slice pl N cl, .int .i64 cur, .agg #[.int .i64 a, .int .i64 p, .slice pd D cd, .slice pf F cf], .agg #[.int .i64 b, .int .i64 q, .slice pd' D' cd', .slice pf' F' cf']] w fun e w' => e = .returned (.bool true) ∧ Below w.heap.size w w' := by
  have HS1 := hideS fun wx => xSmall_any a p pl pd pf N cl D cd F cf wx
  have HS2 := hideS fun wx => xSmall_any b q pl pd' pf' N cl D' cd' F' cf' wx
  have HA := hideS awake15
  generalize Value.slice pd D cd = vd at *
  generalize Value.slice pf F cf = vf at *
  generalize Value.slice pd' D' cd' = ud at *
  generalize Value.slice pf' F' cf' = uf at *
  have H2 := hideS (twoB_at w a p vd vf b q ud uf)
  obtain ⟨w2, hw2⟩ : ∃ w2, (w.alloc (.cells #[.int .i64 a, .int .i64 p, vd, vf] 26)).alloc (.cells #[.int .i64 b, .int .i64 q, ud, uf] 26) = w2 := ⟨_, rfl⟩
  rw [hw2] at H2
  obtain ⟨t0, t1, t2, t3⟩ := H2.out.k1.t
  by_cases h1 : N ≤ 60 ∧ D ≤ 12 ∧ F ≤ 12
  · rw [decide_eq_true h1] at HS1
    rw [decide_eq_false (fun h => hm ⟨h1, h⟩)] at HS2
    clear hm h1
    go_enter Tryz.func7, Tryz.ntmps7
    go_wp2_with fail
    clear hw2 t0 t1 t2 t3
    refine (HS1.out _).mono ?_
    rintro e w3 ⟨rfl, hb3⟩
    have H3 := hideS (H2.out.step hb3)
    clear hb3 H2 HS1
    obtain ⟨s0, s1, s2, s3⟩ := H3.out.k2.t
    go_wp2_with fail
    clear s0 s1 s2 s3
    refine (HS2.out _).mono ?_
    rintro e w4 ⟨rfl, hb4⟩
    have H4 := hideS (H3.out.step hb4)
    clear hb4 H3 HS2
    go_wp2_with fail
    refine (HA.out _).mono ?_
    rintro e w8 ⟨rfl, hb8⟩
    have HB8 := hideS (H4.out.step hb8).bl
    clear hb8
    go_wp2_with fail
    go_ret
    exact ⟨rfl, HB8.out⟩
  · rw [decide_eq_false h1] at HS1
    clear hm h1 HS2
    go_enter Tryz.func7, Tryz.ntmps7
    go_wp2_with fail
    clear hw2 t0 t1 t2 t3
    refine (HS1.out _).mono ?_
    rintro e w3 ⟨rfl, hb3⟩
    have H3 := hideS (H2.out.step hb3)
    clear hb3 H2 HS1
    go_wp2_with fail
    refine (HA.out _).mono ?_
    rintro e w8 ⟨rfl, hb8⟩
    have HB8 := hideS (H3.out.step hb8).bl
    clear hb8
    go_wp2_with fail
    go_ret
    exact ⟨rfl, HB8.out⟩
theorem priceRises_walk (pl : Option Addr) (bl ol cl : Nat) (l : List Flw) (cur : Int) (pd pf : Option Addr) (bd od cd b2 o2 cf : Nat) (c : Cv) (pd' pf' : Option Addr) (bd' od' cd' b2' o2' cf' : Nat) (d : Cv) (w : World) (hl : JSrc aF w pl bl ol l) (hf : FitJ l) (_ : l.length ≤ 9223372036854775807) (_ : JI64 cur) (hs : TFl w pd pf bd od b2 o2 c.ds c.fs) (hs' : TFl w pd' pf' bd' od' b2' o2' d.ds d.fs) :
    Calls Tryz.prog 7 #[.slice pl l.length cl, .int .i64 cur, .agg #[.int .i64 c.base, .int .i64 c.kind, .slice pd c.ds.length cd, .slice pf c.fs.length cf], .agg #[.int .i64 d.base, .int .i64 d.kind, .slice pd' d.ds.length cd', .slice pf' d.fs.length cf']] w fun e w' => e = .returned (.bool true) ∧ Below w.heap.size w w' := by
  by_cases hm : (l.length ≤ 60 ∧ c.ds.length ≤ 12 ∧ c.fs.length ≤ 12) ∧ (l.length ≤ 60 ∧ d.ds.length ≤ 12 ∧ d.fs.length ≤ 12)
  · exact priceRises_go l cur c d pl bl ol cl _ pd pf bd od cd b2 o2 cf pd' pf' bd' od' cd' b2' o2' cf' w hl rfl hf hs hs' hm.1 hm.2
  · exact priceRises_many cur c.base c.kind d.base d.kind pl cl _ pd pf _ cd _ cf pd' pf' _ cd' _ cf' w hm
end Go.Proofs.YtkcnkhdbojdhgaaGreat
