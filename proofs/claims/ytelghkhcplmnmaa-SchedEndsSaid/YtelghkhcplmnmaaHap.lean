/- The contract of the document's Dates, from the start on. A schedule's points rise: no word of the program. -/
import Derived.Test.YtelghkhcplmnmaaHan
import Derived.Test.YtelghkhcplmnmaaHam
import Derived.Test.YtelghkhcplmnmaaHad
namespace Go.Proofs.Ytelghkhcplmnmaa
open Go.RowKit

set_option maxRecDepth 10000 in
set_option maxHeartbeats 16000000 in
theorem ref8Dates_fore (s : Spc) (W : Int) (v : Value) (K : Nat) (w : World) (h : SpcOk s) (hK : DatR s K) (H : Hid (DatH s W v w)) (hb : ¬ s.stub ≤ 2) :
    Calls Try.prog 11 #[.agg #[.int .i64 s.st, .int .i64 s.en, .int .i64 s.n, .int .i64 s.unit, .int .i64 s.stub, .int .i64 s.roll, .int .i64 s.conv, .int .i64 s.lag, .int .i64 W, v]] w fun e w' => DatO s K w e w' ∧ Below w.heap.size w w' := by
  have HB0 := hideS (SBox.zero w s W v)
  have HKr := hideS hK
  have HT := hideS (tail_cases hK h.t1 h.t2)
  have t1 := h.t2
  have hpk : ∀ k : Nat, pkO s k = ptO s s.st (k : Int) := fun k => by
    unfold pkO ancI sgnI
    rw [if_neg hb, if_neg hb, Int.mul_one]
  have HPk := hideS hpk
  have HIn : Hid (∀ j < K, ∃ x, pkO s (j + 1) = some x ∧ x < s.en) := fun j hj => by
    obtain ⟨x, e, hx⟩ := inn_some hK hj
    rw [if_neg hb] at hx
    exact ⟨x, e, hx⟩
  have hoth : othI s = s.en := by unfold othI; rw [if_neg hb]
  have HOth := hideS hoth
  have HCut : Hid (∀ C i, C ≤ K → i < C → (innL s K).getD i 0 = cutI s C i) := fun C i hC hi => by
    have := inn_cut (s := s) hC hi
    rw [if_neg hb] at this
    exact this
  have HS2 := hideS hb
  clear hK h hpk hoth
  obtain ⟨s', hs'⟩ : ∃ s', s' = s := ⟨s, rfl⟩
  rw [← hs'] at HKr HT HPk HIn HOth HCut HS2
  have HSp := hideS hs'
  have HPost : Hid (∀ e w', DatO s' K w e w' → DatO s K w e w') := fun e w' a => by rw [← hs']; exact a
  have hstub : s'.stub = s.stub ∧ s'.st = s.st := by rw [hs']; exact ⟨rfl, rfl⟩
  have HStub := hideS hstub
  have HEn : Hid (s'.en = s.en) := by show _ = _; rw [hs']
  clear hs' hstub
  have HPt : Hid (∀ (k : Nat) (o : Option Int) wx, pkO s' k = o → Calls Try.prog 26 #[.agg #[.int .i64 s.st, .int .i64 s.en, .int .i64 s.n, .int .i64 s.unit, .int .i64 s.stub, .int .i64 s.roll, .int .i64 s.conv, .int .i64 s.lag, .int .i64 W, v], .int .i64 s.st, .int .i64 (k : Int)] wx fun e w' => e = .returned (.tuple #[.int .i64 (o.getD 0), .bool o.isSome]) ∧ Below wx.heap.size wx w') := fun k o wx ho => by
    have := H.out.pt s.st (k : Int) wx
    rw [HPk.out] at ho
    rw [HSp.out] at ho
    rw [ho] at this
    exact this
  have HCh := hideS H.out.chk
  refine Calls.mono (R := fun e w' => DatO s' K w e w' ∧ Below w.heap.size w w') ?_ (fun e w' ⟨a, b⟩ => ⟨HPost.out e w' a, b⟩)
  clear HPost HSp HPk H
  obtain ⟨st, en, n, unit, stub, roll, conv, lag⟩ := s
  dsimp only at *
  go_enter Try.func11, Try.ntmps11
  go_wp2_with fail
  refine (HCh.out _ HB0.out.below).mono ?_
  rintro e w1 ⟨rfl, hb1⟩
  have HB1 := hideS (HB0.out.step hb1)
  clear hb1 HB0
  obtain ⟨c0, c1, c2, c3, c4, c5, c6, c7, c8, c9⟩ := HB1.out.cells
  go_wp2_with fail
  clear c0 c1 c2 c3 c4 c5 c6 c7 c8 c9
  have hK0 : ∀ q : Nat, q ≤ 1200 → True := fun _ _ => trivial
  clear hK0
  go_loopw [9, 11] (fun vi i wr => ∃ (k : Nat) (I : Int) (q : Option Addr) (c : Nat), k ≤ K ∧ k < 1200 ∧ 1 ≤ I ∧ I ≤ 1200 ∧ i = .int .i64 I ∧ vi = .slice q k c ∧ Hid (I = (k : Int) + 1) ∧ Hid (wr.ownsRow (w.heap.size + 1) 3 1 (.slice q k c) k ((innL s' k).map iV)) ∧ Hid (SBox w ⟨st, en, n, unit, stub, roll, conv, lag⟩ W v wr)) (fun _ i _ => (1201 - intOf i).toNat)
  case atStart => exact ⟨0, 1, none, 0, by omega, by omega, by omega, by omega, rfl, rfl, rfl, iown_nil _ _, HB1⟩
  case round =>
    clear HB1
    obtain ⟨k, I, q, c, hk, hk2, I0, I1, rfl, rfl, HI, HO, HB⟩ := hrel
    obtain ⟨c0, c1, c2, c3, c4, c5, c6, c7, c8, c9⟩ := HB.out.cells
    have HJ : Hid (I = ((k + 1 : Nat) : Int)) := by have := HI.out; show _ = _; omega
    by_cases hlt : k < K
    · obtain ⟨x, hx, hxs⟩ := HIn.out k hlt
      have HP := hideS (fun wx => HPt.out (k + 1) (some x) wx hx)
      rw [← HJ.out] at HP
      dsimp only [Option.getD, Option.isSome] at HP
      have hxs' : ¬ en ≤ x := by have := HEn.out; omega
      have HNx : Hid (innL s' (k + 1) = innL s' k ++ [x]) := by show _ = _; rw [inn_succ, hx]; rfl
      have hsz := HB.out.below.size
      have hb0 : ¬ stub ≤ 2 := by omega
      by_cases hmany : k + 1 < 1200
      · have hlen : ¬ (1200 : Int) < ((k + 1 : Nat) : Int) + 1 := by omega
        go_wp2_with (first | (go_at_call 26; refine (HP.out _).mono ?_; rintro e w2 ⟨rfl, hb2⟩; have HB2 := hideS (HB.out.step hb2); have HO2 := hideS (iown_below HO.out hb2); have HOa : Hid (∀ o, (w2.alloc o).ownsRow (w.heap.size + 1) 3 1 (.slice q k c) k ((innL s' k).map iV)) := fun o => iown_below HO2.out ((Below.refl _ w2).alloc (Nat.le_refl _) o); have HBa : Hid (∀ o, SBox w ⟨st, en, n, unit, stub, roll, conv, lag⟩ W v (w2.alloc o)) := fun o => HB2.out.step ((Below.refl _ w2).alloc (Nat.le_refl _) o); have hz2 : Hid (∀ o, w.heap.size + 1 ≤ (w2.alloc o).heap.size) := fun o => by have := Below.size (HBa.out o); simp at this ⊢; omega) | (at_builtin; refine wpList_append_int _ rfl (.tmp 69) (.tmp 71) rfl (w.heap.size + 1) (.slice q k c) k (innL s' k) rfl (HOa.out _) w2.heap.size x rfl (by simp) (by omega) (hz2.out _) ?_; intro v5 w5 ho5 hg5; have HB5 := hideS ((HBa.out _).stay (igrown_below (HOa.out _) hg5 (hz2.out _)) (Nat.le_refl _)); rw [← HNx.out] at ho5; obtain ⟨q5, g5, k5, hv5, _, _, _, hm5⟩ := iown_src ho5 (inn_len _ _); subst hv5; have HO5 := hideS ho5; clear ho5 hg5))
        go_roundw
        case rel =>
          have h1 : Hid (I + 1 = ((k + 1 : Nat) : Int) + 1) := by have := HI.out; show _ = _; omega
          have h2 : I + 1 ≤ 1200 := by have := HI.out; omega
          first
          | exact ⟨k + 1, I + 1, q5, k5, by omega, by omega, by omega, h2, rfl, rfl, h1, HO5, HB5⟩
          | exact ⟨_, _, _, _, _, ⟨k + 1, by omega, by omega, I + 1, by omega, h2, rfl, q5, k5, rfl, h1, HO5⟩, rfl, rfl, rfl, rfl, rfl⟩
        case measure => simp [intOf]; omega
      · have hlen : (1200 : Int) < ((k + 1 : Nat) : Int) + 1 := by omega
        have HKm : Hid (1200 ≤ K) := by show _ ≤ _; omega
        go_wp2_with (first | (go_at_call 26; refine (HP.out _).mono ?_; rintro e w2 ⟨rfl, hb2⟩; have HB2 := hideS (HB.out.step hb2); have HO2 := hideS (iown_below HO.out hb2); have HOa : Hid (∀ o, (w2.alloc o).ownsRow (w.heap.size + 1) 3 1 (.slice q k c) k ((innL s' k).map iV)) := fun o => iown_below HO2.out ((Below.refl _ w2).alloc (Nat.le_refl _) o); have HBa : Hid (∀ o, SBox w ⟨st, en, n, unit, stub, roll, conv, lag⟩ W v (w2.alloc o)) := fun o => HB2.out.step ((Below.refl _ w2).alloc (Nat.le_refl _) o); have hz2 : Hid (∀ o, w.heap.size + 1 ≤ (w2.alloc o).heap.size) := fun o => by have := Below.size (HBa.out o); simp at this ⊢; omega) | (at_builtin; refine wpList_append_int _ rfl (.tmp 69) (.tmp 71) rfl (w.heap.size + 1) (.slice q k c) k (innL s' k) rfl (HOa.out _) w2.heap.size x rfl (by simp) (by omega) (hz2.out _) ?_; intro v5 w5 ho5 hg5; have HB5 := hideS ((HBa.out _).stay (igrown_below (HOa.out _) hg5 (hz2.out _)) (Nat.le_refl _)); rw [← HNx.out] at ho5; obtain ⟨q5, g5, k5, hv5, _, _, _, hm5⟩ := iown_src ho5 (inn_len _ _); subst hv5; have HO5 := hideS ho5; clear ho5 hg5))
        go_ret2
        exact ⟨Or.inl ⟨HKm.out, rfl⟩, HB5.out.below⟩
    · obtain rfl : k = K := by omega
      obtain ⟨C, hC, hCK, hend, hst⟩ := HT.out
      have HCe := hideS hC
      have hs1 := HStub.out.1
      have ho1 := HOth.out
      have ho2 := HEn.out
      rw [hs1] at hst hend
      rw [ho1, ho2] at hend
      clear hC hs1 ho1 ho2
      obtain ⟨p6, g6, c6, hv6, hsrc6, hlo6, hnc6, hcm6⟩ := iown_src HO.out (inn_len _ _)
      have e6 : q = p6 ∧ c = c6 := by cases hv6; exact ⟨rfl, rfl⟩
      obtain ⟨rfl, rfl⟩ := e6
      have hcl : c ≤ 9223372036854775807 := by unfold maxLen at hcm6; omega
      have HSr := hideS hsrc6
      clear hv6 hsrc6 hcm6 HIn HO
      have hk3 : k ≤ 1199 := by omega
      have hb0 : ¬ stub ≤ 2 := by omega
      generalize evenB s' k = ev at hend hst
      have hcase : (∃ o b, pkO s' (k + 1) = o ∧ ((o = none ∧ b = true) ∨ (∃ x, o = some x ∧ b = false ∧ en ≤ x)) ∧ ev = (o == some en)) := by
        rcases hend with ⟨a, a2⟩ | ⟨x, a, a2, a3⟩
        · exact ⟨none, true, a, Or.inl ⟨rfl, rfl⟩, by rw [a2]; rfl⟩
        · rw [if_neg hb0] at a2
          refine ⟨some x, false, a, Or.inr ⟨x, rfl, rfl, a2⟩, ?_⟩
          rcases a3 with ⟨e, e2⟩ | ⟨e, e2⟩
          · rw [e2, e]; exact (beq_self_eq_true _).symm
          · rw [e2]; exact (beq_eq_false_iff_ne.2 (fun f => e (Option.some.inj f))).symm
      clear hend
      obtain ⟨o, bn, ho, hob, hev⟩ := hcase
      have HP := hideS (fun wx => HPt.out (k + 1) o wx ho)
      rw [← HJ.out] at HP
      clear ho HJ HI HPt
      have hst' : (stub = 3 ∧ C = k) ∨ (stub = 4 ∧ ev = true ∧ C = k) ∨ (stub = 4 ∧ ev = false ∧ ¬ (0 : Int) < k ∧ C = k) ∨ (stub = 4 ∧ ev = false ∧ (0 : Int) < k ∧ k = C + 1) := by
        rcases hst with ⟨a, a2⟩ | ⟨a, a2, a3⟩ | ⟨a, a2, a3, a4⟩ | ⟨a, a2, a3, a4⟩
        · exact Or.inl ⟨by omega, a2⟩
        · exact Or.inr (Or.inl ⟨by omega, a2, a3⟩)
        · exact Or.inr (Or.inr (Or.inl ⟨by omega, a2, by omega, by omega⟩))
        · exact Or.inr (Or.inr (Or.inr ⟨by omega, a2, by omega, a4⟩))
      clear hst
      have hob' : (o = none ∧ ev = false) ∨ (o = some en ∧ ev = true) ∨ (∃ x, o = some x ∧ en ≤ x ∧ (x == en) = false ∧ ev = false) := by
        rcases hob with ⟨a, _⟩ | ⟨x, a, _, a2⟩
        · exact Or.inl ⟨a, by rw [hev, a]; rfl⟩
        · by_cases e : x = en
          · exact Or.inr (Or.inl ⟨by rw [a, e], by rw [hev, a, e]; exact beq_self_eq_true _⟩)
          · refine Or.inr (Or.inr ⟨x, a, a2, beq_eq_false_iff_ne.2 e, ?_⟩)
            rw [hev, a]; exact beq_eq_false_iff_ne.2 (fun f => e (Option.some.inj f))
      clear hob hev
      have HTail : Hid (∀ (wE : World) (b0 : Nat) (v2 : Value), wE.ownsRow b0 3 1 v2 (C + 2) ((datL s' C).map iV) → w.heap.size ≤ b0 → DatO s' k w (.returned (.tuple #[v2, .int .i64 0])) wE) := fun wE b0 v2 ho hb => Or.inr ⟨by omega, _, rfl, by rw [HCe.out]; exact iown_mono ho hb⟩
      have HC2 : Hid (∀ m, m < C → (innL s' k).getD m 0 = cutI s' C m) := fun m hm => HCut.out C m hCK hm
      have HD0 : Hid ([st] = datP s' C 0) := by show _ = _; unfold datP; rw [HStub.out.2]; rfl
      have HD1 : Hid (datP s' C C ++ [en] = datL s' C) := by show _ = _; rw [← datP_end, HEn.out]
      have hsz := HB.out.below.size
      have HG6 : Hid (0 < k → g6 < wr.heap.size) := fun h => HSr.out.lt (by rw [inn_len]; exact h)
      clear HCe HCut HStub HEn HOth HS2 HKr c0 c1 c2 c3 c4 c5 c6 c7 c8 c9 hlo6
      rcases hst' with ⟨rfl, hCk⟩ | ⟨rfl, hev, hCk⟩ | ⟨rfl, hev, hk0, hCk⟩ | ⟨rfl, hev, hk0, hCk⟩
      all_goals rcases hob' with ⟨rfl, he2⟩ | ⟨rfl, he2⟩ | ⟨x, rfl, hx, hx2, he2⟩
      all_goals first | (exfalso; rw [hev] at he2; exact Bool.noConfusion he2) | skip
      all_goals
        dsimp only [Option.getD, Option.isSome] at HP
        subst hCk
        obtain ⟨c0, c1, c2, c3, c4, c5, c6, c7, c8, c9⟩ := HB.out.cells
        go_wp2_with (go_at_call 26; refine (HP.out _).mono ?_; rintro e w2 ⟨rfl, hb2⟩; have HB2 := hideS (HB.out.step hb2); have HR2 := hideS (HSr.out.below hb2); have hz2 := hb2.size; clear hb2 c0 c1 c2 c3 c4 c5 c6 c7 c8 c9; obtain ⟨c0, c1, c2, c3, c4, c5, c6, c7, c8, c9⟩ := HB2.out.cells)
        clear c0 c1 c2 c3 c4 c5 c6 c7 c8 c9
        try clear hk0
        have HO0 := hideS (iown_one w2 st)
        rw [HD0.out] at HO0
        have HB3 := hideS (HB2.out.step ((Below.refl _ w2).alloc (Nat.le_refl _) (.cells #[.int .i64 st] 3)))
        have HR3 := hideS (HR2.out.below ((Below.refl _ w2).alloc (Nat.le_refl _) (.cells #[.int .i64 st] 3)))
        have HZ3 : Hid (w2.heap.size ≤ (w2.alloc (.cells #[.int .i64 st] 3)).heap.size) := by show _ ≤ _; simp
        have hw2 : w.heap.size + 1 ≤ w2.heap.size := by have := Below.size HB2.out; simp at this; omega
        have HG2 := hideS (fun h => Nat.lt_of_lt_of_le (HG6.out h) hz2)
        clear HG6 hz2
        clear HB2 HR2 HP HD0
        go_loopw [14, 15] (fun vo i wx => ∃ (m : Nat) (q2 : Option Addr) (k2 : Nat), m ≤ C ∧ i = .int .i64 m ∧ vo = .slice q2 (m + 1) k2 ∧ Hid (wx.ownsRow w2.heap.size 3 1 (.slice q2 (m + 1) k2) (m + 1) ((datP s' C m).map iV)) ∧ Hid (SBox w ⟨st, en, n, unit, _, roll, conv, lag⟩ W v wx) ∧ Hid (ISrc wx q g6 0 (innL s' _)) ∧ Hid (w2.heap.size ≤ wx.heap.size)) (fun _ i _ => C - (intOf i).toNat)
        case atStart => exact ⟨0, _, 1, by omega, rfl, rfl, HO0, HB3, HR3, HZ3⟩
        case round =>
          clear HO0 HB3 HR3 HZ3
          obtain ⟨m, q2, k2, hm, rfl, rfl, HO2, HB2, HR2, HZ2⟩ := hrel
          obtain ⟨c0, c1, c2, c3, c4, c5, c6, c7, c8, c9⟩ := HB2.out.cells
          have HOa : Hid (∀ o, (wr.alloc o).ownsRow w2.heap.size 3 1 (.slice q2 (m + 1) k2) (m + 1) ((datP s' C m).map iV)) := fun o => iown_below HO2.out ((Below.refl _ wr).alloc (Nat.le_refl _) o)
          have HBa := hideS (fun o => HB2.out.step ((Below.refl _ wr).alloc (Nat.le_refl _) o))
          have HRa := hideS (fun o => HR2.out.below ((Below.refl _ wr).alloc (Nat.le_refl _) o))
          have HZa : Hid (∀ o, w2.heap.size ≤ (wr.alloc o).heap.size) := fun o => by have := HZ2.out; simp; omega
          by_cases hlt : m < C
          · try (exfalso; omega)
            all_goals
              have hq := HR2.out.at_ (by rw [inn_len]; omega)
              subst hq
              have hcell := HR2.out.cell m (by rw [inn_len]; omega)
              rw [HC2.out m hlt, Nat.zero_add] at hcell
              have hjC : (m : Int) < (C : Int) := by omega
              have HDn : Hid (datP s' C m ++ [cutI s' C m] = datP s' C (m + 1)) := (datP_succ _ _ _).symm
              generalize cutI s' C m = z at *
              go_wp2_with (at_builtin; refine wpList_append_int _ rfl (.tmp 120) (.tmp 125) rfl w2.heap.size (.slice q2 (m + 1) k2) (m + 1) (datP s' C m) rfl (HOa.out _) wr.heap.size z rfl (by simp) (by omega) (HZa.out _) ?_; intro v5 w5 ho5 hg5; have hbl := igrown_below (HOa.out _) hg5 (HZa.out _); have HB5 := hideS ((HBa.out _).stay hbl hw2); have HR5 := hideS ((HRa.out _).stay hbl (fun h => HG2.out (by rw [inn_len] at h; exact h))); have HZ5 := hideS (Nat.le_trans (HZa.out _) hbl.size); rw [HDn.out] at ho5; obtain ⟨q5, g5, k5, hv5, _, _, _, hm5⟩ := iown_src ho5 (datP_len _ _ _); subst hv5; have HO5 := hideS ho5; clear ho5 hg5 hbl)
              go_roundw
              case rel => exact ⟨m + 1, q5, k5, by omega, by go_num, rfl, HO5, HB5, HR5, HZ5⟩
              case measure => simp [intOf]; omega
          · obtain rfl : m = C := by omega
            have hge : ¬ (m : Int) < (m : Int) := by omega
            go_wp2_with (at_builtin; refine wpList_append_int _ rfl (.tmp 127) (.tmp 130) rfl w2.heap.size (.slice q2 (m + 1) k2) (m + 1) (datP s' m m) rfl (HOa.out _) wr.heap.size en rfl (by simp) (by omega) (HZa.out _) ?_; intro v5 w5 ho5 hg5; have hbl := igrown_below (HOa.out _) hg5 (HZa.out _); have HB5 := hideS ((HBa.out _).stay hbl hw2); rw [HD1.out] at ho5; have HO5 := hideS ho5; clear ho5 hg5 hbl)
            go_ret2
            exact ⟨HTail.out _ w2.heap.size _ HO5.out (by omega), HB5.out.below⟩

/-- The document's Dates, of a schedule that may be. -/
theorem ref8Dates_any (s : Spc) (W : Int) (v : Value) (K : Nat) (w : World) (h : SpcOk s) (hK : DatR s K) (H : DatH s W v w) :
    Calls Try.prog 11 #[.agg #[.int .i64 s.st, .int .i64 s.en, .int .i64 s.n, .int .i64 s.unit, .int .i64 s.stub, .int .i64 s.roll, .int .i64 s.conv, .int .i64 s.lag, .int .i64 W, v]] w fun e w' => DatO s K w e w' ∧ Below w.heap.size w w' := by
  by_cases hb : s.stub ≤ 2
  · exact ref8Dates_back s W v K w h hK H hb
  · exact ref8Dates_fore s W v K w h hK H hb
end Go.Proofs.Ytelghkhcplmnmaa
namespace Go.Proofs.Ytelghkhcplmnmaa
open Go.RowKit

/-- A day of a later month is later. -/
theorem isD_lt {n n' y m d y' m' d' : Int} (h : IsD n y m d) (h' : IsD n' y' m' d') (hm : 12 * y + m < 12 * y' + m') : n < n' := by
  obtain ⟨a0, a1⟩ := h.year
  obtain ⟨b0, b1⟩ := h'.year
  obtain ⟨y0, y1, m0, m1, _, _⟩ := h.1
  obtain ⟨y0', y1', m0', m1', _, _⟩ := h'.1
  by_cases e : y < y'
  · have := ny_mono (y := y + 1) (z := y') (by omega) (by omega)
    omega
  · obtain rfl : y = y' := by omega
    have c := h.month
    have c' := h'.month
    have := cum_mono (y := y) (m := m + 1) (k := m') (by omega) (by omega) (by omega)
    omega
theorem third_isD {y m : Int} (h : ymB y m) : ∃ d, IsD (thirdI y m) y m d := by
  refine ⟨15 + (9 - dayI y m 1) % 7, okD_first h _ (by omega) (by omega), ?_⟩
  unfold thirdI wedI dayI
  omega
theorem toYM_at (y m k : Int) : 12 * toY y m k + toM y m k = 22801 + atI y m k := by
  unfold toY toM
  omega
theorem roll_isD {roll y m d k x : Int} (hd : 1 ≤ d) (h : rollO roll y m d k = some x) : ∃ d', IsD x (toY y m k) (toM y m k) d' := by
  unfold rollO at h
  by_cases hr : 0 ≤ atI y m k ∧ atI y m k < 3600
  · rw [if_pos hr] at h
    have e := Option.some.inj h
    have hym := toYM hr.1 hr.2
    by_cases r0 : roll = 0
    · rw [if_pos r0] at e
      have hl := len_lo (toY y m k) (toM y m k)
      have ht := toD_ok (l := lenI y m) (e := false) hd hl
      exact ⟨_, ⟨hym.1, hym.2.1, hym.2.2.1, hym.2.2.2, ht.1, ht.2⟩, e.symm⟩
    · rw [if_neg r0] at e
      by_cases r1 : roll = 1
      · rw [if_pos r1] at e
        have hl := len_lo (toY y m k) (toM y m k)
        exact ⟨_, ⟨hym.1, hym.2.1, hym.2.2.1, hym.2.2.2, by omega, Int.le_refl _⟩, e.symm⟩
      · rw [if_neg r1] at e
        rw [← e]
        exact third_isD hym
  · rw [if_neg hr] at h
    cases h
theorem pt_anchor {s : Spc} {a k x : Int} (h : ptO s a k = some x) : isDayP a := Classical.byContradiction fun ha => by
  rw [pt_none ha] at h; cases h
theorem pt_day {s : Spc} {a k x : Int} (h : ptO s a k = some x) : isDayP x := by
  have ha := pt_anchor h
  by_cases hu : s.unit ≤ 2
  · rw [pt_days ha hu] at h
    by_cases hx : isDayP (a + stepN s k)
    · rw [if_pos hx] at h
      rw [← Option.some.inj h]; exact hx
    · rw [if_neg hx] at h; cases h
  · obtain ⟨y, m, d, hd⟩ := isD_ex ha.1 ha.2
    rw [pt_months hd hu] at h
    obtain ⟨d', hx⟩ := roll_isD hd.1.2.2.2.2.1 h
    exact hx.range
theorem step_lt {s : Spc} {k k' : Int} (hn : 1 ≤ s.n) (hk : k < k') : stepN s k < stepN s k' := by
  have h : k * s.n < k' * s.n := Int.mul_lt_mul_of_pos_right hk (by omega)
  unfold stepN
  split
  · split <;> omega
  · exact h
theorem step_zero (s : Spc) : stepN s 0 = 0 := by unfold stepN; simp
theorem pt_lt {s : Spc} {a k k' x x' : Int} (hn : 1 ≤ s.n) (h : ptO s a k = some x) (h' : ptO s a k' = some x') (hk : k < k') : x < x' := by
  have ha := pt_anchor h
  have hs := step_lt hn hk
  by_cases hu : s.unit ≤ 2
  · rw [pt_days ha hu] at h h'
    by_cases hx : isDayP (a + stepN s k)
    · by_cases hx' : isDayP (a + stepN s k')
      · rw [if_pos hx] at h
        rw [if_pos hx'] at h'
        have := Option.some.inj h
        have := Option.some.inj h'
        omega
      · rw [if_neg hx'] at h'; cases h'
    · rw [if_neg hx] at h; cases h
  · obtain ⟨y, m, d, hd⟩ := isD_ex ha.1 ha.2
    rw [pt_months hd hu] at h h'
    obtain ⟨e, hx⟩ := roll_isD hd.1.2.2.2.2.1 h
    obtain ⟨e', hx'⟩ := roll_isD hd.1.2.2.2.2.1 h'
    refine isD_lt hx hx' ?_
    rw [toYM_at, toYM_at]
    unfold atI
    omega
theorem pt_side {s : Spc} {a k x : Int} (hn : 1 ≤ s.n) (h : ptO s a k = some x) : (0 < k → a < x) ∧ (k < 0 → x < a) := by
  have ha := pt_anchor h
  have hs : (0 < k → 0 < stepN s k) ∧ (k < 0 → stepN s k < 0) := by
    have := step_zero s
    exact ⟨fun e => by have := step_lt hn e; omega, fun e => by have := step_lt hn e; omega⟩
  by_cases hu : s.unit ≤ 2
  · rw [pt_days ha hu] at h
    by_cases hx : isDayP (a + stepN s k)
    · rw [if_pos hx] at h
      have := Option.some.inj h
      exact ⟨fun e => by have := hs.1 e; omega, fun e => by have := hs.2 e; omega⟩
    · rw [if_neg hx] at h; cases h
  · obtain ⟨y, m, d, hd⟩ := isD_ex ha.1 ha.2
    rw [pt_months hd hu] at h
    obtain ⟨e, hx⟩ := roll_isD hd.1.2.2.2.2.1 h
    refine ⟨fun e => isD_lt hd hx ?_, fun e => isD_lt hx hd ?_⟩
    · have := hs.1 e; rw [toYM_at]; unfold atI; omega
    · have := hs.2 e; rw [toYM_at]; unfold atI; omega
/-- Every cut is a point between the ends. -/
theorem pk_in {s : Spc} {K j : Nat} (h : SpcOk s) (hK : DatR s K) (hj : j < K) : ∃ x, pkO s (j + 1) = some x ∧ s.st < x ∧ x < s.en := by
  obtain ⟨x, e, hx⟩ := inn_some hK hj
  refine ⟨x, e, ?_⟩
  have hp := pt_side h.n1 e
  unfold ancI sgnI at hp
  by_cases hs : s.stub ≤ 2
  · rw [if_pos hs] at hx
    rw [if_pos hs, if_pos hs] at hp
    exact ⟨hx, hp.2 (by omega)⟩
  · rw [if_neg hs] at hx
    rw [if_neg hs, if_neg hs] at hp
    exact ⟨hp.1 (by omega), hx⟩
theorem pk_lt {s : Spc} {j j' : Nat} {x x' : Int} (h : SpcOk s) (e : pkO s j = some x) (e' : pkO s j' = some x') (hj : j < j') : if s.stub ≤ 2 then x' < x else x < x' := by
  unfold pkO sgnI at e e'
  by_cases hs : s.stub ≤ 2
  · rw [if_pos hs] at e e' ⊢
    exact pt_lt h.n1 e' e (by omega)
  · rw [if_neg hs] at e e' ⊢
    exact pt_lt h.n1 e e' (by omega)
/-- The i-th cut is a point. -/
theorem cut_pt {s : Spc} {K C i : Nat} (h : SpcOk s) (hK : DatR s K) (hC : C ≤ K) (hi : i < C) : pkO s (if s.stub ≤ 2 then C - i else i + 1) = some (cutI s C i) ∧ s.st < cutI s C i ∧ cutI s C i < s.en := by
  unfold cutI
  by_cases hs : s.stub ≤ 2
  · rw [if_pos hs, if_pos hs]
    obtain ⟨x, e, h1, h2⟩ := pk_in (j := C - i - 1) h hK (by omega)
    rw [show C - i - 1 + 1 = C - i by omega] at e
    rw [e]; exact ⟨rfl, h1, h2⟩
  · rw [if_neg hs, if_neg hs]
    obtain ⟨x, e, h1, h2⟩ := pk_in (j := i) h hK (by omega)
    rw [e]; exact ⟨rfl, h1, h2⟩
theorem cut_lt {s : Spc} {K C i : Nat} (h : SpcOk s) (hK : DatR s K) (hC : C ≤ K) (hi : i + 1 < C) : cutI s C i < cutI s C (i + 1) := by
  obtain ⟨e, _, _⟩ := cut_pt h hK hC (show i < C by omega)
  obtain ⟨e', _, _⟩ := cut_pt h hK hC hi
  by_cases hs : s.stub ≤ 2
  · rw [if_pos hs] at e e'
    have := pk_lt h e' e (by omega)
    rw [if_pos hs] at this
    exact this
  · rw [if_neg hs] at e e'
    have := pk_lt h e e' (by omega)
    rw [if_neg hs] at this
    exact this
theorem dat_first (s : Spc) (C : Nat) : (datL s C).getD 0 0 = s.st := rfl
theorem dat_cut {s : Spc} {C i : Nat} (hi : i < C) : (datL s C).getD (i + 1) 0 = cutI s C i := by
  unfold datL
  simp [List.getD, List.getElem?_append_left, hi]
theorem dat_last (s : Spc) (C : Nat) : (datL s C).getD (C + 1) 0 = s.en := by
  unfold datL
  simp [List.getD]
/-- The days rise. -/
theorem dat_lt {s : Spc} {K C i : Nat} (h : SpcOk s) (hK : DatR s K) (hC : C ≤ K) (hi : i < C + 1) : (datL s C).getD i 0 < (datL s C).getD (i + 1) 0 := by
  cases i with
  | zero =>
    rw [dat_first]
    by_cases hC0 : 0 < C
    · rw [dat_cut hC0]; exact (cut_pt h hK hC hC0).2.1
    · obtain rfl : C = 0 := by omega
      rw [dat_last]; exact h.lt
  | succ i =>
    have hi' : i < C := by omega
    rw [dat_cut hi']
    by_cases e : i + 1 < C
    · rw [dat_cut e]; exact cut_lt h hK hC e
    · obtain rfl : C = i + 1 := by omega
      rw [dat_last]; exact (cut_pt h hK hC hi').2.2
theorem dat_day {s : Spc} {K C i : Nat} (h : SpcOk s) (hK : DatR s K) (hC : C ≤ K) (hi : i < C + 2) : isDayP ((datL s C).getD i 0) := by
  have h0 := h.s0
  have h1 := h.e0
  cases i with
  | zero => rw [dat_first]; exact h0
  | succ i =>
    by_cases e : i < C
    · rw [dat_cut e]
      exact pt_day (cut_pt h hK hC e).1
    · obtain rfl : i = C := by omega
      rw [dat_last]; exact h1
end Go.Proofs.Ytelghkhcplmnmaa
