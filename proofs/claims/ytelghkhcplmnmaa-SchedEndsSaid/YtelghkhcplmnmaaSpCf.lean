/- The contract of sched's between, forth. -/
import Derived.Test.YtelghkhcplmnmaaSpC
import Derived.WalkMore
import Derived.OwnWalk
namespace Go.Proofs.Ytelghkhcplmnmaa
open Go.RowKit

set_option maxRecDepth 10000 in
set_option maxHeartbeats 16000000 in
theorem between_f (s : Spc) (W : Int) (v : Value) (K : Nat) (pk : Nat → Option Int) (il : Nat → List Int) (ev : Bool) (A O G : Int) (w : World) (t1 : 1 ≤ s.stub) (t2 : s.stub ≤ 4)
    (hbk : false = decide (s.stub ≤ 2)) (hA : A = s.st) (hO : O = s.en) (hG : G = 1) (H : Hid (BetH s W v K pk il ev A O G)) :
    Calls Try.prog 16 #[.agg #[.int .i64 s.st, .int .i64 s.en, .int .i64 s.n, .int .i64 s.unit, .int .i64 s.stub, .int .i64 s.roll, .int .i64 s.conv, .int .i64 s.lag, .int .i64 W, v]] w fun e w' => BetG il ev K w e w' ∧ Below w.heap.size w w' := by
  have HB0 := hideS (SBox.zero w s W v)
  have HSF := hideS (fun wx => stubF_any s W v wx t1 t2)
  rw [← hbk] at HSF
  have HIn := hideS H.out.ins
  have HOut := hideS H.out.out
  have HPt := hideS H.out.pt
  have HZ := hideS H.out.zero
  have HS := hideS H.out.succ
  have HL := hideS H.out.len
  have HG := hideS H.out.sg
  clear H t1 t2 hbk
  obtain ⟨st, en, n, unit, stub, roll, conv, lag⟩ := s
  dsimp only at *
  have HBd := hideS (HB0.out.step (Below.refl _ _).drew)
  have hA' := hA.symm
  have hO' := hO.symm
  subst hA' hO' hG
  clear hA hO
  go_enter Try.func16, Try.ntmps16
  go_wp2_with fail
  go_step3
  go_wp2_with fail
  go_region
  go_wp2_with fail
  refine (HSF.out _).mono ?_
  rintro e w1 ⟨rfl, hb1⟩
  have HB1 := hideS (HBd.out.step hb1)
  clear hb1 HB0 HBd
  obtain ⟨c0, c1, c2, c3, c4, c5, c6, c7, c8, c9⟩ := HB1.out.cells
  go_wp2_with fail
  go_step3
  go_wp2_with fail
  have HB2 := hideS (HB1.out.step (Below.refl _ w1).drew)
  clear c0 c1 c2 c3 c4 c5 c6 c7 c8 c9
  go_loopw [2, 3, 21] (fun vi eb i wr => ∃ (k : Nat) (I : Int) (q : Option Addr) (c : Nat), k ≤ K ∧ k ≤ 1200 ∧ 0 ≤ I ∧ I ≤ 1200 ∧ i = .int .i64 I ∧ vi = .slice q k c ∧ eb = .bool false ∧ Hid (I = (k : Int)) ∧ Hid (wr.ownsRow (w.heap.size + 1) 3 1 (.slice q k c) k ((il k).map iV)) ∧ Hid (SBox w ⟨st, en, n, unit, stub, roll, conv, lag⟩ W v wr)) (fun _ _ i _ => (1200 - intOf i).toNat)
  case atStart => exact ⟨0, 0, none, 0, by omega, by omega, by omega, by omega, rfl, rfl, rfl, rfl, by show World.ownsRow _ _ _ _ _ _ _; rw [HZ.out]; exact iown_nil _ _, by first | exact HB2 | exact HB1⟩
  case round =>
    clear HB1 HB2 HSF
    obtain ⟨k, I, q, c, hk, hk2, I0, I1, rfl, rfl, rfl, HI, HO, HB⟩ := hrel
    obtain ⟨c0, c1, c2, c3, c4, c5, c6, c7, c8, c9⟩ := HB.out.cells
    have hsz := HB.out.below.size
    by_cases hlt : k < 1200
    · have hI : decide (I < 1200) = true := decide_eq_true (by have := HI.out; omega)
      have HJ : Hid (I + 1 = ((k + 1 : Nat) : Int) * 1) := by have := HI.out; show _ = _; omega
      by_cases hin : k < K
      · obtain ⟨x, hx, hx0, hx1⟩ := HIn.out k hin
        have HP := hideS (fun wx => HPt.out (k + 1) (I + 1) (some x) wx (by omega) HJ.out hx)
        dsimp only [Option.getD, Option.isSome] at HP
        have HNx : Hid (il (k + 1) = il k ++ [x]) := by show _ = _; rw [HS.out, hx]; rfl
        go_wp2_with fail
        refine (HP.out _).mono ?_
        rintro e w2 ⟨rfl, hb2⟩
        have HB2 := hideS (HB.out.step hb2)
        have HO2 := hideS (iown_below HO.out hb2)
        clear c0 c1 c2 c3 c4 c5 c6 c7 c8 c9
        obtain ⟨c0, c1, c2, c3, c4, c5, c6, c7, c8, c9⟩ := HB2.out.cells
        have HOa : Hid (∀ o, (w2.alloc o).ownsRow (w.heap.size + 1) 3 1 (.slice q k c) k ((il k).map iV)) := fun o => iown_below HO2.out ((Below.refl _ w2).alloc (Nat.le_refl _) o)
        have HBa : Hid (∀ o, SBox w ⟨st, en, n, unit, stub, roll, conv, lag⟩ W v (w2.alloc o)) := fun o => HB2.out.step ((Below.refl _ w2).alloc (Nat.le_refl _) o)
        have hz2 : Hid (∀ o, w.heap.size + 1 ≤ (w2.alloc o).heap.size) := fun o => by have := Below.size (HBa.out o); simp at this ⊢; omega
        go_wp2_with (at_builtin; refine wpList_append_int _ rfl (.tmp 48) (.tmp 50) rfl (w.heap.size + 1) (.slice q k c) k (il k) rfl (HOa.out _) w2.heap.size x rfl (by simp) (by omega) (hz2.out _) ?_; intro v5 w5 ho5 hg5; have HB5 := hideS ((HBa.out _).stay (igrown_below (HOa.out _) hg5 (hz2.out _)) (Nat.le_refl _)); rw [← HNx.out] at ho5; obtain ⟨q5, g5, k5, hv5, _, _, _, hm5⟩ := iown_src ho5 (HL.out _); subst hv5; have HO5 := hideS ho5; clear ho5 hg5)
        go_roundw
        case rel => exact ⟨k + 1, I + 1, q5, k5, by omega, by omega, by omega, by have := HI.out; omega, rfl, rfl, rfl, by have := HI.out; show _ = _; omega, HO5, HB5⟩
        case measure => simp [intOf]; have := HI.out; omega
      · obtain rfl : k = K := by omega
        have HKl : Hid (k < 1200) := hlt
        rcases HOut.out with ⟨hx, hev⟩ | ⟨x, hx, hxo, hev⟩
        · have HP := hideS (fun wx => HPt.out (k + 1) (I + 1) none wx (by omega) HJ.out hx)
          dsimp only [Option.getD, Option.isSome] at HP
          have hkn : ((k : Int) == 1200) = false := beq_eq_false_iff_ne.2 (by omega)
          go_wp2_with fail
          refine (HP.out _).mono ?_
          rintro e w2 ⟨rfl, hb2⟩
          have HB2 := hideS (HB.out.step hb2)
          have HO2 := hideS (iown_below HO.out hb2)
          clear c0 c1 c2 c3 c4 c5 c6 c7 c8 c9
          go_wp2_with fail
          try rw [Exit.noGoto_ret]
          go_ret3
          exact ⟨Or.inr ⟨HKl.out, q, c, by rw [hev]; rfl, HO2.out⟩, HB2.out.below⟩
        · have HP := hideS (fun wx => HPt.out (k + 1) (I + 1) (some x) wx (by omega) HJ.out hx)
          dsimp only [Option.getD, Option.isSome] at HP
          have hkn : ((k : Int) == 1200) = false := beq_eq_false_iff_ne.2 (by omega)
          rcases hxo with hxo | ⟨hxo, hxo2⟩
          all_goals
            go_wp2_with fail
            refine (HP.out _).mono ?_
            rintro e w2 ⟨rfl, hb2⟩
            have HB2 := hideS (HB.out.step hb2)
            have HO2 := hideS (iown_below HO.out hb2)
            clear c0 c1 c2 c3 c4 c5 c6 c7 c8 c9
            obtain ⟨c0, c1, c2, c3, c4, c5, c6, c7, c8, c9⟩ := HB2.out.cells
            go_wp2_with fail
            try rw [Exit.noGoto_ret]
            go_ret3
            exact ⟨Or.inr ⟨HKl.out, q, c, by rw [hev]; rfl, HO2.out⟩, HB2.out.below⟩
    · have hI : decide (I < 1200) = false := decide_eq_false (by have := HI.out; omega)
      obtain rfl : k = 1200 := by omega
      go_wp2_with fail
      try rw [Exit.noGoto_ret]
      go_ret3
      exact ⟨Or.inl ⟨hk, rfl⟩, HB.out.below⟩
end Go.Proofs.Ytelghkhcplmnmaa
