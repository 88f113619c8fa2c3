/- The contracts of the document's facts and Exp. -/
import Derived.Test.YtlbpekncaikabaaRefSub
import Derived.Test.YtlbpekncaikabaaRefDiv
import Derived.Test.YtlbpekncaikabaaFExpC
namespace Go.Proofs.Ytlbpekncaikabaa
open Go.RowKit

theorem fac_next (k : Nat) : facN (k + 1) = facN k * max k 1 := rfl
theorem fac_step {k : Nat} : (k ≤ 1 → facN (k + 1) = facN k) ∧ (1 < k → facN (k + 1) = facN k * k) := by
  rw [fac_next]
  refine ⟨fun h => ?_, fun h => ?_⟩
  · rw [show max k 1 = 1 by omega, Nat.mul_one]
  · rw [show max k 1 = k by omega]
theorem expL_lt : ∀ k, k < 14 → expL.getD k 0 < 18446744073709551616 := by decide
theorem expL_len : expL.length = 14 := by decide
theorem expL_fit : FitL expL := by unfold FitL; decide

set_option maxHeartbeats 1600000 in
theorem facts_any (w : World) :
    Calls Try.prog 37 #[] w fun e w' => ∃ v, e = .returned v ∧ OwnF w' w.heap.size 25 uV v expL ∧ Below w.heap.size w w' := by
  obtain ⟨i0, hi, hz0, hz1, hz2⟩ := info_parts infoU
  go_enter Try.func37, Try.ntmps37
  go_wp2
  go_loopw [1, 2, 3] (fun v s i wr => ∃ k f : Nat, k ≤ 14 ∧ i = .int .i64 k ∧ s = .int .i64 f ∧ Hid (f = facN k) ∧ Hid (wr.ownsRow w.heap.size 25 1 v k (rowOf uV expL k)) ∧ Hid (Below w.heap.size w wr)) (fun _ _ i _ => 14 - (intOf i).toNat)
  case atStart => exact ⟨0, 1, Nat.zero_le _, rfl, rfl, rfl, World.ownsRow_nil _ _ _ _, Below.refl _ _⟩
  case round =>
    obtain ⟨k, f, hk, rfl, rfl, HF, hown, HB⟩ := hrel
    by_cases hlt : k < 14
    · have hx : k < expL.length := by rw [expL_len]; exact hlt
      have HT := hideS (take_next (f := uV) hx)
      have hfb := fac_bd k (by omega)
      rw [← HF.out] at hfb
      obtain ⟨hf1, hf2⟩ := hfb
      have hfb2 := fac_bd (k + 1) (by omega)
      obtain ⟨f2, hf⟩ : ∃ f2, facN (k + 1) = f2 := ⟨_, rfl⟩
      rw [hf] at hfb2
      obtain ⟨hf3, hf4⟩ := hfb2
      have HF2 := hideS hf.symm
      obtain ⟨fz, hfz⟩ : ∃ fz : Int, (fi (f2 : Int) : Int) = fz := ⟨_, rfl⟩
      obtain ⟨x, hxx⟩ : ∃ x, expL.getD k 0 = x := ⟨_, rfl⟩
      obtain ⟨xi, hxi⟩ : ∃ xi : Int, (x : Int) = xi := ⟨_, rfl⟩
      have HInt : Hid (∀ w, Calls Try.prog 32 #[.int .i64 (f2 : Int)] w fun e w' => e = .returned (.int .u64 fz) ∧ Below w.heap.size w w') := fun w => by
        have := refInt_any (f2 : Int) w (by omega) (by omega)
        rw [hfz] at this; exact this
      have HDiv : Hid (∀ w, Calls Try.prog 50 #[.int .u64 4607182418800017408, .int .u64 fz] w fun e w' => e = .returned (.int .u64 xi) ∧ Below w.heap.size w w') := fun w => by
        have := refDiv_any 4607182418800017408 (fi (f2 : Int)) 4607182418800017408 fz w rfl hfz.symm (by unfold U64; omega) (by rw [← hfz]; exact u64_of_nat (aV_fi (a := (f2 : Int)) rfl (by omega) (by omega)).2.2.2)
        have e := exp_row k hlt
        rw [hf, hxx] at e
        rw [e, cn_some, hxi] at this; exact this
      rw [hxx] at HT
      have HXI := hideS hxi
      clear hx hf hfz hxx hxi
      have hsz := HB.out.size
      have hfs := fac_step (k := k)
      rw [← HF2.out, ← HF.out] at hfs
      have key : ∀ (w1 : World) (hb1 : Below wr.heap.size wr w1), True := fun _ _ => trivial
      clear key
      rcases (show k ≤ 1 ∨ 1 < k by omega) with hk1 | hk1
      · have hff := hfs.1 hk1
        subst hff
        clear hfs
        go_wp2_with fail
        refine (HInt.out _).mono ?_
        rintro e w1 ⟨rfl, hb1⟩
        have HB1 := hideS hb1
        clear hb1
        go_wp2_with fail
        refine (HDiv.out _).mono ?_
        rintro e w2 ⟨rfl, hb2⟩
        have HB2 := hideS (HB1.out.trans (hb2.mono HB1.out.size))
        have HO2 := hideS (own_below hown.out HB2.out)
        have HBw := hideS (HB.out.trans (HB2.out.mono hsz))
        have hsz2 := HBw.out.size
        clear hb2 HB1 hown
        go_wp2_with (at_builtin; refine wpList_append_own _ rfl _ _ 34 rfl w.heap.size 25 i0 (.int .u64 0) 1 8 Try.underlying34 hi hz0 hz1 hz2 rfl (by decide) _ _ _ rfl (HO2.out.alloc _) ⟨w2.heap.size, 0, none⟩ 1 1 [.int .u64 xi] rfl rfl ?c1 ?c2 ?c3 ?c4 ?c5 ?_)
        case c1 =>
          intro j u hj
          match j, hj with
          | 0, hj => simp at hj; subst hj; simp [Addr.add]
        case c2 => intro u hu; simp at hu; subst hu; rfl
        case c3 => unfold maxLen; omega
        case c4 => omega
        case c5 => simp; omega
        · intro v' w3 hown' hgrow _
          have hlow := HO2.out.lt
          have hb3 : Below w.heap.size w w3 := (HBw.out.alloc hsz2 _).grown hgrow (by simp; omega) (fun j hj => (hlow j hj).1)
          rw [← HXI.out, show Value.int IntKind.u64 (x : Int) = uV x from rfl, ← HT.out] at hown'
          have HO := hideS hown'
          have HB3 := hideS hb3
          clear hown' hgrow hlow hb3
          go_wp2
          go_roundw
          case rel => exact ⟨k + 1, _, by omega, by simp, rfl, HF2, HO, HB3⟩
          case measure => simp [intOf]; omega
      · have hff := hfs.2 hk1
        have hmul : (f : Int) * (k : Int) = (f2 : Int) := by rw [hff, Int.natCast_mul]
        clear hfs hff
        go_wp2_with fail
        refine (HInt.out _).mono ?_
        rintro e w1 ⟨rfl, hb1⟩
        have HB1 := hideS hb1
        clear hb1
        go_wp2_with fail
        refine (HDiv.out _).mono ?_
        rintro e w2 ⟨rfl, hb2⟩
        have HB2 := hideS (HB1.out.trans (hb2.mono HB1.out.size))
        have HO2 := hideS (own_below hown.out HB2.out)
        have HBw := hideS (HB.out.trans (HB2.out.mono hsz))
        have hsz2 := HBw.out.size
        clear hb2 HB1 hown
        go_wp2_with (at_builtin; refine wpList_append_own _ rfl _ _ 34 rfl w.heap.size 25 i0 (.int .u64 0) 1 8 Try.underlying34 hi hz0 hz1 hz2 rfl (by decide) _ _ _ rfl (HO2.out.alloc _) ⟨w2.heap.size, 0, none⟩ 1 1 [.int .u64 xi] rfl rfl ?c1 ?c2 ?c3 ?c4 ?c5 ?_)
        case c1 =>
          intro j u hj
          match j, hj with
          | 0, hj => simp at hj; subst hj; simp [Addr.add]
        case c2 => intro u hu; simp at hu; subst hu; rfl
        case c3 => unfold maxLen; omega
        case c4 => omega
        case c5 => simp; omega
        · intro v' w3 hown' hgrow _
          have hlow := HO2.out.lt
          have hb3 : Below w.heap.size w w3 := (HBw.out.alloc hsz2 _).grown hgrow (by simp; omega) (fun j hj => (hlow j hj).1)
          rw [← HXI.out, show Value.int IntKind.u64 (x : Int) = uV x from rfl, ← HT.out] at hown'
          have HO := hideS hown'
          have HB3 := hideS hb3
          clear hown' hgrow hlow hb3
          go_wp2
          go_roundw
          case rel => exact ⟨k + 1, _, by omega, by simp, rfl, HF2, HO, HB3⟩
          case measure => simp [intOf]; omega
    · obtain rfl : k = 14 := by omega
      go_wp2
      go_ret
      have h1 := hown.out
      rw [show (14 : Nat) = expL.length from expL_len.symm, rowOf_all] at h1
      exact ⟨_, rfl, ⟨h1⟩, HB.out⟩
end Go.Proofs.Ytlbpekncaikabaa
