/- The contracts of the document's Cur and Check of flows. -/
import Derived.Test.YtjfldlllofjnbaaGreatHas
namespace Go.Proofs.YtjfldlllofjnbaaGreat
open Go.RowKit

theorem ref14Cur_any (n : Int) (w : World) :
    Calls Tryz.prog 61 #[.int .i64 n] w fun e w' => e = .returned (.bool (decide (1 ≤ n ∧ n ≤ 8))) ∧ w' = w := by
  by_cases h1 : 1 ≤ n <;> by_cases h2 : n ≤ 8
  all_goals
    first | rw [decide_eq_true (⟨h1, h2⟩ : 1 ≤ n ∧ n ≤ 8)] | rw [decide_eq_false (fun h : 1 ≤ n ∧ n ≤ 8 => by omega)]
    go_enter Tryz.func61, Tryz.ntmps61
    go_wp2
    go_ret
    exact ⟨rfl, rfl⟩
set_option maxRecDepth 20000 in
set_option maxHeartbeats 3200000 in
theorem ref14Check_any (l : List Flw) (p : Option Addr) (b off c N : Nat) (E K : Int) (w : World) (hl : JSrc aB w p b off l) (hN : l.length = N) (hc : N ≤ 9223372036854775807) (hf : FitJ l) (hE : ChkF l E K) :
    Calls Tryz.prog 55 #[.slice p N c] w fun e w' => e = .returned (.tuple #[.int .i64 E, .int .i64 K]) ∧ Below w.heap.size w w' := by
  have HN := hideS hN
  have HE := hideS hE
  have HQ := hideS hl
  have HF := hideS hf
  by_cases hm : 4096 < N
  · obtain ⟨rfl, rfl⟩ := chkF_unique hE (.many (by omega))
    clear hE hl hN hf
    go_enter Tryz.func55, Tryz.ntmps55
    go_wp2
    go_ret2
    exact ⟨rfl, Below.refl _ _⟩
  · have HP : Hid (0 < N → p = some ⟨b, off, none⟩) := fun h => hl.at_ (by omega)
    clear hE hl hN hf
    go_enter Tryz.func55, Tryz.ntmps55
    go_wp2_with fail
    go_loopw [4] (fun i wr => ∃ k : Nat, k ≤ N ∧ i = .int .i64 k ∧ Hid (∀ j < k, badF (l.getD j flw0) = 0) ∧ Hid (Below w.heap.size w wr)) (fun i _ => N - (intOf i).toNat)
    case atStart => exact ⟨0, Nat.zero_le _, rfl, fun j hj => by omega, Below.refl _ _⟩
    case round =>
      obtain ⟨k, hk, rfl, HFi, HB⟩ := hrel
      by_cases hlt : k < N
      · obtain rfl := HP.out (by omega)
        obtain ⟨c0, c1, c2⟩ := (HQ.out.below HB.out).cell k (by rw [HN.out]; exact hlt)
        have HFk := hideS (HF.out k)
        obtain ⟨F, hF⟩ : ∃ F, badF (l.getD k flw0) = F := ⟨_, rfl⟩
        have HFe := hideS hF
        have HFd : Hid ((if ¬ (0 ≤ (l.getD k flw0).day ∧ (l.getD k flw0).day ≤ 109572) then 51 else if finB (l.getD k flw0).am = false then 91 else if ¬ (1 ≤ (l.getD k flw0).cur ∧ (l.getD k flw0).cur ≤ 8) then 140 else 0) = F) := hF
        clear hF
        have HEK : Hid (F ≠ 0 → F = E ∧ (k : Int) = K) := fun hz => chkF_unique (.bad (by rw [HN.out]; omega) k (by rw [HN.out]; exact hlt) F HFe.out hz HFi.out) HE.out
        have HFi2 : Hid (F = 0 → ∀ j < k + 1, badF (l.getD j flw0) = 0) := fun hz j hj => by
          by_cases c : j < k
          · exact HFi.out j c
          · obtain rfl : j = k := by omega
            rw [HFe.out]; exact hz
        obtain ⟨q, hq⟩ : ∃ q, l.getD k flw0 = q := ⟨_, rfl⟩
        rw [hq] at c0 c1 c2 HFd HFk
        clear hq HFe
        obtain ⟨qd, qa, qc⟩ := q
        dsimp only [aB] at *
        have HNm := hideS fun wx => refNum_any (qa : Int) wx (by have := HFk.out; unfold U64; omega)
        have HCu := hideS fun wx => ref14Cur_any qc wx
        by_cases h1 : 0 ≤ qd
        · by_cases h2 : qd ≤ 109572
          · rw [if_neg (not_not_intro ⟨h1, h2⟩)] at HFd
            cases h3 : finB (qa : Int)
            · rw [h3] at HNm HFd
              have HF9 : F = 91 := HFd.out.symm
              have h9 := HEK.out (by rw [HF9]; decide)
              rw [HF9] at h9
              have HE9 := hideS h9
              clear HFd HF9 h9 h3 HEK HFi2
              go_wp2_with fail
              refine (HNm.out _).mono ?_
              rintro e w' ⟨rfl, rfl⟩
              go_wp2_with fail
              go_ret2
              obtain ⟨rfl, rfl⟩ := HE9.out
              exact ⟨rfl, HB.out⟩
            · rw [h3] at HNm HFd
              rw [if_neg (by simp)] at HFd
              by_cases h4 : 1 ≤ qc ∧ qc ≤ 8
              · rw [if_neg (not_not_intro h4)] at HFd
                rw [decide_eq_true h4] at HCu
                replace HFi2 := hideS (HFi2.out HFd.out.symm)
                clear HFd h3 h4 HEK
                go_wp2_with fail
                refine (HNm.out _).mono ?_
                rintro e w' ⟨rfl, rfl⟩
                go_wp2_with fail
                refine (HCu.out _).mono ?_
                rintro e w' ⟨rfl, rfl⟩
                go_wp2_with fail
                go_roundw
                case rel => exact ⟨k + 1, by omega, by simp, HFi2, HB⟩
                case measure => simp [intOf]; omega
              · rw [if_pos h4] at HFd
                rw [decide_eq_false h4] at HCu
                have HF9 : F = 140 := HFd.out.symm
                have h9 := HEK.out (by rw [HF9]; decide)
                rw [HF9] at h9
                have HE9 := hideS h9
                clear HFd HF9 h9 h3 h4 HEK HFi2
                go_wp2_with fail
                refine (HNm.out _).mono ?_
                rintro e w' ⟨rfl, rfl⟩
                go_wp2_with fail
                refine (HCu.out _).mono ?_
                rintro e w' ⟨rfl, rfl⟩
                go_wp2_with fail
                go_ret2
                obtain ⟨rfl, rfl⟩ := HE9.out
                exact ⟨rfl, HB.out⟩
          · rw [if_pos (fun h => h2 h.2)] at HFd
            have HF9 : F = 51 := HFd.out.symm
            have h9 := HEK.out (by rw [HF9]; decide)
            rw [HF9] at h9
            have HE9 := hideS h9
            clear HFd HF9 h9 HEK HFi2
            go_wp2_with fail
            go_ret2
            obtain ⟨rfl, rfl⟩ := HE9.out
            exact ⟨rfl, HB.out⟩
        · rw [if_pos (fun h => h1 h.1)] at HFd
          have HF9 : F = 51 := HFd.out.symm
          have h9 := HEK.out (by rw [HF9]; decide)
          rw [HF9] at h9
          have HE9 := hideS h9
          clear HFd HF9 h9 HEK HFi2
          go_wp2_with fail
          go_ret2
          obtain ⟨rfl, rfl⟩ := HE9.out
          exact ⟨rfl, HB.out⟩
      · obtain rfl : k = N := by omega
        have hEK : (0 : Int) = E ∧ (0 : Int) = K := chkF_unique (.fine (by rw [HN.out]; omega) (by rw [HN.out]; exact HFi.out)) HE.out
        have HEK := hideS hEK
        clear hEK
        go_wp2_with fail
        go_ret2
        obtain ⟨rfl, rfl⟩ := HEK.out
        exact ⟨rfl, HB.out⟩
end Go.Proofs.YtjfldlllofjnbaaGreat
