/- The walk of FlowNets. -/
import Derived.Test.YtjfldlllofjnbaaGreatHba
import Derived.Test.YtjfldlllofjnbaaGreatJfO
import Derived.Test.YtjfldlllofjnbaaGreatHas
import Derived.Test.YtjfldlllofjnbaaGreatFFlw
namespace Go.Proofs.YtjfldlllofjnbaaGreat
open Go.RowKit

theorem netN_fit (l : List Flw) (S : List (Int × Int)) : ∀ k, FitJ ((netN l S k).getD [])
  | 0 => fun i => by unfold netN; simp [flw0]
  | k + 1 => fun i => by
    have ih := netN_fit l S k
    cases hm : netN l S k with
    | none =>
      have : netN l S (k + 1) = none := by unfold netN; rw [hm, Option.bind_none]
      rw [this]; simp [flw0]
    | some m =>
      cases hf : netO l (S.getD k key0) with
      | none =>
        have : netN l S (k + 1) = none := by unfold netN; rw [hm, Option.bind_some, hf, Option.map_none]
        rw [this]; simp [flw0]
      | some f =>
        rw [netN_succ hm hf]
        rw [hm] at ih
        have ih' := ih i
        show ((m ++ [f]).getD i flw0).am < _
        by_cases h1 : i < m.length
        · rw [List.getD_eq_getElem?_getD, List.getElem?_append_left h1, ← List.getD_eq_getElem?_getD]; exact ih'
        · by_cases h2 : i = m.length
          · subst h2
            rw [List.getD_eq_getElem?_getD, List.getElem?_append_right (Nat.le_refl _), Nat.sub_self]
            show f.am < _
            unfold netO at hf
            split at hf
            · rw [← Option.some.inj hf]
              exact valSt_ltJ _
            · cases hf
          · rw [List.getD_eq_getElem?_getD, List.getElem?_eq_none (by rw [List.length_append]; simp; omega)]; decide
theorem netN_le (l : List Flw) (S : List (Int × Int)) (k : Nat) : ((netN l S k).getD []).length ≤ k := by
  cases hm : netN l S k with
  | none => exact Nat.zero_le _
  | some m => show m.length ≤ k; rw [netN_len hm]; exact Nat.le_refl _
theorem KeyR.short {l : List Flw} {S : List (Int × Int)} (h : KeyR l S) : S.length ≤ l.length := by
  have hp : S.Perm (keysN l l.length) := (List.perm_ext_iff_of_nodup h.len (keysN_nodup l _)).2 (fun x => (h.mem x).trans (keysN_mem l x l.length).symm)
  rw [hp.length_eq]
  exact keysN_len l l.length
theorem jl_nil (w : World) : JL w (.slice none 0 0) [] := ⟨none, 0, 0, 0, rfl, ⟨fun h => by simp at h, fun h => by simp at h, fun i hi => by simp at hi⟩⟩
theorem jd_nil (w : World) : JD w (.slice none 0 0) [] := ⟨none, 0, 0, rfl, ⟨fun h => by simp at h, fun h => by simp at h, fun i hi => by simp at hi⟩⟩
theorem ref14Net_bad (l : List Flw) (v : Value) (E K : Int) (w : World) (hv : JD w v l) (hc : l.length ≤ 9223372036854775807) (hf : FitJ l) (hE : ChkF l E K) (hE0 : E ≠ 0) :
    Calls Tryz.prog 30 #[v] w fun e w' => e = .returned (.tuple #[.slice none 0 0, .int .i64 E]) ∧ Below w.heap.size w w' := by
  obtain ⟨p, g, c, rfl, hs⟩ := hv.ex
  have HC := hideS (ref14Check_any l p g 0 c l.length E K w hs rfl hc hf hE)
  have d1 : (E != 0) = true := bne_iff_ne.2 hE0
  generalize l.length = N at *
  clear hs hc hf hE hE0 hv
  go_enter Tryz.func30, Tryz.ntmps30
  go_wp2_with fail
  refine HC.out.mono ?_
  rintro e w1 ⟨rfl, hb1⟩
  have HB := hideS hb1
  clear hb1
  go_wp2_with fail
  go_ret2
  exact ⟨rfl, HB.out⟩

/-- Net of the program and of the document tell one list and one error. -/
theorem nets_both (l : List Flw) (p : Option Addr) (b off c : Nat) (w : World) (hl : JSrc aF w p b off l) (hf : FitJ l) (hN : l.length ≤ 500) :
    Calls Tryz.prog 29 #[.slice p l.length c] w fun e w' => (∃ u M E, e = .returned (.tuple #[u, .int .i64 E]) ∧ JL w' u M ∧ M.length ≤ 500 ∧ FitJ M ∧ ∀ v wx, JD wx v l → Calls Tryz.prog 30 #[v] wx fun e w' => (∃ u, e = .returned (.tuple #[u, .int .i64 E]) ∧ JD w' u M) ∧ Below wx.heap.size wx w') ∧ Below w.heap.size w w' := by
  obtain ⟨E, K, hE⟩ := chkF_ex l
  by_cases hz : E = 0
  · subst hz
    have hE1 : ChkF l 0 0 := by
      cases hE with
      | fine a h => exact .fine a h
      | bad _ k _ _ _ h0 _ => exact absurd rfl h0
    refine (jNet_ok l p b off c l.length w hl rfl (by omega) hf hE1).mono ?_
    rintro e w' ⟨S, hS, hL, hb⟩
    obtain ⟨u, he, hu⟩ := lstO_get hL
    refine ⟨⟨u, _, _, he, hu, Nat.le_trans (netN_le l S _) (Nat.le_trans hS.short hN), netN_fit l S _, fun v wx hv => ?_⟩, hb⟩
    obtain ⟨q, g, cc, rfl, hs⟩ := hv.ex
    exact (ref14Net_ok l q g 0 cc l.length S wx hs rfl hN hf hE1 hS).mono fun e w' ⟨h1, h2⟩ => ⟨lstD_get h1, h2⟩
  · refine (jNet_bad l p b off c l.length E K w hl rfl (by omega) hf hE hz).mono ?_
    rintro e w' ⟨he, hb⟩
    refine ⟨⟨_, [], E, he, jl_nil w', Nat.zero_le _, fun i => by simp [flw0], fun v wx hv => ?_⟩, hb⟩
    exact (ref14Net_bad l v E K wx hv (by omega) hf hE hz).mono fun e w' ⟨h1, h2⟩ => ⟨⟨_, h1, jd_nil w'⟩, h2⟩

set_option maxRecDepth 20000 in
set_option maxHeartbeats 6400000 in
theorem flowNets_walk (p : Option Addr) (b off c : Nat) (l : List Flw) (w : World) (hl : JSrc aF w p b off l) (hf : FitJ l) (hc : l.length * 24 ≤ 140737488355328) :
    Calls Tryz.prog 6 #[.slice p l.length c] w fun e w' => e = .returned (.bool true) ∧ Below w.heap.size w w' := by
  have HAw := hideS awake14
  have HFe := hideS fun wx => few14_any p l.length c wx (by omega)
  by_cases hN : l.length ≤ 120
  · rw [decide_eq_true hN] at HFe
    have HNe := hideS (nets_both l p b off c w hl hf (by omega))
    have HOf : Hid (∀ wx, Below w.heap.size w wx → Calls Tryz.prog 19 #[.slice p l.length c] wx fun e w' => (∃ u, e = .returned u ∧ JD w' u l) ∧ Below wx.heap.size wx w') := fun wx hb => (ref14Of_any l p b off c l.length wx (hl.below hb) rfl hc).mono fun e w' ⟨⟨u, he, ho⟩, hb'⟩ => ⟨⟨u, he, JD.own ho⟩, hb'⟩
    generalize l.length = N at *
    clear hl hf hc hN
    go_enter Tryz.func6, Tryz.ntmps6
    go_wp2_with fail
    refine (turned (HFe.out _)).mono ?_
    rintro e w0 ⟨rfl, rfl⟩
    go_wp2_with fail
    refine HNe.out.mono ?_
    rintro e w1 ⟨⟨u, M, E, rfl, hu, hM, hMf, hD⟩, hb1⟩
    have HU := hideS hu
    have HB1 := hideS hb1
    have HD := hideS hD
    have HS := hideS fun u v wx hu hv => sameD_any u v M wx hu hv (by omega) hMf
    clear hu hb1 hD hM hMf HNe
    go_wp2_with fail
    refine (HOf.out w1 HB1.out).mono ?_
    rintro e w2 ⟨⟨d, rfl, j2⟩, hb2⟩
    have HU2 := hideS (HU.out.below hb2)
    have HB2 := hideS (HB1.out.trans (hb2.mono HB1.out.size))
    have HD2 := hideS (HD.out d w2 j2)
    clear j2 hb2 HU HB1 HD HOf
    go_wp2_with fail
    refine HD2.out.mono ?_
    rintro e w3 ⟨⟨v, rfl, j3⟩, hb3⟩
    have HU3 := hideS (HU2.out.below hb3)
    have HV3 := hideS j3
    have HB3 := hideS (HB2.out.trans (hb3.mono HB2.out.size))
    clear j3 hb3 HU2 HB2 HD2
    go_wp2_with fail
    refine (HS.out u v w3 HU3.out HV3.out).mono ?_
    rintro e w4 ⟨rfl, hb4⟩
    have HB4 := hideS (HB3.out.trans (hb4.mono HB3.out.size))
    clear hb4 HB3 HU3 HV3
    go_wp2_with fail
    refine (HAw.out w4).mono ?_
    rintro e w5 ⟨rfl, hb5⟩
    have HB5 := hideS (HB4.out.trans (hb5.mono HB4.out.size))
    clear hb5
    go_wp2_with fail
    go_ret
    exact ⟨rfl, HB5.out⟩
  · rw [decide_eq_false hN] at HFe
    generalize l.length = N at *
    clear hl hf hc hN
    go_enter Tryz.func6, Tryz.ntmps6
    go_wp2_with fail
    refine (turned (HFe.out _)).mono ?_
    rintro e w0 ⟨rfl, rfl⟩
    go_wp2_with fail
    refine (HAw.out _).mono ?_
    rintro e w1 ⟨rfl, hb1⟩
    have HB1 := hideS hb1
    clear hb1
    go_wp2_with fail
    go_ret
    exact ⟨rfl, HB1.out⟩
end Go.Proofs.YtjfldlllofjnbaaGreat
