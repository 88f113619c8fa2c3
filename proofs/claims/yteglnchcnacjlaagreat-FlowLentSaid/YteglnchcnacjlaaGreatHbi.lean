/- The walk of FlowNets. What the law FlowLent is told of the five lists, of both sides. -/
import Derived.Test.YteglnchcnacjlaaGreatHbg
import Derived.Test.YteglnchcnacjlaaGreatJfO
import Derived.Test.YteglnchcnacjlaaGreatHav
import Derived.Test.YteglnchcnacjlaaGreatFFlw
import Derived.Test.YteglnchcnacjlaaGreatHaw
import Derived.Test.YteglnchcnacjlaaGreatHak
namespace Go.Proofs.YteglnchcnacjlaaGreat
open Go.RowKit

theorem netN_fit (l : List Flw) (S : List (Int × Int)) : ∀ k, FitJ ((netN l S k).getD [])
  | 0 => fun i => by unfold netN; simp [flw0]
  | k + 1 => fun i => by
    have ih := netN_fit l S k
    cases hm : netN l S k with
    | none =>
      have : netN l S (k + 1) = none := by unfold netN; rw [hm, Option.bind_none]
      rw [this]; simp [flw0]
    | some m =>
      cases hf : netO l (S.getD k key0) with
      | none =>
        have : netN l S (k + 1) = none := by unfold netN; rw [hm, Option.bind_some, hf, Option.map_none]
        rw [this]; simp [flw0]
      | some f =>
        rw [netN_succ hm hf]
        rw [hm] at ih
        have ih' := ih i
        show ((m ++ [f]).getD i flw0).am < _
        by_cases h1 : i < m.length
        · rw [List.getD_eq_getElem?_getD, List.getElem?_append_left h1, ← List.getD_eq_getElem?_getD]; exact ih'
        · by_cases h2 : i = m.length
          · subst h2
            rw [List.getD_eq_getElem?_getD, List.getElem?_append_right (Nat.le_refl _), Nat.sub_self]
            show f.am < _
            unfold netO at hf
            split at hf
            · rw [← Option.some.inj hf]
              exact valSt_ltJ _
            · cases hf
          · rw [List.getD_eq_getElem?_getD, List.getElem?_eq_none (by rw [List.length_append]; simp; omega)]; decide
theorem netN_le (l : List Flw) (S : List (Int × Int)) (k : Nat) : ((netN l S k).getD []).length ≤ k := by
  cases hm : netN l S k with
  | none => exact Nat.zero_le _
  | some m => show m.length ≤ k; rw [netN_len hm]; exact Nat.le_refl _
theorem KeyR.short {l : List Flw} {S : List (Int × Int)} (h : KeyR l S) : S.length ≤ l.length := by
  have hp : S.Perm (keysN l l.length) := (List.perm_ext_iff_of_nodup h.len (keysN_nodup l _)).2 (fun x => (h.mem x).trans (keysN_mem l x l.length).symm)
  rw [hp.length_eq]
  exact keysN_len l l.length
theorem jd_nil (w : World) : JD w (.slice none 0 0) [] := ⟨none, 0, 0, rfl, ⟨fun h => by simp at h, fun h => by simp at h, fun i hi => by simp at hi⟩⟩
theorem ref14Net_bad (l : List Flw) (v : Value) (E K : Int) (w : World) (hv : JD w v l) (hc : l.length ≤ 9223372036854775807) (hf : FitJ l) (hE : ChkF l E K) (hE0 : E ≠ 0) :
    Calls Tryz.prog 15 #[v] w fun e w' => e = .returned (.tuple #[.slice none 0 0, .int .i64 E]) ∧ Below w.heap.size w w' := by
  obtain ⟨p, g, c, rfl, hs⟩ := hv.ex
  have HC := hideS (ref14Check_any l p g 0 c l.length E K w hs rfl hc hf hE)
  have d1 : (E != 0) = true := bne_iff_ne.2 hE0
  generalize l.length = N at *
  clear hs hc hf hE hE0 hv
  go_enter Tryz.func15, Tryz.ntmps15
  go_wp2_with fail
  refine HC.out.mono ?_
  rintro e w1 ⟨rfl, hb1⟩
  have HB := hideS hb1
  clear hb1
  go_wp2_with fail
  go_ret2
  exact ⟨rfl, HB.out⟩

end Go.Proofs.YteglnchcnacjlaaGreat
namespace Go.Proofs.YteglnchcnacjlaaGreat
open Go.RowKit

def sel5 {α : Type} (a b c d e : α) : Nat → α
  | 0 => a
  | 1 => b
  | 2 => c
  | 3 => d
  | _ => e
theorem sel5_0 {α : Type} (a b c d e : α) : sel5 a b c d e 0 = a := rfl
theorem sel5_1 {α : Type} (a b c d e : α) : sel5 a b c d e 1 = b := rfl
theorem sel5_2 {α : Type} (a b c d e : α) : sel5 a b c d e 2 = c := rfl
theorem sel5_3 {α : Type} (a b c d e : α) : sel5 a b c d e 3 = d := rfl
theorem sel5_4 {α : Type} (a b c d e : α) : sel5 a b c d e 4 = e := rfl
theorem lstO_lf {o : Option (List Flw)} {E : Int} {base : Nat} {e : Ending} {w : World} (h : LstO aF 29 o E base e w) : ∃ u, e = .returned (.tuple #[u, .int .i64 (errO o E)]) ∧ LF base w.heap.size u (o.getD []) w := by
  rcases h with ⟨rfl, he⟩ | ⟨m, u, rfl, he, hw⟩
  · exact ⟨_, he, LF.nil _ _ _⟩
  · exact ⟨u, he, LF.mk' hw⟩
structure FlT (l : List Flw) (x : Nat) (y z mo : Int) (M : Nat → List Flw) (E1 E3 E4 : Int) : Prop where
  sc : ∀ vi wx, JL wx vi l → Calls Tryz.prog 7 #[.float .f64 x, vi] wx fun e w' => (∃ u, e = .returned (.tuple #[u, .int .i64 E1]) ∧ LF wx.heap.size w'.heap.size u (M 1) w') ∧ Below wx.heap.size wx w'
  sh : ∀ vi wx, JL wx vi l → Calls Tryz.prog 8 #[vi, .int .i64 mo] wx fun e w' => (∃ u, e = .returned (.tuple #[u, .int .i64 E3]) ∧ LF wx.heap.size w'.heap.size u (M 3) w') ∧ Below wx.heap.size wx w'
  nt : ∀ vi wx, JL wx vi l → Calls Tryz.prog 9 #[vi] wx fun e w' => (∃ u, e = .returned (.tuple #[u, .int .i64 E4]) ∧ LF wx.heap.size w'.heap.size u (M 4) w') ∧ Below wx.heap.size wx w'
  gi : ∀ vi wx, JL wx vi l → Calls Tryz.prog 10 #[vi] wx fun e w' => (∃ u, e = .returned u ∧ LF wx.heap.size w'.heap.size u (M 0) w') ∧ Below wx.heap.size wx w'
  wi : ∀ vi wx, JL wx vi l → Calls Tryz.prog 11 #[vi, .int .i64 y, .int .i64 z] wx fun e w' => (∃ u, e = .returned u ∧ LF wx.heap.size w'.heap.size u (M 2) w') ∧ Below wx.heap.size wx w'
  scd : ∀ v wx, JD wx v l → Calls Tryz.prog 12 #[.int .u64 (x : Int), v] wx fun e w' => (∃ u, e = .returned (.tuple #[u, .int .i64 E1]) ∧ JD w' u (M 1)) ∧ Below wx.heap.size wx w'
  shd : ∀ v wx, JD wx v l → Calls Tryz.prog 14 #[v, .int .i64 mo] wx fun e w' => (∃ u, e = .returned (.tuple #[u, .int .i64 E3]) ∧ JD w' u (M 3)) ∧ Below wx.heap.size wx w'
  ntd : ∀ v wx, JD wx v l → Calls Tryz.prog 15 #[v] wx fun e w' => (∃ u, e = .returned (.tuple #[u, .int .i64 E4]) ∧ JD w' u (M 4)) ∧ Below wx.heap.size wx w'
  gid : ∀ v wx, JD wx v l → Calls Tryz.prog 17 #[v] wx fun e w' => (∃ u, e = .returned u ∧ JD w' u (M 0)) ∧ Below wx.heap.size wx w'
  wid : ∀ v wx, JD wx v l → Calls Tryz.prog 18 #[v, .int .i64 y, .int .i64 z] wx fun e w' => (∃ u, e = .returned u ∧ JD w' u (M 2)) ∧ Below wx.heap.size wx w'
  same : ∀ j, j < 5 → ∀ u v wx, JL wx u (M j) → JD wx v (M j) → Calls Tryz.prog 16 #[u, v] wx fun e w' => e = .returned (.bool true) ∧ Below wx.heap.size wx w'
  len : ∀ j, j < 5 → (M j).length ≤ 120
theorem net_lf (l : List Flw) (hN : l.length ≤ 120) (hf : FitJ l) : ∃ (m : List Flw) (E : Int), m.length ≤ 120 ∧ FitJ m ∧
    (∀ vi wx, JL wx vi l → Calls Tryz.prog 9 #[vi] wx fun e w' => (∃ u, e = .returned (.tuple #[u, .int .i64 E]) ∧ LF wx.heap.size w'.heap.size u m w') ∧ Below wx.heap.size wx w') ∧
    (∀ v wx, JD wx v l → Calls Tryz.prog 15 #[v] wx fun e w' => (∃ u, e = .returned (.tuple #[u, .int .i64 E]) ∧ JD w' u m) ∧ Below wx.heap.size wx w') := by
  obtain ⟨E, K, hE⟩ := chkF_ex l
  by_cases h0 : E = 0
  · subst h0
    have hE1 : ChkF l 0 0 := by
      cases hE with
      | fine a h => exact .fine a h
      | bad _ k _ _ _ h0 _ => exact absurd rfl h0
    obtain ⟨S, hS⟩ := keyR_ex l
    refine ⟨(netN l S S.length).getD [], errO (netN l S S.length) 91, ?_, netN_fit l S _, fun vi wx hj => ?_, fun v wx hj => ?_⟩
    · have := netN_le l S S.length
      have := hS.short
      omega
    · obtain ⟨p, g, o, c, rfl, hs⟩ := hj.ex
      refine (jNet_ok l p g o c _ wx hs rfl (by omega) hf hE1).mono fun e w' ⟨S', h1, h2, h3⟩ => ?_
      obtain rfl := KeyR.unique hS h1
      exact ⟨lstO_lf h2, h3⟩
    · obtain ⟨q, gg, cc, rfl, hs⟩ := hj.ex
      exact (ref14Net_ok l q gg 0 cc _ S wx hs rfl (by omega) hf hE1 hS).mono fun e w' ⟨h1, h2⟩ => ⟨lstD_get h1, h2⟩
  · refine ⟨[], E, by simp, fun i => by simp [flw0], fun vi wx hj => ?_, fun v wx hj => ?_⟩
    · obtain ⟨p, g, o, c, rfl, hs⟩ := hj.ex
      exact (jNet_bad l p g o c _ E K wx hs rfl (by omega) hf hE h0).mono fun e w' ⟨h1, h2⟩ => ⟨⟨_, h1, LF.nil _ _ _⟩, h2⟩
    · exact (ref14Net_bad l v E K wx hj (by omega) hf hE h0).mono fun e w' ⟨h1, h2⟩ => ⟨⟨_, h1, jd_nil _⟩, h2⟩
theorem flT_ex (l : List Flw) (x : Nat) (y z mo : Int) (hN : l.length ≤ 120) (hf : FitJ l) (hx : x < 18446744073709551616) (hmo : JI64 mo) : ∃ M E1 E3 E4, FlT l x y z mo M E1 E3 E4 := by
  obtain ⟨g, g1, _, g3, g4⟩ := months_fun mo hmo.1 hmo.2
  have g5 := months_ref mo g g3 g4
  obtain ⟨m4, E4, n4, f4, hnt, hntd⟩ := net_lf l hN hf
  have hc : l.length * 24 ≤ 140737488355328 := by omega
  obtain ⟨M, m0, m1, m2, m3, mm⟩ : ∃ M : Nat → List Flw, M 0 = l.map giveF ∧ M 1 = (sclL x l).getD [] ∧ M 2 = l.filter (winF y z) ∧ M 3 = (mapO (shfF g) l l.length).getD [] ∧ M 4 = m4 := ⟨sel5 (l.map giveF) ((sclL x l).getD []) (l.filter (winF y z)) ((mapO (shfF g) l l.length).getD []) m4, sel5_0 _ _ _ _ _, sel5_1 _ _ _ _ _, sel5_2 _ _ _ _ _, sel5_3 _ _ _ _ _, sel5_4 _ _ _ _ _⟩
  refine ⟨M, errO (sclL x l) 91, errO (mapO (shfF g) l l.length) 51, E4, fun vi wx hj => ?_, fun vi wx hj => ?_, ?_, fun vi wx hj => ?_, fun vi wx hj => ?_, fun v wx hj => ?_, fun v wx hj => ?_, ?_, fun v wx hj => ?_, fun v wx hj => ?_, fun j hj => ?_, fun j hj => ?_⟩
  · obtain ⟨p, b, o, c, rfl, hs⟩ := hj.ex
    rw [m1]
    exact (jScale_any l p b o c l.length x wx hs rfl hc hx hf).mono fun e w' ⟨h1, h2⟩ => ⟨lstO_lf h1, h2⟩
  · obtain ⟨p, b, o, c, rfl, hs⟩ := hj.ex
    rw [m3]
    exact (jShift_any l p b o c l.length mo g wx hs rfl hc g1).mono fun e w' ⟨h1, h2⟩ => ⟨lstO_lf h1, h2⟩
  · rw [mm]; exact hnt
  · obtain ⟨p, b, o, c, rfl, hs⟩ := hj.ex
    rw [m0]
    exact (jGive_any l p b o c l.length wx hs rfl hc).mono fun e w' ⟨⟨u, he, ho⟩, hb'⟩ => ⟨⟨u, he, LF.mk' (by rw [List.length_map]; exact ho)⟩, hb'⟩
  · obtain ⟨p, b, o, c, rfl, hs⟩ := hj.ex
    rw [m2]
    exact (jWindow_any l p b o c l.length y z wx hs rfl hc).mono fun e w' ⟨⟨u, he, ho⟩, hb'⟩ => ⟨⟨u, he, LF.mk' ho⟩, hb'⟩
  · obtain ⟨q, gg, cc, rfl, hs⟩ := hj.ex
    rw [m1]
    exact (ref14Scale_any l q gg 0 cc l.length x wx hs rfl hc hx hf).mono fun e w' ⟨h1, h2⟩ => ⟨lstD_get h1, h2⟩
  · obtain ⟨q, gg, cc, rfl, hs⟩ := hj.ex
    rw [m3]
    exact (ref14Shift_any l q gg 0 cc l.length mo g wx hs rfl hc g5).mono fun e w' ⟨h1, h2⟩ => ⟨lstD_get h1, h2⟩
  · rw [mm]; exact hntd
  · obtain ⟨q, gg, cc, rfl, hs⟩ := hj.ex
    rw [m0]
    exact (ref14Give_any l q gg 0 cc l.length wx hs rfl hc hf).mono fun e w' ⟨⟨u, he, ho⟩, hb'⟩ => ⟨⟨u, he, JD.own (by rw [List.length_map]; exact ho)⟩, hb'⟩
  · obtain ⟨q, gg, cc, rfl, hs⟩ := hj.ex
    rw [m2]
    exact (ref14Window_any l q gg 0 cc l.length y z wx hs rfl hc).mono fun e w' ⟨⟨u, he, ho⟩, hb'⟩ => ⟨⟨u, he, JD.own ho⟩, hb'⟩
  · rcases (show j = 0 ∨ j = 1 ∨ j = 2 ∨ j = 3 ∨ j = 4 by omega) with rfl | rfl | rfl | rfl | rfl
    · rw [m0]; exact fun u v wx hu hv => sameD_any u v (l.map giveF) wx hu hv (by rw [List.length_map]; omega) (giveF_fit hf)
    · rw [m1]; exact fun u v wx hu hv => sameD_any u v ((sclL x l).getD []) wx hu hv (by have := sclL_len x l; omega) (sclL_fit hf)
    · rw [m2]; exact fun u v wx hu hv => sameD_any u v (l.filter (winF y z)) wx hu hv (by have := List.length_filter_le (winF y z) l; omega) (filter_fit hf _)
    · rw [m3]; exact fun u v wx hu hv => sameD_any u v ((mapO (shfF g) l l.length).getD []) wx hu hv (by have := mapO_len_le (shfF g) l l.length; omega) (shf_fit hf)
    · rw [mm]; exact fun u v wx hu hv => sameD_any u v m4 wx hu hv (by omega) f4
  · rcases (show j = 0 ∨ j = 1 ∨ j = 2 ∨ j = 3 ∨ j = 4 by omega) with rfl | rfl | rfl | rfl | rfl
    · rw [m0, List.length_map]; exact hN
    · rw [m1]; have := sclL_len x l; omega
    · rw [m2]; have := List.length_filter_le (winF y z) l; omega
    · rw [m3]; have := mapO_len_le (shfF g) l l.length; omega
    · rw [mm]; exact n4
theorem fv_make {wr wa wb wc wd we : World} {vG vS vW vT vN : Value} {M : Nat → List Flw} {t : TypeId} (hS : LF wr.heap.size wa.heap.size vS (M 1) wa) (hT : LF wa.heap.size wb.heap.size vT (M 3) wb) (hN : LF wb.heap.size wc.heap.size vN (M 4) wc) (hG : LF wc.heap.size wd.heap.size vG (M 0) wd) (hW : LF wd.heap.size we.heap.size vW (M 2) we)
    (b1 : Below wr.heap.size wr wa) (b2 : Below wa.heap.size wa wb) (b3 : Below wb.heap.size wb wc) (b4 : Below wc.heap.size wc wd) (b5 : Below wd.heap.size wd we) :
    Fv wr.heap.size (sel5 wc.heap.size wr.heap.size wd.heap.size wa.heap.size wb.heap.size) (sel5 wd.heap.size wa.heap.size we.heap.size wb.heap.size wc.heap.size) (sel5 vG vS vW vT vN) we.heap.size M (we.alloc (.cells #[vG, vS, vW, vT, vN] t)) := by
  have c1 := b1.size
  have c2 := b2.size
  have c3 := b3.size
  have c4 := b4.size
  have c5 := b5.size
  have b6 : Below we.heap.size we (we.alloc (.cells #[vG, vS, vW, vT, vN] t)) := (Below.refl _ _).alloc (Nat.le_refl _) _
  have n6 := heap_alloc_new we (.cells #[vG, vS, vW, vT, vN] t)
  have kW := hW.below (Nat.le_refl _) b6
  have kG := (hG.below (Nat.le_refl _) b5).below c5 b6
  have kN := ((hN.below (Nat.le_refl _) b4).below c4 b5).below (by omega) b6
  have kT := (((hT.below (Nat.le_refl _) b3).below c3 b4).below (by omega) b5).below (by omega) b6
  have kS := ((((hS.below (Nat.le_refl _) b2).below c2 b3).below (by omega) b4).below (by omega) b5).below (by omega) b6
  refine ⟨fun j hj => ?_, fun j hj => ?_, fun j k hj hk hne => ?_, fun j hj => ?_, by rw [World.size_alloc]; omega, by omega⟩
  · rcases (show j = 0 ∨ j = 1 ∨ j = 2 ∨ j = 3 ∨ j = 4 by omega) with rfl | rfl | rfl | rfl | rfl
    · exact kG
    · exact kS
    · exact kW
    · exact kT
    · exact kN
  · simp only [World.cell?, n6, Option.isSome_none, Bool.false_eq_true, if_false]
    rcases (show j = 0 ∨ j = 1 ∨ j = 2 ∨ j = 3 ∨ j = 4 by omega) with rfl | rfl | rfl | rfl | rfl <;> rfl
  · rcases (show j = 0 ∨ j = 1 ∨ j = 2 ∨ j = 3 ∨ j = 4 by omega) with rfl | rfl | rfl | rfl | rfl <;> rcases (show k = 0 ∨ k = 1 ∨ k = 2 ∨ k = 3 ∨ k = 4 by omega) with rfl | rfl | rfl | rfl | rfl <;> first | (exact absurd rfl hne) | (simp only [sel5_0, sel5_1, sel5_2, sel5_3, sel5_4]; omega)
  · rcases (show j = 0 ∨ j = 1 ∨ j = 2 ∨ j = 3 ∨ j = 4 by omega) with rfl | rfl | rfl | rfl | rfl <;> (simp only [sel5_0, sel5_1, sel5_2, sel5_3, sel5_4]; omega)
theorem Fv.keep {A Z B gh : Nat} {lo hi : Nat → Nat} {vs : Nat → Value} {M : Nat → List Flw} {w w' : World} (h : Fv A lo hi vs gh M w) (hr : Rng B Z w w') (hZ : Z ≤ A) : Fv A lo hi vs gh M w' := by
  refine ⟨fun j hj => (h.lf j hj).keep fun b hb1 _ => hr.out b (Or.inr (by have := (h.bd j hj).1; omega)), fun j hj => ?_, h.sep, h.bd, by rw [hr.size]; exact h.lt, h.up⟩
  exact (hr.cell (p := ⟨gh, j, none⟩) (Or.inr (by show Z ≤ gh; have := h.up; omega))).trans (h.row j hj)
end Go.Proofs.YteglnchcnacjlaaGreat
