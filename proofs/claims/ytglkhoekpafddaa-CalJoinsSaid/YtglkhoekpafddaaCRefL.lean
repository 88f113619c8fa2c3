/- The contract of the document's Same. -/
import Derived.Test.YtglkhoekpafddaaCRefK
namespace Go.Proofs.Ytglkhoekpafddaa
open Go.RowKit

/-- Two calendars' boxes at the call's first two blocks. -/
structure CBox2 (w : World) (W : Int) (v : Value) (W' : Int) (v' : Value) (wr : World) : Prop where
  a0 : wr.cell? ⟨w.heap.size, 0, none⟩ = some (.int .i64 W)
  a1 : wr.cell? ⟨w.heap.size, 1, none⟩ = some v
  b0 : wr.cell? ⟨w.heap.size + 1, 0, none⟩ = some (.int .i64 W')
  b1 : wr.cell? ⟨w.heap.size + 1, 1, none⟩ = some v'
  bl : Below w.heap.size w wr
  sz : w.heap.size + 2 ≤ wr.heap.size
theorem CBox2.first (w : World) (W : Int) (v : Value) (W' : Int) (v' : Value) : CBox2 w W v W' v' ((w.alloc (.cells #[.int .i64 W, v] 24)).alloc (.cells #[.int .i64 W', v'] 24)) := by
  refine ⟨by rw [old_cell _ _ (by simp)]; simp, by rw [old_cell _ _ (by simp)]; simp, new_cell _ _ 0 (by simp), new_cell _ _ 1 (by simp), ((Below.refl w.heap.size w).alloc (Nat.le_refl _) _).alloc (by simp) _, by simp⟩
theorem CBox2.step {w wr w' : World} {W W' : Int} {v v' : Value} (h : CBox2 w W v W' v' wr) (hb : Below wr.heap.size wr w') : CBox2 w W v W' v' w' :=
  ⟨(hb.cell (p := ⟨w.heap.size, 0, none⟩) (by have := h.sz; show w.heap.size < _; omega)).trans h.a0, (hb.cell (p := ⟨w.heap.size, 1, none⟩) (by have := h.sz; show w.heap.size < _; omega)).trans h.a1, (hb.cell (p := ⟨w.heap.size + 1, 0, none⟩) (by have := h.sz; show w.heap.size + 1 < _; omega)).trans h.b0, (hb.cell (p := ⟨w.heap.size + 1, 1, none⟩) (by have := h.sz; show w.heap.size + 1 < _; omega)).trans h.b1, h.bl.trans (hb.mono h.bl.size), Nat.le_trans h.sz hb.size⟩
theorem CBox2.drewN {w wr : World} {W W' : Int} {v v' : Value} (h : CBox2 w W v W' v' wr) (n : Nat) : CBox2 w W v W' v' (wr.drewN n) :=
  ⟨h.a0, h.a1, h.b0, h.b1, below_drewN' h.bl, h.sz⟩
/-- Where two rules part. -/
theorem rul_ne {a b : Rul} (h : a ≠ b) : a.kind ≠ b.kind ∨ (a.kind = b.kind ∧ a.mon ≠ b.mon) ∨ (a.kind = b.kind ∧ a.mon = b.mon ∧ a.day ≠ b.day) ∨ (a.kind = b.kind ∧ a.mon = b.mon ∧ a.day = b.day ∧ a.nth ≠ b.nth) ∨
    (a.kind = b.kind ∧ a.mon = b.mon ∧ a.day = b.day ∧ a.nth = b.nth ∧ a.wd ≠ b.wd) ∨ (a.kind = b.kind ∧ a.mon = b.mon ∧ a.day = b.day ∧ a.nth = b.nth ∧ a.wd = b.wd ∧ a.off ≠ b.off) ∨
    (a.kind = b.kind ∧ a.mon = b.mon ∧ a.day = b.day ∧ a.nth = b.nth ∧ a.wd = b.wd ∧ a.off = b.off ∧ a.fr ≠ b.fr) ∨ (a.kind = b.kind ∧ a.mon = b.mon ∧ a.day = b.day ∧ a.nth = b.nth ∧ a.wd = b.wd ∧ a.off = b.off ∧ a.fr = b.fr ∧ a.to ≠ b.to) ∨
    (a.kind = b.kind ∧ a.mon = b.mon ∧ a.day = b.day ∧ a.nth = b.nth ∧ a.wd = b.wd ∧ a.off = b.off ∧ a.fr = b.fr ∧ a.to = b.to ∧ a.mv ≠ b.mv) := by
  obtain ⟨k, m, d, n, w, o, f, t, v⟩ := a
  obtain ⟨k', m', d', n', w', o', f', t', v'⟩ := b
  dsimp only at *
  by_cases e : k = k'
  · subst e
    by_cases e : m = m'
    · subst e
      by_cases e : d = d'
      · subst e
        by_cases e : n = n'
        · subst e
          by_cases e : w = w'
          · subst e
            by_cases e : o = o'
            · subst e
              by_cases e : f = f'
              · subst e
                by_cases e : t = t'
                · subst e
                  by_cases e : v = v'
                  · subst e
                    exact absurd rfl h
                  · exact Or.inr (Or.inr (Or.inr (Or.inr (Or.inr (Or.inr (Or.inr (Or.inr ⟨rfl, rfl, rfl, rfl, rfl, rfl, rfl, rfl, e⟩)))))))
                · exact Or.inr (Or.inr (Or.inr (Or.inr (Or.inr (Or.inr (Or.inr (Or.inl ⟨rfl, rfl, rfl, rfl, rfl, rfl, rfl, e⟩)))))))
              · exact Or.inr (Or.inr (Or.inr (Or.inr (Or.inr (Or.inr (Or.inl ⟨rfl, rfl, rfl, rfl, rfl, rfl, e⟩))))))
            · exact Or.inr (Or.inr (Or.inr (Or.inr (Or.inr (Or.inl ⟨rfl, rfl, rfl, rfl, rfl, e⟩)))))
          · exact Or.inr (Or.inr (Or.inr (Or.inr (Or.inl ⟨rfl, rfl, rfl, rfl, e⟩))))
        · exact Or.inr (Or.inr (Or.inr (Or.inl ⟨rfl, rfl, rfl, e⟩)))
      · exact Or.inr (Or.inr (Or.inl ⟨rfl, rfl, e⟩))
    · exact Or.inr (Or.inl ⟨rfl, e⟩)
  · exact Or.inl e

set_option maxRecDepth 10000 in
set_option maxHeartbeats 3200000 in
theorem refSame_any (W W' : Int) (p p' : Option Addr) (b off c b' off' c' : Nat) (rs rs' : List Rul) (w : World) (hs : RSrc w p b off rs) (hs' : RSrc w p' b' off' rs') (hl : rs.length ≤ 1000000) (hl' : rs'.length ≤ 1000000) :
    Calls Try.prog 18 #[.agg #[.int .i64 W, .slice p rs.length c], .agg #[.int .i64 W', .slice p' rs'.length c']] w fun e w' => e = .returned (.bool (decide (W = W' ∧ rs = rs'))) ∧ Below w.heap.size w w' := by
  obtain ⟨R, hR⟩ : ∃ R, decide (W = W' ∧ rs = rs') = R := ⟨_, rfl⟩
  rw [hR]
  have HR := hideS hR
  clear hR
  have HS := hideS hs
  have HS' := hideS hs'
  obtain ⟨N, hN⟩ : ∃ N, rs.length = N := ⟨_, rfl⟩
  obtain ⟨N', hN'⟩ : ∃ N', rs'.length = N' := ⟨_, rfl⟩
  have HN := hideS hN
  have HN' := hideS hN'
  rw [hN] at hl ⊢
  rw [hN'] at hl' ⊢
  clear hs hs' hN hN'
  have HB0 := hideS (CBox2.first w W (.slice p N c) W' (.slice p' N' c'))
  by_cases hW : W = W'
  · by_cases hNN : N = N'
    · subst hW hNN
      go_enter Try.func18, Try.ntmps18
      go_wp2_with fail
      go_loopw [5] (fun i wr => ∃ (k : Nat), k ≤ N ∧ i = .int .i64 k ∧ Hid (CBox2 w W (.slice p N c) W (.slice p' N c') wr) ∧ Hid (∀ j < k, rs.getD j rul0 = rs'.getD j rul0)) (fun i _ => N - (intOf i).toNat)
      case atStart => exact ⟨0, by omega, rfl, HB0, fun j hj => by omega⟩
      case round =>
        clear HB0
        obtain ⟨k, hk, rfl, HB, HEq⟩ := hrel
        obtain ⟨a0, a1, b0, b1, _, _⟩ := HB.out
        by_cases hlt : k < N
        · have hx : k < rs.length := by rw [HN.out]; exact hlt
          have hx' : k < rs'.length := by rw [HN'.out]; exact hlt
          obtain rfl := HS.out.at_ (by omega)
          obtain rfl := HS'.out.at_ (by omega)
          have hrc := (HS.out.cell k hx).below HB.out.bl (HS.out.lt (by omega))
          have hrc' := (HS'.out.cell k hx').below HB.out.bl (HS'.out.lt (by omega))
          obtain ⟨r, hr⟩ : ∃ r, rs.getD k rul0 = r := ⟨_, rfl⟩
          obtain ⟨r', hr'⟩ : ∃ r', rs'.getD k rul0 = r' := ⟨_, rfl⟩
          rw [hr] at hrc
          rw [hr'] at hrc'
          have HRk := hideS hr
          have HRk' := hideS hr'
          clear hr hr' hx hx'
          obtain ⟨g0, g1, g2, g3, g4, g5, g6, g7, g8⟩ := hrc
          obtain ⟨q0, q1, q2, q3, q4, q5, q6, q7, q8⟩ := hrc'
          by_cases hrr : r = r'
          · have HEq' : Hid (∀ j < k + 1, rs.getD j rul0 = rs'.getD j rul0) := fun j hj => by
              by_cases hjk : j < k
              · exact HEq.out j hjk
              · obtain rfl : j = k := by omega
                rw [HRk.out, HRk'.out, hrr]
            subst hrr
            clear HRk HRk'
            obtain ⟨kind, mon, day, nth, wd, offs, fr, to, mv⟩ := r
            dsimp only at *
            go_wp2_with fail
            go_quiet (fail)
            go_wp2_with fail
            go_roundw
            case rel => exact ⟨k + 1, by omega, by go_num, HB.out.drewN _, HEq'⟩
            case measure => simp [intOf]; omega
          · have HE : Hid (false = R) := by
              show _ = _
              rw [← HR.out]
              exact (decide_eq_false fun e => hrr (by rw [← HRk.out, ← HRk'.out, e.2])).symm
            have hne := rul_ne hrr
            clear HRk HRk' hrr
            obtain ⟨kind, mon, day, nth, wd, offs, fr, to, mv⟩ := r
            obtain ⟨kind', mon', day', nth', wd', offs', fr', to', mv'⟩ := r'
            dsimp only at *
            rcases hne with x | ⟨rfl, x⟩ | ⟨rfl, rfl, x⟩ | ⟨rfl, rfl, rfl, x⟩ | ⟨rfl, rfl, rfl, rfl, x⟩ | ⟨rfl, rfl, rfl, rfl, rfl, x⟩ | ⟨rfl, rfl, rfl, rfl, rfl, rfl, x⟩ | ⟨rfl, rfl, rfl, rfl, rfl, rfl, rfl, x⟩ | ⟨rfl, rfl, rfl, rfl, rfl, rfl, rfl, rfl, x⟩
            all_goals
              go_wp2_with fail
              go_quiet (fail)
              go_wp2_with fail
              go_ret
              obtain rfl := HE.out
              exact ⟨rfl, below_drewN' HB.out.bl⟩
        · have HE : Hid (true = R) := by
            show _ = _
            rw [← HR.out]
            refine (decide_eq_true ⟨by first | exact rfl | trivial, List.ext_getElem? fun j => ?_⟩).symm
            by_cases hj : j < N
            · have e := HEq.out j (by omega)
              rw [List.getD_eq_getElem?_getD, List.getD_eq_getElem?_getD, List.getElem?_eq_getElem (by rw [HN.out]; exact hj), List.getElem?_eq_getElem (by rw [HN'.out]; exact hj)] at e
              rw [List.getElem?_eq_getElem (by rw [HN.out]; exact hj), List.getElem?_eq_getElem (by rw [HN'.out]; exact hj)]
              exact congrArg some e
            · rw [List.getElem?_eq_none (by rw [HN.out]; omega), List.getElem?_eq_none (by rw [HN'.out]; omega)]
          have hge : ¬ (k : Int) < N := by omega
          go_wp2_with fail
          go_ret
          obtain rfl := HE.out
          exact ⟨rfl, HB.out.bl⟩
    · have HE : Hid (false = R) := by
        show _ = _
        rw [← HR.out]
        exact (decide_eq_false fun e => hNN (by rw [← HN.out, ← HN'.out, e.2])).symm
      have hNN' : ((N : Int) != (N' : Int)) = true := bne_iff_ne.2 (by omega)
      subst hW
      clear hNN
      go_enter Try.func18, Try.ntmps18
      go_wp2_with fail
      go_ret
      obtain rfl := HE.out
      exact ⟨rfl, HB0.out.bl⟩
  · have HE : Hid (false = R) := by
      show _ = _
      rw [← HR.out]
      exact (decide_eq_false fun e => hW e.1).symm
    have hW' : (W != W') = true := bne_iff_ne.2 hW
    clear hW
    go_enter Try.func18, Try.ntmps18
    go_wp2_with fail
    go_ret
    obtain rfl := HE.out
    exact ⟨rfl, HB0.out.bl⟩
end Go.Proofs.Ytglkhoekpafddaa
