/- The contracts of moves and of slices.Concat of two slices of rules. -/
import Derived.Test.YtglkhoekpafddaaQPub2
import Derived.Test.YtglkhoekpafddaaCRefM
import Derived.Lib.AppendZerosOnto
import Derived.Lib.SliceRun
namespace Go.Proofs.Ytglkhoekpafddaa
open Go.RowKit

theorem moves1_any (kind mon day nth wd off fr to mv : Int) (R : Bool) (w : World) (h : (mv != 0) = R) :
    Calls Try.prog 51 #[.agg #[.int .i64 kind, .int .i64 mon, .int .i64 day, .int .i64 nth, .int .i64 wd, .int .i64 off, .int .i64 fr, .int .i64 to, .int .i64 mv]] w fun e w' => e = .returned (.bool R) ∧ Below w.heap.size w w' := by
  go_enter Try.func51, Try.ntmps51
  go_wp2_with fail
  go_ret
  exact ⟨rfl, (Below.refl w.heap.size w).alloc (Nat.le_refl _) _⟩

set_option maxHeartbeats 1600000 in
theorem idx_loop (p : Option Addr) (b off c K : Nat) (R : Int) (rs : List Rul) (w : World) (hs : RSrc w p b off rs) (hl : rs.length ≤ 1000000) (hK : K ≤ rs.length) (hlo : ∀ j < K, (rs.getD j rul0).mv = 0) (hE : (K = rs.length ∧ R = -1) ∨ (K < rs.length ∧ (rs.getD K rul0).mv ≠ 0 ∧ R = K)) :
    Calls Try.prog 59 #[.slice p rs.length c, .func (.func 51) #[] #[]] w fun e w' => e = .returned (.int .i64 R) ∧ Below w.heap.size w w' := by
  have HS := hideS hs
  have HLo := hideS hlo
  have HE := hideS hE
  obtain ⟨N, hN⟩ : ∃ N, rs.length = N := ⟨_, rfl⟩
  have HN := hideS hN
  rw [hN] at hl hK HE ⊢
  have HM := hideS (fun kind mon day nth wd off fr to mv R wx h => moves1_any kind mon day nth wd off fr to mv R wx h)
  clear hs hlo hE hN
  go_enter Try.func59, Try.ntmps59
  go_wp2_with fail
  go_loopw [8] (fun i wr => ∃ (k : Nat), k ≤ K ∧ i = .int .i64 k ∧ Hid (Below w.heap.size w wr)) (fun i _ => N - (intOf i).toNat)
  case atStart => exact ⟨0, by omega, rfl, Below.refl _ _⟩
  case round =>
    obtain ⟨k, hk, rfl, HB⟩ := hrel
    by_cases hlt : k < N
    · have hx : k < rs.length := by rw [HN.out]; exact hlt
      obtain rfl := HS.out.at_ (by omega)
      have hrc := (HS.out.cell k hx).below HB.out (HS.out.lt (by omega))
      have hEE : (k < K ∧ (rs.getD k rul0).mv = 0) ∨ ((rs.getD k rul0).mv ≠ 0 ∧ R = k) := by
        by_cases hkK : k < K
        · exact Or.inl ⟨hkK, HLo.out k hkK⟩
        · obtain rfl : k = K := by omega
          rcases HE.out with ⟨a, _⟩ | ⟨_, a⟩
          · omega
          · exact Or.inr a
      generalize rs.getD k rul0 = r at hrc hEE
      clear hx
      obtain ⟨g0, g1, g2, g3, g4, g5, g6, g7, g8⟩ := hrc
      obtain ⟨kind, mon, day, nth, wd, offs, fr, to, mv⟩ := r
      dsimp only at *
      rcases hEE with ⟨hkK, rfl⟩ | ⟨hmv, hR⟩
      · have HMk := hideS (fun wx => HM.out kind mon day nth wd offs fr to 0 false wx rfl)
        go_wp2_with (go_at_call 51; refine (HMk.out _).mono ?_; rintro e w2 ⟨rfl, hb2⟩)
        have HB2 := hideS (HB.out.trans (hb2.mono HB.out.size))
        clear hb2
        go_roundw
        case rel => exact ⟨k + 1, by omega, by go_num, HB2⟩
        case measure => simp [intOf]; omega
      · have HMk := hideS (fun wx => HM.out kind mon day nth wd offs fr to mv true wx (bne_iff_ne.2 hmv))
        have HR := hideS hR
        clear hR hmv
        go_wp2_with (go_at_call 51; refine (HMk.out _).mono ?_; rintro e w2 ⟨rfl, hb2⟩)
        go_ret
        obtain rfl := HR.out
        exact ⟨rfl, HB.out.trans (hb2.mono HB.out.size)⟩
    · have HR : Hid (R = -1) := by
        rcases HE.out with ⟨_, a⟩ | ⟨a, _⟩
        · exact a
        · omega
      have hge : ¬ (k : Int) < N := by omega
      go_wp2_with fail
      go_ret
      obtain rfl := HR.out
      exact ⟨rfl, HB.out⟩

theorem idx_ex (rs : List Rul) : ∃ (K : Nat) (R : Int), K ≤ rs.length ∧ (∀ j < K, (rs.getD j rul0).mv = 0) ∧ ((K = rs.length ∧ R = -1) ∨ (K < rs.length ∧ (rs.getD K rul0).mv ≠ 0 ∧ R = K)) ∧ decide (0 ≤ R) = movesB rs ∧ -1 ≤ R := by
  by_cases h : movesB rs = true
  · obtain ⟨r, hr, hm⟩ := List.any_eq_true.1 h
    obtain ⟨i, hi, rfl⟩ := List.getElem_of_mem hr
    obtain ⟨K, hK, a, b⟩ := least_ex (p := fun j => decide ((rs.getD j rul0).mv = 0)) (m := i) (by
      refine decide_eq_false ?_
      rw [List.getD_eq_getElem?_getD, List.getElem?_eq_getElem hi]
      exact bne_iff_ne.1 hm)
    exact ⟨K, K, by omega, fun j hj => of_decide_eq_true (b j hj), Or.inr ⟨by omega, of_decide_eq_false a, rfl⟩, by rw [h]; exact decide_eq_true (by omega), by omega⟩
  · have h0 : movesB rs = false := Bool.eq_false_iff.2 h
    refine ⟨rs.length, -1, Nat.le_refl _, fun j hj => ?_, Or.inl ⟨rfl, rfl⟩, by rw [h0]; rfl, Int.le_refl _⟩
    refine Classical.byContradiction fun hm => h (List.any_eq_true.2 ⟨rs.getD j rul0, getD_mem hj, bne_iff_ne.2 hm⟩)

set_option maxHeartbeats 800000 in
theorem contains_any (p : Option Addr) (b off c : Nat) (rs : List Rul) (w : World) (hs : RSrc w p b off rs) (hl : rs.length ≤ 1000000) :
    Calls Try.prog 50 #[.slice p rs.length c, .func (.func 51) #[] #[]] w fun e w' => e = .returned (.bool (movesB rs)) ∧ Below w.heap.size w w' := by
  obtain ⟨K, R, hK, hlo, hE, hR, hR1⟩ := idx_ex rs
  have HI := hideS (idx_loop p b off c K R rs w hs hl hK hlo hE)
  generalize rs.length = N at *
  generalize movesB rs = M at *
  clear hs hl hK hlo hE
  go_enter Try.func50, Try.ntmps50
  go_wp2_with (go_at_call 59; refine HI.out.mono ?_; rintro e w2 ⟨rfl, hb2⟩)
  go_ret
  exact ⟨rfl, hb2⟩

set_option maxHeartbeats 800000 in
theorem moves_any (W : Int) (p : Option Addr) (b off c : Nat) (rs : List Rul) (w : World) (hs : RSrc w p b off rs) (hl : rs.length ≤ 1000000) :
    Calls Try.prog 37 #[.agg #[.int .i64 W, .slice p rs.length c]] w fun e w' => e = .returned (.bool (movesB rs)) ∧ Below w.heap.size w w' := by
  have HB0 : Hid (Below w.heap.size w (w.alloc (.cells #[.int .i64 W, .slice p rs.length c] 24))) := (Below.refl w.heap.size w).alloc (Nat.le_refl _) _
  have HI := hideS (contains_any p b off c rs _ (hs.below HB0.out) hl)
  generalize rs.length = N at *
  generalize movesB rs = M at *
  clear hs hl
  go_enter Try.func37, Try.ntmps37
  go_wp2_with (go_at_call 50; refine HI.out.mono ?_; rintro e w2 ⟨rfl, hb2⟩)
  go_ret
  exact ⟨rfl, HB0.out.trans (hb2.mono HB0.out.size)⟩

set_option maxHeartbeats 800000 in
theorem grow_zero (w : World) :
    Calls Try.prog 52 #[.slice none 0 0, .int .i64 0] w fun e w' => e = .returned (.slice none 0 0) ∧ w' = w := by
  go_enter Try.func52, Try.ntmps52
  go_wp2_with fail
  go_ret
  exact ⟨rfl, rfl⟩

set_option maxHeartbeats 1600000 in
theorem grow_nil (n : Nat) (w : World) (h0 : 0 < n) (hn : n ≤ 1000) :
    Calls Try.prog 52 #[.slice none 0 0, .int .i64 n] w fun e w' => ∃ g cap, e = .returned (.slice (some ⟨g, 0, none⟩) 0 cap) ∧ w'.ownsRow w.heap.size 47 9 (.slice (some ⟨g, 0, none⟩) 0 cap) 0 (rowC []) ∧ Below w.heap.size w w' := by
  obtain ⟨i0, hi, hz0, hz1, hz2⟩ := info_parts info_rule
  have hrz := fun ty => Lib.run_append_grow_zeros w 22 3 ty 47 i0 _ .i64 .i64 Try.underlying22 Try.underlying3 hi hz0 none 0 0 [] (run_firstCells_none w.drew i0.size 0 0 0) n h0 (by rw [hz1]; decide) (by omega) (by omega) (by rw [hz2]; omega) (by
    rw [Nat.zero_add, hz2]; exact growslice_fits (by omega) (by omega))
  have hge := grownCap_ge w (0 + n) 0 47
  have hle := grownCap_le_maxLen w (0 + n) 0 47 (by unfold maxLen; omega)
  generalize grownCap w (0 + n) 0 47 = G at *
  obtain ⟨cs, hcs⟩ : ∃ cs : Array Value, #[] ++ Builtin.zeroCells (Value.agg #[.int .i64 0, .int .i64 0, .int .i64 0, .int .i64 0, .int .i64 0, .int .i64 0, .int .i64 0, .int .i64 0, .int .i64 0]).cells n ++ Builtin.zeroCells (Value.agg #[.int .i64 0, .int .i64 0, .int .i64 0, .int .i64 0, .int .i64 0, .int .i64 0, .int .i64 0, .int .i64 0, .int .i64 0]).cells (G - (0 + n)) = cs := ⟨_, rfl⟩
  have hsz : cs.size = G * 9 := by
    rw [← hcs]
    simp only [Array.size_append, size_zeroCells]
    show 0 + n * 9 + (G - (0 + n)) * 9 = G * 9
    omega
  have hrz2 : ∀ ty, (Builtin.append_ #[22, 3] ty #[.slice none 0 0, .int .i64 n]).run Try.prog w = .ok (.slice (some ⟨w.heap.size, 0, none⟩) n G) (w.drew.alloc (.cells cs 47)) := fun ty => by
    have := hrz ty
    rw [Nat.zero_add] at this
    rw [← hcs, Nat.zero_add]
    exact this
  have hG : G ≤ 9223372036854775807 := by unfold maxLen at hle; omega
  have HCs := hideS hsz
  have HLe := hideS hle
  clear hrz hcs hi hz0 hz1 hz2 hsz hle
  rw [Nat.zero_add] at hge
  have h0' : (0 : Int) < n := by omega
  go_enter Try.func52, Try.ntmps52
  go_wp2_with (at_builtin; refine Lib.wpList_append_run _ rfl _ _ _ _ rfl _ _ rfl rfl _ _ (hrz2 _) ?_)
  go_ret
  refine ⟨w.heap.size, G, rfl, ⟨rfl, .inr ⟨w.heap.size, G, cs, rfl, Nat.le_refl _, heap_alloc_new w.drew _, Nat.zero_le _, HLe.out, HCs.out, rfl⟩⟩, ?_⟩
  exact Below.alloc (a := w) (w := w.drew) (Below.refl w.heap.size w).drew (Nat.le_refl _) _

/-- The pieces of Concat's two rounds. -/
def pieceN (N N' : Nat) : Nat → Nat
  | 0 => 0
  | 1 => N
  | _ => N + N'
def pieceR (rs rs' : List Rul) : Nat → List Rul
  | 0 => []
  | 1 => rs
  | _ => rs ++ rs'
theorem grown_below {w w' : World} {v : Value} {B n : Nat} {xs : List Value} (ho : w.ownsRow B 47 9 v n xs) (hg : w.grownBy w' v.ownBlock) (hB : B ≤ w.heap.size) : Below B w w' :=
  (Below.refl B w).grown hg hB (fun k hk => by
    rcases ho.2 with ⟨rfl, _⟩ | ⟨g, cap, cur, rfl, hbg, _⟩
    · cases hk
    · obtain rfl : g = k := by simpa [Value.ownBlock] using hk
      exact hbg)

set_option maxHeartbeats 3200000 in
theorem concat_any (p p' : Option Addr) (b off c b' off' c' N N' bs : Nat) (rs rs' : List Rul) (w : World) (hs : RSrc w p b off rs) (hs' : RSrc w p' b' off' rs') (hN : rs.length = N) (hN' : rs'.length = N') (hl : N ≤ 64) (hl' : N' ≤ 64) (hnil : p = none → N = 0 ∧ c = 0) (hnil' : p' = none → N' = 0 ∧ c' = 0)
    (hb : bs < w.heap.size) (c0 : w.cell? ⟨bs, 0, none⟩ = some (.slice p N c)) (c1 : w.cell? ⟨bs, 1, none⟩ = some (.slice p' N' c')) :
    Calls Try.prog 38 #[.slice (some ⟨bs, 0, none⟩) 2 2] w fun e w' => ∃ v, e = .returned v ∧ w'.ownsRow w.heap.size 47 9 v (N + N') (rowC (rs ++ rs')) ∧ Below w.heap.size w w' := by
  have HS := hideS hs
  have HS' := hideS hs'
  have HN := hideS hN
  have HN' := hideS hN'
  have HNil := hideS hnil
  have HNil' := hideS hnil'
  have HB := hideS hb
  have HGw : Hid (∀ wx, w.heap.size = wx.heap.size → Below w.heap.size w wx → Calls Try.prog 52 #[.slice none 0 0, .int .i64 ((N : Int) + (N' : Int))] wx fun e w' => ∃ v, e = .returned v ∧ (∃ q l k, v = .slice q l k) ∧ w'.ownsRow w.heap.size 47 9 v 0 (rowC []) ∧ Below w.heap.size w w') := fun wx hz hbx => by
    by_cases h0 : N + N' = 0
    · rw [show (N : Int) + (N' : Int) = 0 by omega]
      refine (grow_zero wx).mono ?_
      rintro e w' ⟨rfl, rfl⟩
      exact ⟨_, rfl, ⟨_, _, _, rfl⟩, own_nil _ _, hbx⟩
    · rw [show (N : Int) + (N' : Int) = ((N + N' : Nat) : Int) by omega]
      refine (grow_nil (N + N') wx (by omega) (by omega)).mono ?_
      rintro e w' ⟨g, cap, rfl, ho, hb2⟩
      rw [← hz] at ho hb2
      exact ⟨_, rfl, ⟨_, _, _, rfl⟩, ho, hbx.trans hb2⟩
  clear hs hs' hN hN' hnil hnil'
  go_enter Try.func38, Try.ntmps38
  go_wp2_with fail
  go_loop [3, 11] (fun z i => ∃ (k : Nat) (Z : Int), k ≤ 2 ∧ 0 ≤ Z ∧ Z ≤ 1000 ∧ i = .int .i64 k ∧ z = .int .i64 Z ∧ Hid (Z = (pieceN N N' k : Nat))) (fun _ i => 2 - (intOf i).toNat)
  case atStart => exact ⟨0, 0, by omega, by omega, by omega, rfl, rfl, rfl⟩
  case round =>
    obtain ⟨k, Z, hk, Z0, Z1, rfl, rfl, HZ⟩ := hrel
    rcases (show k = 0 ∨ k = 1 ∨ k = 2 by omega) with rfl | rfl | rfl
    · have hZ : Z = 0 := HZ.out
      subst hZ
      have n0 : ¬ (N : Int) < 0 := by omega
      go_wp2_with fail
      go_round
      case rel => exact ⟨1, N, by omega, by omega, by omega, rfl, by go_num, rfl⟩
      case measure => simp [intOf]
    · have hZ : Z = N := HZ.out
      subst hZ
      have n0 : ¬ (N : Int) + (N' : Int) < 0 := by omega
      go_wp2_with fail
      go_round
      case rel => exact ⟨2, (N : Int) + N', by omega, by omega, by omega, rfl, by go_num, by show _ = ((N + N' : Nat) : Int); omega⟩
      case measure => simp [intOf]
    · have hZ : Z = (N : Int) + (N' : Int) := by have := HZ.out; rw [this]; show ((N + N' : Nat) : Int) = _; omega
      subst hZ
      clear HZ Z0 Z1 hk
      go_wp2_with (go_at_call 52; refine (HGw.out _ rfl (Below.refl _ _)).mono ?_; rintro e w1 ⟨v1, rfl, ⟨q1, l1, k1, rfl⟩, ho1, hb1⟩)
      have HO1 := hideS ho1
      have HB1 := hideS hb1
      clear ho1 hb1
      go_loopw [6, 27] (fun v i wr => ∃ (k : Nat) (q : Option Addr) (l cc : Nat), k ≤ 2 ∧ i = .int .i64 k ∧ v = .slice q l cc ∧ Hid (wr.ownsRow w.heap.size 47 9 (.slice q l cc) (pieceN N N' k) (rowC (pieceR rs rs' k))) ∧ Hid (Below w.heap.size w wr)) (fun _ i _ => 2 - (intOf i).toNat)
      case atStart => exact ⟨0, q1, l1, k1, by omega, rfl, rfl, HO1, HB1⟩
      case round =>
        clear HO1 HB1
        obtain ⟨k, q, l, cc, hk, rfl, rfl, HO, HBw⟩ := hrel
        rcases (show k = 0 ∨ k = 1 ∨ k = 2 by omega) with rfl | rfl | rfl
        · have d0 : wr.cell? ⟨bs, 0, none⟩ = some (.slice p N c) := (HBw.out.cell (p := ⟨bs, 0, none⟩) HB.out).trans c0
          go_wp2_with (at_builtin; refine wpList_append_rules _ rfl (.tmp 31) (.tmp 32) rfl w.heap.size (.slice q l cc) 0 [] rfl HO.out p b off c N rs rfl HN.out (HS.out.below HBw.out) HNil.out (by omega) (by omega) HBw.out.size ?_; intro v5 w5 ho5 hg5; have HB5 := hideS (HBw.out.trans (grown_below HO.out hg5 HBw.out.size)); rw [Nat.zero_add, List.nil_append] at ho5; obtain ⟨p5, g5, c5, hv5, _, _, _, _⟩ := own_src ho5 HN.out; subst hv5; have HO5 := hideS ho5; clear ho5 hg5)
          go_roundw
          case rel => exact ⟨1, p5, N, c5, by omega, rfl, rfl, HO5, HB5⟩
          case measure => simp [intOf]
        · have d1 : wr.cell? ⟨bs, 1, none⟩ = some (.slice p' N' c') := (HBw.out.cell (p := ⟨bs, 1, none⟩) HB.out).trans c1
          go_wp2_with (at_builtin; refine wpList_append_rules _ rfl (.tmp 31) (.tmp 32) rfl w.heap.size (.slice q l cc) N rs rfl HO.out p' b' off' c' N' rs' rfl HN'.out (HS'.out.below HBw.out) HNil'.out (by omega) (by omega) HBw.out.size ?_; intro v5 w5 ho5 hg5; have HB5 := hideS (HBw.out.trans (grown_below HO.out hg5 HBw.out.size)); obtain ⟨p5, g5, c5, hv5, _, _, _, _⟩ := own_src ho5 (by rw [List.length_append, HN.out, HN'.out]); subst hv5; have HO5 := hideS ho5; clear ho5 hg5)
          go_roundw
          case rel => exact ⟨2, p5, N + N', c5, by omega, rfl, rfl, HO5, HB5⟩
          case measure => simp [intOf]
        · go_wp2_with fail
          go_ret
          exact ⟨_, rfl, HO.out, HBw.out⟩
end Go.Proofs.Ytglkhoekpafddaa
