/- The contract of the document's Join where the calendars are joined. -/
import Derived.Test.YtglkhoekpafddaaCRefM
namespace Go.Proofs.Ytglkhoekpafddaa
open Go.RowKit

def orI (a b : Int) : Int := bits .or .i64 a b
/-- Behind Join's tests: the boxes stand, and neither Weekend nor Move forbids. -/
def joinFree (W W' : Int) (rs rs' : List Rul) : Prop := W = W' ∨ (W ≠ W' ∧ movesB rs = false ∧ movesB rs' = false)

theorem CBox3.stay {w wr w' : World} {W W' : Int} {v v' : Value} {B : Nat} (h : CBox3 w W v W' v' wr) (hb : Below B wr w') (hB : w.heap.size + 3 ≤ B) : CBox3 w W v W' v' w' := by
  have c : ∀ k < w.heap.size + 3, ∀ j, w'.cell? ⟨k, j, none⟩ = wr.cell? ⟨k, j, none⟩ := fun k hk j => hb.cell (p := ⟨k, j, none⟩) (by show k < B; omega)
  have f : ∀ k < w.heap.size + 3, ∀ j, w'.frozen? ⟨k, j, none⟩ = wr.frozen? ⟨k, j, none⟩ := fun k hk j => hb.frozen (p := ⟨k, j, none⟩) (by show k < B; omega)
  exact ⟨⟨(c _ (by omega) _).trans h.two.a0, (c _ (by omega) _).trans h.two.a1, (c _ (by omega) _).trans h.two.b0, (c _ (by omega) _).trans h.two.b1, h.two.bl.trans (hb.mono (by omega)), Nat.le_trans h.two.sz hb.size⟩, (c _ (by omega) _).trans h.d0, (c _ (by omega) _).trans h.d1, (f _ (by omega) _).trans h.f0, (f _ (by omega) _).trans h.f1, Nat.le_trans h.sz hb.size⟩
/-- Join's own calendar under way: its box at bt, its rules in a row behind it. -/
structure JoinM (w : World) (W : Int) (v : Value) (W' : Int) (v' : Value) (bt : Nat) (O : Int) (rs : List Rul) (n : Nat) (vc u : Value) (wr : World) : Prop where
  box : CBox3 w W v W' v' wr
  own : wr.ownsRow (bt + 1) 47 9 vc n (rowC rs)
  t0 : wr.cell? ⟨bt, 0, none⟩ = some (.int .i64 O)
  t1 : wr.cell? ⟨bt, 1, none⟩ = some u
  tf : wr.frozen? ⟨bt, 1, none⟩ = false
  lt : bt < wr.heap.size
  lo : w.heap.size + 3 ≤ bt
theorem join_one {w wm w5 : World} {W W' O : Int} {v v' v5 : Value} {rs : List Rul} {n : Nat} (h : CBox3 w W v W' v' wm) (ho : w5.ownsRow (wm.heap.size + 1) 47 9 v5 n (rowC rs)) (hg : (wm.alloc (.cells #[.int .i64 O, .slice none 0 0] 24)).grownBy w5 none) :
    JoinM w W v W' v' wm.heap.size O rs n v5 (.slice none 0 0) w5 := by
  have hb := (Below.refl (wm.alloc (.cells #[.int .i64 O, .slice none 0 0] 24)).heap.size _).grown hg (Nat.le_refl _) (fun k hk => by cases hk)
  refine ⟨(h.step ((Below.refl _ wm).alloc (Nat.le_refl _) _)).step hb, ho, (hb.cell (p := ⟨wm.heap.size, 0, none⟩) (by simp)).trans (by simp), (hb.cell (p := ⟨wm.heap.size, 1, none⟩) (by simp)).trans (by simp), (hb.frozen (p := ⟨wm.heap.size, 1, none⟩) (by simp)).trans (World.frozen?_alloc_new _ _ _ _), ?_, h.sz⟩
  have := hb.size
  simp at this
  omega
theorem join_set {w wr : World} {W W' O : Int} {v v' vc u : Value} {bt n : Nat} {rs : List Rul} (h : JoinM w W v W' v' bt O rs n vc u wr) (x : Value) : JoinM w W v W' v' bt O rs n vc x (wr.setCell ⟨bt, 1, none⟩ x) := by
  have hb : Below bt wr (wr.setCell ⟨bt, 1, none⟩ x) := (Below.refl bt wr).setCell (p := ⟨bt, 1, none⟩) (Nat.le_refl _) x
  refine ⟨h.box.stay hb h.lo, ownsRow_setCell_below h.own (show bt < bt + 1 by omega) x, ?_, ?_, ?_, Nat.lt_of_lt_of_le h.lt hb.size, h.lo⟩
  · have e := h.t0
    simp [e, go_sem]
  · have e := h.t1
    simp [e, go_sem]
  · have e := h.tf
    simp [e, go_sem]
theorem join_two {w wr w6 : World} {W W' O : Int} {v v' vc u v6 : Value} {bt n m : Nat} {rs rs2 : List Rul} (h : JoinM w W v W' v' bt O rs n vc u wr) (ho : w6.ownsRow (bt + 1) 47 9 v6 m (rowC rs2)) (hg : wr.grownBy w6 vc.ownBlock) : JoinM w W v W' v' bt O rs2 m v6 u w6 := by
  have hr := World.ownsRow.lt h.own
  have hb := (Below.refl (bt + 1) wr).grown hg (by have := h.lt; omega) (fun k hk => (hr k hk).1)
  exact ⟨h.box.stay hb (by have := h.lo; omega), ho, (hb.cell (p := ⟨bt, 0, none⟩) (by show bt < bt + 1; omega)).trans h.t0, (hb.cell (p := ⟨bt, 1, none⟩) (by show bt < bt + 1; omega)).trans h.t1, (hb.frozen (p := ⟨bt, 1, none⟩) (by show bt < bt + 1; omega)).trans h.tf, Nat.lt_of_lt_of_le h.lt hb.size, h.lo⟩
theorem slice_inj {p p' : Option Addr} {n n' c c' : Nat} (h : Value.slice p n c = Value.slice p' n' c') : p = p' ∧ n = n' ∧ c = c' := by cases h; exact ⟨rfl, rfl, rfl⟩
/-- The joined rules, wherever Join's own calendar stands. -/
theorem JoinM.src {w wr : World} {W W' O : Int} {v v' u : Value} {bt n c : Nat} {p : Option Addr} {rs : List Rul} (h : JoinM w W v W' v' bt O rs n (.slice p n c) u wr) (hn : rs.length = n) : ∃ g, RSrc wr p g 0 rs ∧ bt + 1 ≤ g := by
  obtain ⟨p7, g7, c7, hv, hsrc, hlo, _, _⟩ := own_src h.own hn
  obtain ⟨rfl, _, _⟩ := slice_inj hv
  exact ⟨g7, hsrc, hlo⟩
theorem JoinM.src2 {w wr : World} {W W' O : Int} {v v' u x y : Value} {bt n c : Nat} {p : Option Addr} {rs : List Rul} (h : JoinM w W v W' v' bt O rs n (.slice p n c) u wr) (hn : rs.length = n) : ∃ g, RSrc ((wr.setCell ⟨w.heap.size + 1 + 1, 0, none⟩ x).setCell ⟨w.heap.size + 1 + 1, 1, none⟩ y) p g 0 rs ∧ w.heap.size ≤ g := by
  have hl := h.lo
  have o1 := ownsRow_setCell_below h.own (a := ⟨w.heap.size + 1 + 1, 0, none⟩) (show w.heap.size + 1 + 1 < bt + 1 by omega) x
  have o2 := ownsRow_setCell_below o1 (a := ⟨w.heap.size + 1 + 1, 1, none⟩) (show w.heap.size + 1 + 1 < bt + 1 by omega) y
  obtain ⟨p7, g7, c7, hv, hsrc, hlo, _, _⟩ := own_src o2 hn
  obtain ⟨rfl, _, _⟩ := slice_inj hv
  exact ⟨g7, hsrc, by omega⟩
theorem join_step {w wr w' : World} {W W' O : Int} {v v' vc u : Value} {bt n : Nat} {rs : List Rul} (h : JoinM w W v W' v' bt O rs n vc u wr) (hb : Below wr.heap.size wr w') : JoinM w W v W' v' bt O rs n vc u w' :=
  ⟨h.box.step hb, by
    rcases h.own with ⟨a, c | ⟨g, cap, cur, hv, hg, hh, r⟩⟩
    · exact ⟨a, Or.inl c⟩
    · exact ⟨a, Or.inr ⟨g, cap, cur, hv, hg, by rw [hb.block g (Array.getElem?_eq_some_iff.1 hh).1]; exact hh, r⟩⟩, (hb.cell (p := ⟨bt, 0, none⟩) h.lt).trans h.t0, (hb.cell (p := ⟨bt, 1, none⟩) h.lt).trans h.t1, (hb.frozen (p := ⟨bt, 1, none⟩) h.lt).trans h.tf, Nat.lt_of_lt_of_le h.lt hb.size, h.lo⟩

set_option maxRecDepth 10000 in
set_option maxHeartbeats 6400000 in
theorem refJoin_on (W W' : Int) (p p' : Option Addr) (b off c b' off' c' N N' : Nat) (rs rs' : List Rul) (A B : Int) (w : World) (H : Hid (JoinH w W W' p p' c c' rs rs' N N')) (hf : joinFree W W' rs rs') (hN : Hid (rs.length = N)) (hN' : Hid (rs'.length = N')) (hl : N ≤ 64) (hl' : N' ≤ 64) (hs : Hid (RSrc w p b off rs)) (hs' : Hid (RSrc w p' b' off' rs')) (hnil : Hid (p = none → N = 0 ∧ c = 0)) (hnil' : Hid (p' = none → N' = 0 ∧ c' = 0)) (hchk : Hid (ChkR (orI W W') (rs ++ rs') A B)) :
    Calls Try.prog 25 #[.agg #[.int .i64 W, .slice p N c], .agg #[.int .i64 W', .slice p' N' c']] w fun e w' => Below w.heap.size w w' ∧ ((A ≠ 0 ∧ e = .returned (.tuple #[.agg #[.int .i64 0, .slice none 0 0], .int .i64 A])) ∨
      (A = 0 ∧ ∃ p2 g c2, e = .returned (.tuple #[.agg #[.int .i64 (orI W W'), .slice p2 (N + N') c2], .int .i64 0]) ∧ RSrc w' p2 g 0 (rs ++ rs') ∧ w.heap.size ≤ g)) := by
  have HC := hideS H.out.chk
  have HC' := hideS H.out.chk'
  have HM := hideS H.out.mov
  have HM' := hideS H.out.mov'
  have hor : ∀ x, bits .or .i64 W W' = x → x = orI W W' := fun x e => e.symm
  have HB0 := hideS (CBox3.first w W (.slice p N c) W' (.slice p' N' c'))
  clear H
  have hf' : (W = W') ∨ ((W != W') = true ∧ movesB rs = false ∧ movesB rs' = false) := by
    rcases hf with e | ⟨e, f⟩
    · exact Or.inl e
    · exact Or.inr ⟨bne_iff_ne.2 e, f⟩
  clear hf
  generalize hO : bits .or .i64 W W' = O at hor
  have HOr := hideS (hor O rfl)
  clear hor
  rcases hf' with rfl | ⟨hW, m1, m2⟩
  · go_enter Try.func25, Try.ntmps25
    go_wp2_with fail
    refine (HC.out _ HB0.out.two.bl).mono ?_
    rintro e w1 ⟨rfl, hb1⟩
    have HB1 := hideS (HB0.out.step hb1)
    clear hb1
    have b0 := HB1.out.two.b0
    have b1 := HB1.out.two.b1
    go_wp2_with fail
    refine (HC'.out _ HB1.out.two.bl).mono ?_
    rintro e w2 ⟨rfl, hb2⟩
    have HB2 := hideS (HB1.out.step hb2)
    clear hb2 b0 b1
    have a0 := HB2.out.two.a0
    have a1 := HB2.out.two.a1
    have b0 := HB2.out.two.b0
    have b1 := HB2.out.two.b1
    have al : ∀ o, (w2.alloc o).cell? ⟨w.heap.size, 1, none⟩ = some (.slice p N c) := fun o => (old_cell o ⟨w.heap.size, 1, none⟩ (by have := HB2.out.sz; show w.heap.size < _; omega)).trans a1
    have HWA : Hid (∀ o, RSrc (w2.alloc o) p b off rs) := fun o => hs.out.below (HB2.out.step ((Below.refl _ w2).alloc (Nat.le_refl _) o)).two.bl
    go_wp2_with (first | (at_builtin; refine wpList_append_rules _ rfl (.tmp 52) (.tmp 54) rfl (w2.heap.size + 1) (.slice none 0 0) 0 [] rfl (own_nil _ _) p b off c N rs rfl hN.out (HWA.out _) hnil.out (by omega) (by omega) (by simp) ?_; intro v5 w5 ho5 hg5; rw [Nat.zero_add, List.nil_append] at ho5; have J5 := hideS (join_one HB2.out ho5 hg5); obtain ⟨p5, g5, c5, hv5, _, _, _, _⟩ := own_src ho5 hN.out; subst hv5; have t1 := J5.out.t1; have tf := J5.out.tf; have JS5 := hideS (join_set J5.out (.slice p5 N c5)); have s1 := JS5.out.t1; have s2 := JS5.out.box.two.b1; clear ho5 hg5 al a0 a1 b0 b1) | (at_builtin; refine wpList_append_rules _ rfl (.tmp 58) (.tmp 60) rfl (w2.heap.size + 1) _ N rs rfl JS5.out.own p' b' off' c' N' rs' rfl hN'.out (hs'.out.below JS5.out.box.two.bl) hnil'.out (by omega) (by omega) (by have := JS5.out.lt; omega) ?_; intro v6 w6 ho6 hg6; have J6 := hideS (join_two JS5.out ho6 hg6); obtain ⟨p6, g6, c6, hv6, hsrc6, hlo6, _, _⟩ := own_src ho6 (by rw [List.length_append, hN.out, hN'.out]); subst hv6; have u1 := J6.out.t1; have uf := J6.out.tf; have JS6 := hideS (join_set J6.out (.slice p6 (N + N') c6)); have x0 := JS6.out.t0; have x1 := JS6.out.t1; clear ho6 hg6 t1 tf s1 s2))
    obtain ⟨gx, hsx, _⟩ := JS6.out.src (by rw [List.length_append, hN.out, hN'.out])
    have hck := refCheck_any (orI W W) p6 gx 0 c6 (rs ++ rs') A B _ hchk.out hsx (by rw [List.length_append, hN.out, hN'.out]; omega)
    rw [List.length_append, hN.out, hN'.out, ← HOr.out] at hck
    have HCk := hideS hck
    clear hck hsx x0 x1 u1 uf
    refine HCk.out.mono ?_
    rintro e w7 ⟨rfl, hb7⟩
    have J7 := hideS (join_step JS6.out hb7)
    clear hb7 HCk
    obtain ⟨_, d0, d1, f0, f1, _⟩ := J7.out.box
    have y0 := J7.out.t0
    have y1 := J7.out.t1
    by_cases hA : A = 0
    · subst hA
      go_wp2_with fail
      obtain ⟨x0, x1⟩ := put2 (x := .int .i64 O) (y := .slice p6 (N + N') c6) d0 d1
      obtain ⟨g8, hs8, hl8⟩ := J7.out.src2 (x := .int .i64 O) (y := .slice p6 (N + N') c6) (by rw [List.length_append, hN.out, hN'.out])
      exact bodyPost_ret (v := .tuple #[.agg #[.int .i64 O, .slice p6 (N + N') c6], .int .i64 0]) (by simp [results, Try.results25, go_sem, x0, x1]) rfl ⟨put2_below J7.out.box.two.bl, p6, ⟨c6, by rw [← HOr.out]⟩, g8, hs8, hl8⟩
    · have hA' : (A != 0) = true := bne_iff_ne.2 hA
      go_wp2_with fail
      obtain ⟨x0, x1⟩ := put2 (x := .int .i64 0) (y := .slice none 0 0) d0 d1
      exact bodyPost_ret (v := .tuple #[.agg #[.int .i64 0, .slice none 0 0], .int .i64 A]) (by simp [results, Try.results25, go_sem, x0, x1]) rfl ⟨put2_below J7.out.box.two.bl, Or.inl ⟨hA, rfl⟩⟩
  · go_enter Try.func25, Try.ntmps25
    go_wp2_with fail
    refine (HC.out _ HB0.out.two.bl).mono ?_
    rintro e w1 ⟨rfl, hb1⟩
    have HB1 := hideS (HB0.out.step hb1)
    clear hb1
    have b0 := HB1.out.two.b0
    have b1 := HB1.out.two.b1
    go_wp2_with fail
    refine (HC'.out _ HB1.out.two.bl).mono ?_
    rintro e w2 ⟨rfl, hb2⟩
    have HB2 := hideS (HB1.out.step hb2)
    clear hb2 b0 b1
    have a0 := HB2.out.two.a0
    have a1 := HB2.out.two.a1
    have b0 := HB2.out.two.b0
    have b1 := HB2.out.two.b1
    go_wp2_with fail
    rw [m1] at HM
    rw [m2] at HM'
    refine (HM.out _ HB2.out.two.bl).mono ?_
    rintro e w3 ⟨rfl, hb3⟩
    have HB3 := hideS (HB2.out.step hb3)
    clear hb3 a0 a1 b0 b1
    have b0 := HB3.out.two.b0
    have b1 := HB3.out.two.b1
    go_wp2_with fail
    refine (HM'.out _ HB3.out.two.bl).mono ?_
    rintro e w4 ⟨rfl, hb4⟩
    have HB4 := hideS (HB3.out.step hb4)
    clear hb4 b0 b1
    have a0 := HB4.out.two.a0
    have a1 := HB4.out.two.a1
    have b0 := HB4.out.two.b0
    have b1 := HB4.out.two.b1
    have al : ∀ o, (w4.alloc o).cell? ⟨w.heap.size, 1, none⟩ = some (.slice p N c) := fun o => (old_cell o ⟨w.heap.size, 1, none⟩ (by have := HB4.out.sz; show w.heap.size < _; omega)).trans a1
    have HWA : Hid (∀ o, RSrc (w4.alloc o) p b off rs) := fun o => hs.out.below (HB4.out.step ((Below.refl _ w4).alloc (Nat.le_refl _) o)).two.bl
    go_wp2_with (first | (at_builtin; refine wpList_append_rules _ rfl (.tmp 52) (.tmp 54) rfl (w4.heap.size + 1) (.slice none 0 0) 0 [] rfl (own_nil _ _) p b off c N rs rfl hN.out (HWA.out _) hnil.out (by omega) (by omega) (by simp) ?_; intro v5 w5 ho5 hg5; rw [Nat.zero_add, List.nil_append] at ho5; have J5 := hideS (join_one HB4.out ho5 hg5); obtain ⟨p5, g5, c5, hv5, _, _, _, _⟩ := own_src ho5 hN.out; subst hv5; have t1 := J5.out.t1; have tf := J5.out.tf; have JS5 := hideS (join_set J5.out (.slice p5 N c5)); have s1 := JS5.out.t1; have s2 := JS5.out.box.two.b1; clear ho5 hg5 al a0 a1 b0 b1) | (at_builtin; refine wpList_append_rules _ rfl (.tmp 58) (.tmp 60) rfl (w4.heap.size + 1) _ N rs rfl JS5.out.own p' b' off' c' N' rs' rfl hN'.out (hs'.out.below JS5.out.box.two.bl) hnil'.out (by omega) (by omega) (by have := JS5.out.lt; omega) ?_; intro v6 w6 ho6 hg6; have J6 := hideS (join_two JS5.out ho6 hg6); obtain ⟨p6, g6, c6, hv6, hsrc6, hlo6, _, _⟩ := own_src ho6 (by rw [List.length_append, hN.out, hN'.out]); subst hv6; have u1 := J6.out.t1; have uf := J6.out.tf; have JS6 := hideS (join_set J6.out (.slice p6 (N + N') c6)); have x0 := JS6.out.t0; have x1 := JS6.out.t1; clear ho6 hg6 t1 tf s1 s2))
    obtain ⟨gx, hsx, _⟩ := JS6.out.src (by rw [List.length_append, hN.out, hN'.out])
    have hck := refCheck_any (orI W W') p6 gx 0 c6 (rs ++ rs') A B _ hchk.out hsx (by rw [List.length_append, hN.out, hN'.out]; omega)
    rw [List.length_append, hN.out, hN'.out, ← HOr.out] at hck
    have HCk := hideS hck
    clear hck hsx x0 x1 u1 uf
    refine HCk.out.mono ?_
    rintro e w7 ⟨rfl, hb7⟩
    have J7 := hideS (join_step JS6.out hb7)
    clear hb7 HCk
    obtain ⟨_, d0, d1, f0, f1, _⟩ := J7.out.box
    have y0 := J7.out.t0
    have y1 := J7.out.t1
    by_cases hA : A = 0
    · subst hA
      go_wp2_with fail
      obtain ⟨x0, x1⟩ := put2 (x := .int .i64 O) (y := .slice p6 (N + N') c6) d0 d1
      obtain ⟨g8, hs8, hl8⟩ := J7.out.src2 (x := .int .i64 O) (y := .slice p6 (N + N') c6) (by rw [List.length_append, hN.out, hN'.out])
      exact bodyPost_ret (v := .tuple #[.agg #[.int .i64 O, .slice p6 (N + N') c6], .int .i64 0]) (by simp [results, Try.results25, go_sem, x0, x1]) rfl ⟨put2_below J7.out.box.two.bl, p6, ⟨c6, by rw [← HOr.out]⟩, g8, hs8, hl8⟩
    · have hA' : (A != 0) = true := bne_iff_ne.2 hA
      go_wp2_with fail
      obtain ⟨x0, x1⟩ := put2 (x := .int .i64 0) (y := .slice none 0 0) d0 d1
      exact bodyPost_ret (v := .tuple #[.agg #[.int .i64 0, .slice none 0 0], .int .i64 A]) (by simp [results, Try.results25, go_sem, x0, x1]) rfl ⟨put2_below J7.out.box.two.bl, Or.inl ⟨hA, rfl⟩⟩
end Go.Proofs.Ytglkhoekpafddaa
