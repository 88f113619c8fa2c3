/- The contract of package interp's At. The law's awake: the document's example. Tables laid into a new box, cell by cell. -/
import Derived.Test.YtnmjljijgmmakabGreatHbg
namespace Go.Proofs.YtnmjljijgmmakabGreat
open Go.RowKit

/-- What At tells inside a piece. -/
noncomputable def pieV (kind : Int) (xs : List Int) (ys : List Nat) (k D : Nat) (i : Int) : Nat := if kind = 1 then ys.getD k 0 else if kind = 2 then linV ys k D i else if kind = 3 then cubV (ptL xs ys k) D i else logV lnW exW ys k D i
theorem pts_num {kind : Int} {xs : List Int} {ys : List Nat} {k : Nat} (h : OkT kind xs ys) (hf : ∀ i < ys.length, U64 (ys.getD i 0 : Nat)) (hk : k + 1 < xs.length) : ∃ a b c d, ptL xs ys k = [a, b, c, d] ∧ NumW a ∧ NumW b ∧ NumW c ∧ NumW d := by
  rcases Int.le_total (rankI (ys.getD k 0 : Nat)) (rankI (ys.getD (k + 1) 0 : Nat)) with hr | hr
  · obtain ⟨p, q, e, u⟩ := ptL_up h hf hk hr
    exact ⟨_, _, _, _, e, u.n0, u.n1, u.n2, u.n3⟩
  · obtain ⟨p, q, e, u⟩ := ptL_down h hf hk hr
    exact ⟨_, _, _, _, e, u.n0, u.n1, u.n2, u.n3⟩
theorem ln_progW {y : Nat} (h : NumW y) (hp : ltB 0 (y : Nat) = true) (w : World) : Calls Tryz.prog 88 #[.float .f64 y] w fun e w' => e = .returned (.float .f64 (lnW y)) ∧ Below w.heap.size w w' := by
  obtain ⟨h1, h2⟩ := ltB_pos h.lt hp
  obtain ⟨z, e, hz⟩ := (lnF_says h.lt).fin h.nb h2 h1
  refine ((lnF_says h.lt).prog w).mono fun er w' ⟨r, hr, g, hb⟩ => ⟨?_, hb⟩
  rw [hr]
  have e2 : lnW y = z := by unfold lnW; rw [if_pos h.lt, e, cn_some]
  rw [e] at g
  rw [e2, ag_some g.1]
theorem ex_progW {y : Nat} (hl : y < 18446744073709551616) (hn : nanB (y : Int) = false) (w : World) : Calls Tryz.prog 87 #[.float .f64 y] w fun e w' => e = .returned (.float .f64 (exW y)) ∧ Below w.heap.size w w' := by
  obtain ⟨z, e, hz⟩ := (expF_says hl).num hn
  refine ((expF_says hl).prog w).mono fun er w' ⟨r, hr, g, hb⟩ => ⟨?_, hb⟩
  rw [hr]
  have e2 : exW y = z := by unfold exW; rw [if_pos hl, e, cn_some]
  rw [e] at g
  rw [e2, ag_some g.1]
/-- The function of a kind, inside a piece. -/
theorem piece_any (kind x : Int) (px py : Option Addr) (bx ox cx b2 oy cy k D : Nat) (i : Int) (xs : List Int) (ys : List Nat) (w : World) (h : OkT kind xs ys) (hs : TFl w px py bx ox b2 oy xs ys) (hI : Inside xs x k D i) :
    Calls Tryz.prog (kindF kind) #[.agg #[.int .i64 kind, .slice px xs.length cx, .slice py ys.length cy], .int .i64 (k : Int), .int .i64 x] w fun e w' => e = .returned (.float .f64 (pieV kind xs ys k D i)) ∧ Below w.heap.size w w' := by
  have hk := hI.lt
  have hl := h.len
  have hh := h.hi
  have hD := inside_D h hI
  have i0 := hI.lo
  have i1 := hI.hi'
  have e1 := hI.hD
  have e2 := hI.hi
  have n0 := node_num h hs.u (show k < xs.length by omega)
  have n1 := node_num h hs.u hk
  have P := pie_of (kind := kind) (cx := cx) (cy := cy) hs hl hk
  have hpx := hs.x.at_ (by omega)
  have hpy := hs.y.at_ (by omega)
  obtain ⟨l, hl'⟩ : ∃ l : Nat, (D : Int) - i = (l : Int) := ⟨((D : Int) - i).toNat, by omega⟩
  obtain ⟨r, hr'⟩ : ∃ r : Nat, i = (r : Int) := ⟨i.toNat, by omega⟩
  unfold kindF pieV
  have k1 := h.k1
  have k4 := h.k4
  by_cases q1 : kind = 1
  · rw [if_pos q1, if_pos q1]
    exact flat_any kind x px py bx ox cx b2 oy cy k xs ys w (by omega) hs (by omega)
  · rw [if_neg q1, if_neg q1]
    by_cases q2 : kind = 2
    · rw [if_pos q2, if_pos q2]
      subst hpx hpy
      rw [hl] at P ⊢
      refine linear_walk kind x bx ox cx b2 oy cy xs.length k l r _ _ _ _ _ w _ rfl P hk (by omega) (by omega) (by omega) (by omega) (by omega) (fun wx => weighed_any l r D _ _ _ wx (by omega) (by omega) (by omega) (by omega) n0 n1 ?_)
      unfold linV
      rw [hl', hr']
    · rw [if_neg q2, if_neg q2]
      by_cases q3 : kind = 3
      · rw [if_pos q3, if_pos q3]
        obtain ⟨a, b, c, d, ep, na, nb, nc, nd⟩ := pts_num h hs.u hk
        obtain ⟨w1, w2, r1, r2, r3, s2, s3, t1, t2, m1, m2, hC⟩ := cubW_ex (D := (D : Int)) (i := i) (e := (D : Int) - i) (by omega) (by omega) (by omega) (by omega) (by omega) hD.2
        have hm2 : m2 = ((D * D * D : Nat) : Int) := by rw [← hC.hn2, ← hC.hn1]; simp
        rw [hm2] at hC
        have HP : Hid (∀ wx, Below w.heap.size w wx → Calls Tryz.prog 18 #[.agg #[.int .i64 kind, .slice px xs.length cx, .slice py ys.length cy], .int .i64 (k : Int)] wx fun e w' => e = .returned (.agg #[.float .f64 a, .float .f64 b, .float .f64 c, .float .f64 d]) ∧ Below wx.heap.size wx w') := fun wx hb => by
          have := points_any kind px py bx ox cx b2 oy cy k xs ys wx h (hs.below hb) hk
          rw [ep] at this
          exact this
        subst hpx hpy
        rw [hl] at P HP ⊢
        refine cubic_walk kind x bx ox cx b2 oy cy xs.length k D (D * D * D) _ _ i ((D : Int) - i) w1 w2 r1 r2 r3 s2 s3 t1 t2 m1 _ _ a b c d _ w _ rfl P hk (by omega) (by omega) (by omega) (by omega) (by omega) (by omega) (by omega) (by omega) hD.2 hC (Nat.mul_pos (Nat.mul_pos hD.1 hD.1) hD.1) na nb nc nd ?_ HP
        unfold cubV
        rw [ep, ← hC.hq2, ← hC.hq1, ← hC.hr3, ← hC.hr2, ← hC.hr1, ← hC.hs3, ← hC.hs2, ← hC.hr1, ← hC.ht2, ← hC.ht1]
      · rw [if_neg q3, if_neg q3]
        obtain rfl : kind = 4 := by omega
        have p0 := (node_fine (h.node k (by omega))).2.2.2.2 rfl
        have p1 := (node_fine (h.node (k + 1) hk)).2.2.2.2 rfl
        have l0 := ln_numW n0 p0
        have l1 := ln_numW n1 p1
        have hv : linV [lnW (ys.getD k 0), lnW (ys.getD (k + 1) 0)] 0 D i = overSt (wAt [(D : Int) - i, i] [lnW (ys.getD k 0), lnW (ys.getD (k + 1) 0)] 2) D := rfl
        have hlt : overSt (wAt [(D : Int) - i, i] [lnW (ys.getD k 0), lnW (ys.getD (k + 1) 0)] 2) D < 18446744073709551616 ∧ nanB (overSt (wAt [(D : Int) - i, i] [lnW (ys.getD k 0), lnW (ys.getD (k + 1) 0)] 2) D : Nat) = false := by
          rw [wAt_two (K := 1074) rfl ⟨by omega, by omega⟩ ⟨by omega, by omega⟩ l0.lt l0.nb l1.lt l1.nb, overSt_val]
          exact ⟨by have := (overG_rank (((D : Int) - i) * uI 1074 (lnW (ys.getD k 0)) + i * uI 1074 (lnW (ys.getD (k + 1) 0))) D).1.2; omega, (overG_rank _ D).2.1⟩
        subst hpx hpy
        rw [hl] at P ⊢
        refine logar_walk 4 x bx ox cx b2 oy cy xs.length k l r _ _ _ _ (lnW (ys.getD k 0)) (lnW (ys.getD (k + 1) 0)) _ (exW (overSt (wAt [(l : Int), (r : Int)] [lnW (ys.getD k 0), lnW (ys.getD (k + 1) 0)] 2) D)) _ w _ rfl P hk (by omega) (by omega) (by omega) (by omega) (by omega) (fun wx => ln_progW n0 p0 wx) (fun wx => ln_progW n1 p1 wx) (fun wx => weighed_any l r D _ _ _ wx (by omega) (by omega) (by omega) (by omega) l0 l1 rfl) ?_ ?_
        · rw [← hl', ← hr']
          exact fun wx => ex_progW hlt.1 hlt.2 wx
        · rw [← hl', ← hr']
          exact fun wx => heldP_any _ _ _ wx (exW_lt _) n0 n1

set_option maxHeartbeats 1600000 in
theorem intAt_bad (kind x E : Int) (F v1 v2 : Value) (w : World) (hE : E ≠ 0) (HC : Hid (∀ wx, Below w.heap.size w wx → Calls Tryz.prog 19 #[.agg #[.int .i64 kind, v1, v2]] wx fun e w' => e = .returned (.tuple #[F, .int .i64 E]) ∧ Below wx.heap.size wx w')) :
    Calls Tryz.prog 8 #[.agg #[.int .i64 kind, v1, v2], .int .i64 x] w fun e w' => e = .returned (.tuple #[.float .f64 0, .int .i64 E]) ∧ Below w.heap.size w w' := by
  have HB := hideS (abox_at w kind v1 v2)
  have hE' : (E != 0) = true := bne_iff_ne.2 hE
  clear hE
  go_enter Tryz.func8, Tryz.ntmps8
  go_wp2_with fail
  refine (HC.out _ HB.out.bl).mono ?_
  rintro e w1 ⟨rfl, hb1⟩
  have HB1 := hideS (HB.out.step hb1)
  clear hb1
  go_wp2_with fail
  go_ret2
  exact ⟨rfl, HB1.out.bl⟩

set_option maxRecDepth 20000 in
set_option maxHeartbeats 1600000 in
theorem intAt_out (kind x k E : Int) (F v1 v2 : Value) (w : World) (hE : E ≠ 0) (HC : Hid (∀ wx, Below w.heap.size w wx → Calls Tryz.prog 19 #[.agg #[.int .i64 kind, v1, v2]] wx fun e w' => e = .returned (.tuple #[F, .int .i64 0]) ∧ Below wx.heap.size wx w'))
    (HN : Hid (∀ wx, Below w.heap.size w wx → Calls Tryz.prog 20 #[v1, .int .i64 x] wx fun e w' => e = .returned (.tuple #[.int .i64 k, .int .i64 E]) ∧ Below wx.heap.size wx w')) :
    Calls Tryz.prog 8 #[.agg #[.int .i64 kind, v1, v2], .int .i64 x] w fun e w' => e = .returned (.tuple #[.float .f64 0, .int .i64 E]) ∧ Below w.heap.size w w' := by
  have HB := hideS (abox_at w kind v1 v2)
  have hE' : (E != 0) = true := bne_iff_ne.2 hE
  clear hE
  go_enter Tryz.func8, Tryz.ntmps8
  go_wp2_with fail
  refine (HC.out _ HB.out.bl).mono ?_
  rintro e w1 ⟨rfl, hb1⟩
  have HB1 := hideS (HB.out.step hb1)
  clear hb1
  have t1 := HB1.out.t1
  go_wp2_with fail
  refine (HN.out _ HB1.out.bl).mono ?_
  rintro e w2 ⟨rfl, hb2⟩
  have HB2 := hideS (HB1.out.step hb2)
  clear hb2 t1
  go_wp2_with fail
  go_ret2
  exact ⟨rfl, HB2.out.bl⟩

set_option maxRecDepth 20000 in
set_option maxHeartbeats 3200000 in
theorem intAt_in (kind x x0 : Int) (F : Nat) (bx ox cx b2 oy cy n k y V : Nat) (w : World) (hF : F = 62 ∨ F = 63 ∨ F = 64 ∨ F = 65) (hkn : k < n) (_hn : n ≤ 256) (hV : x0 = x → V = y)
    (HC : Hid (∀ wx, Below w.heap.size w wx → Calls Tryz.prog 19 #[.agg #[.int .i64 kind, .slice (some ⟨bx, ox, none⟩) n cx, .slice (some ⟨b2, oy, none⟩) n cy]] wx fun e w' => e = .returned (.tuple #[.func (.func F) #[] #[], .int .i64 0]) ∧ Below wx.heap.size wx w'))
    (HN : Hid (∀ wx, Below w.heap.size w wx → Calls Tryz.prog 20 #[.slice (some ⟨bx, ox, none⟩) n cx, .int .i64 x] wx fun e w' => e = .returned (.tuple #[.int .i64 (k : Int), .int .i64 0]) ∧ Below wx.heap.size wx w'))
    (HX : Hid (∀ wx, Below w.heap.size w wx → wx.cell? ⟨bx, ox + k, none⟩ = some (.int .i64 x0) ∧ wx.cell? ⟨b2, oy + k, none⟩ = some (.float .f64 y)))
    (HP : Hid (x0 ≠ x → ∀ wx, Below w.heap.size w wx → Calls Tryz.prog F #[.agg #[.int .i64 kind, .slice (some ⟨bx, ox, none⟩) n cx, .slice (some ⟨b2, oy, none⟩) n cy], .int .i64 (k : Int), .int .i64 x] wx fun e w' => e = .returned (.float .f64 V) ∧ Below wx.heap.size wx w')) :
    Calls Tryz.prog 8 #[.agg #[.int .i64 kind, .slice (some ⟨bx, ox, none⟩) n cx, .slice (some ⟨b2, oy, none⟩) n cy], .int .i64 x] w fun e w' => e = .returned (.tuple #[.float .f64 V, .int .i64 0]) ∧ Below w.heap.size w w' := by
  have HB := hideS (abox_at w kind (.slice (some ⟨bx, ox, none⟩) n cx) (.slice (some ⟨b2, oy, none⟩) n cy))
  have HV := hideS hV
  clear hV
  rcases hF with rfl | rfl | rfl | rfl
  all_goals
    go_enter Tryz.func8, Tryz.ntmps8
    go_wp2_with fail
    refine (HC.out _ HB.out.bl).mono ?_
    rintro e w1 ⟨rfl, hb1⟩
    have HB1 := hideS (HB.out.step hb1)
    clear hb1
    have t1 := HB1.out.t1
    go_wp2_with fail
    refine (HN.out _ HB1.out.bl).mono ?_
    rintro e w2 ⟨rfl, hb2⟩
    have HB2 := hideS (HB1.out.step hb2)
    clear hb2 t1
    have t0 := HB2.out.t0
    have t1 := HB2.out.t1
    have t2 := HB2.out.t2
    obtain ⟨c0, c1⟩ := HX.out _ HB2.out.bl
    by_cases hx : x0 = x
    · have hq : (x0 == x) = true := beq_iff_eq.2 hx
      obtain rfl := HV.out hx
      clear hx
      go_wp2_with fail
      go_ret2
      exact ⟨rfl, HB2.out.bl⟩
    · have hq : (x0 == x) = false := beq_eq_false_iff_ne.2 hx
      have HP' := hideS (HP.out hx)
      clear hx
      go_wp2_with fail
      refine (HP'.out _ HB2.out.bl).mono ?_
      rintro e w3 ⟨rfl, hb3⟩
      have HB3 := hideS (HB2.out.step hb3)
      clear hb3
      go_wp2_with fail
      go_ret2
      exact ⟨rfl, HB3.out.bl⟩
/-- What At tells. -/
inductive AtO (kind : Int) (xs : List Int) (ys : List Nat) (x : Int) : Nat → Int → Prop
  | err (k E : Int) (h : FindO kind xs ys x k E) (hE : E ≠ 0) : AtO kind xs ys x 0 E
  | node (k : Nat) (ok : OkT kind xs ys) (h : FindO kind xs ys x (k : Int) 0) (hk : FindR xs x k) (he : xs.getD k 0 = x) : AtO kind xs ys x (ys.getD k 0) 0
  | piece (k D : Nat) (i : Int) (ok : OkT kind xs ys) (h : FindO kind xs ys x (k : Int) 0) (hk : FindR xs x k) (he : xs.getD k 0 ≠ x) (hI : Inside xs x k D i) : AtO kind xs ys x (pieV kind xs ys k D i) 0
theorem atO_ex (kind : Int) (xs : List Int) (ys : List Nat) (x : Int) : ∃ V E, AtO kind xs ys x V E := by
  obtain ⟨k, E, h⟩ := findO_ex kind xs ys x
  by_cases hE : E = 0
  · subst hE
    generalize hz : (0 : Int) = z at h
    have h' := h
    cases h with
    | bad E h hE => exact absurd hz.symm hE
    | out h hx => cases hz
    | at_ ok hlo hhi k hk hj =>
      by_cases he : xs.getD k 0 = x
      · exact ⟨_, _, .node k ok h' hk he⟩
      · obtain ⟨D, i, hI⟩ := inside_ex hhi hk he
        exact ⟨_, _, .piece k D i ok h' hk he hI⟩
  · exact ⟨_, _, .err k E h hE⟩
theorem kindF_cases (kind : Int) : kindF kind = 62 ∨ kindF kind = 63 ∨ kindF kind = 64 ∨ kindF kind = 65 := by
  unfold kindF
  split
  · exact .inl rfl
  · split
    · exact .inr (.inl rfl)
    · split
      · exact .inr (.inr (.inl rfl))
      · exact .inr (.inr (.inr rfl))
theorem intAt_any (kind x E : Int) (V : Nat) (px py : Option Addr) (bx ox cx b2 oy cy : Nat) (xs : List Int) (ys : List Nat) (w : World) (h : AtO kind xs ys x V E) (hs : TFl w px py bx ox b2 oy xs ys) :
    Calls Tryz.prog 8 #[.agg #[.int .i64 kind, .slice px xs.length cx, .slice py ys.length cy], .int .i64 x] w fun e w' => e = .returned (.tuple #[.float .f64 V, .int .i64 E]) ∧ Below w.heap.size w w' := by
  have hC : ∀ E, TabR kind xs ys E → ∀ wx, Below w.heap.size w wx → Calls Tryz.prog 19 #[.agg #[.int .i64 kind, .slice px xs.length cx, .slice py ys.length cy]] wx fun e w' => e = .returned (.tuple #[chF kind E, .int .i64 E]) ∧ Below wx.heap.size wx w' := fun E hT wx hb => chosen_any kind E px py bx ox cx b2 oy cy xs ys wx hT (hs.below hb)
  have inn : ∀ k V, OkT kind xs ys → FindO kind xs ys x ((k : Nat) : Int) 0 → k < xs.length → (xs.getD k 0 = x → V = ys.getD k 0) → (xs.getD k 0 ≠ x → ∀ wx, Below w.heap.size w wx → Calls Tryz.prog (kindF kind) #[.agg #[.int .i64 kind, .slice px xs.length cx, .slice py ys.length cy], .int .i64 (k : Int), .int .i64 x] wx fun e w' => e = .returned (.float .f64 V) ∧ Below wx.heap.size wx w') → Calls Tryz.prog 8 #[.agg #[.int .i64 kind, .slice px xs.length cx, .slice py ys.length cy], .int .i64 x] w fun e w' => e = .returned (.tuple #[.float .f64 V, .int .i64 0]) ∧ Below w.heap.size w w' := fun k V ok hf hk hV hP => by
    have hC0 := hC 0 (.ok ok)
    have hN := fun wx (hb : Below w.heap.size w wx) => intNode_any kind x k 0 px py bx ox cx b2 oy xs ys wx ok hf (hs.below hb)
    have hX := fun wx (hb : Below w.heap.size w wx) => And.intro ((hs.below hb).x.cell k hk) ((hs.below hb).y.cell k (by rw [ok.len]; exact hk))
    have hl := ok.len
    obtain rfl := hs.x.at_ (by omega)
    obtain rfl := hs.y.at_ (by omega)
    rw [hl] at hC0 hP ⊢
    exact intAt_in kind x _ (kindF kind) bx ox cx b2 oy cy xs.length k _ V w (kindF_cases kind) hk ok.hi hV hC0 hN hX hP
  cases h with
  | err k E h hE =>
    have h' := h
    cases h with
    | bad E h hE => exact intAt_bad kind x E _ _ _ w hE (hC E h)
    | out ok hx => exact intAt_out kind x 0 51 _ _ _ w (by decide) (hC 0 (.ok ok)) (fun wx hb => intNode_any kind x 0 51 px py bx ox cx b2 oy xs ys wx ok h' (hs.below hb))
    | at_ ok hlo hhi k hk hj => exact absurd rfl hE
  | node k ok h hk he => exact inn k _ ok h hk.lt (fun _ => rfl) (fun c => absurd he c)
  | piece k D i ok h hk he hI => exact inn k _ ok h hk.lt (fun c => absurd c he) (fun _ wx hb => piece_any kind x px py bx ox cx b2 oy cy k D i xs ys wx ok (hs.below hb) hI)
end Go.Proofs.YtnmjljijgmmakabGreat
namespace Go.Proofs.YtnmjljijgmmakabGreat
open Go.RowKit

def awX : List Int := [0, 10, 20]
def awY : List Nat := [0, 4621819117588971520, 4630826316843712512]
theorem aw_ok : OkT 3 awX awY := ⟨by decide, by decide, by decide, by decide, rfl, fun i hi => by
  have hi' : i < 3 := hi
  rcases (show i = 0 ∨ i = 1 ∨ i = 2 by omega) with rfl | rfl | rfl <;> decide +kernel⟩
theorem aw_cub : cubV (ptL awX awY 0) 10 5 = 4616611830519824384 := by decide +kernel
theorem aw_slop : (slopL awX awY 3).getD 1 0 = 4609434218613702656 := by decide +kernel
theorem aw_pt : (ptL awX awY 1).getD 1 0 = 4624633867356078080 := by decide +kernel
theorem aw_at : AtO 3 awX awY 5 4616611830519824384 0 := by
  have hI : Inside awX 5 0 10 5 := ⟨by decide, by decide, by decide, by decide, by decide⟩
  have hk : FindR awX 5 0 := ⟨by decide, by decide, fun _ => by decide⟩
  have := AtO.piece (kind := 3) (xs := awX) (ys := awY) (x := 5) 0 10 5 aw_ok (.at_ aw_ok (by decide) (by decide) 0 hk (fun j hj => by omega)) hk (by decide) hI
  unfold pieV at this
  rw [if_neg (by decide), if_neg (by decide), if_pos rfl, aw_cub] at this
  exact this
theorem aw_find : FindO 3 awX awY 19 1 0 := .at_ aw_ok (by decide) (by decide) 1 ⟨by decide, by decide, fun _ => by decide⟩ (fun j hj => by
  obtain rfl : j = 0 := by omega
  exact ⟨by decide, by decide⟩)
def awOX : Obj := .cells #[.int .i64 0, .int .i64 10, .int .i64 20] 3
def awOY : Obj := .cells #[.float .f64 0, .float .f64 4621819117588971520, .float .f64 4630826316843712512] 31
def awOT : Obj := .cells #[.int .i64 0, .slice none 0 0, .slice none 0 0] 25
def aw3 (w : World) : World := ((w.alloc awOX).alloc awOY).alloc awOT
def aw4 (w w3 : World) : World := ((w3.setCell ⟨w.heap.size + 1 + 1, 0, none⟩ (.int .i64 3)).setCell ⟨w.heap.size + 1 + 1, 1, none⟩ (.slice (some ⟨w.heap.size, 0, none⟩) 3 3)).setCell ⟨w.heap.size + 1 + 1, 2, none⟩ (.slice (some ⟨w.heap.size + 1, 0, none⟩) 3 3)
/-- What awake has of its table. -/
structure AwB (w wr : World) : Prop where
  t0 : wr.cell? ⟨w.heap.size + 1 + 1, 0, none⟩ = some (.int .i64 3)
  t1 : wr.cell? ⟨w.heap.size + 1 + 1, 1, none⟩ = some (.slice (some ⟨w.heap.size, 0, none⟩) 3 3)
  t2 : wr.cell? ⟨w.heap.size + 1 + 1, 2, none⟩ = some (.slice (some ⟨w.heap.size + 1, 0, none⟩) 3 3)
  src : TFl wr (some ⟨w.heap.size, 0, none⟩) (some ⟨w.heap.size + 1, 0, none⟩) w.heap.size 0 (w.heap.size + 1) 0 awX awY
  bl : Below w.heap.size w wr
  lt : w.heap.size + 1 + 1 < wr.heap.size
theorem AwB.step {w wr w' : World} (h : AwB w wr) (hb : Below wr.heap.size wr w') : AwB w w' :=
  ⟨(hb.cell (p := ⟨w.heap.size + 1 + 1, 0, none⟩) h.lt).trans h.t0, (hb.cell (p := ⟨w.heap.size + 1 + 1, 1, none⟩) h.lt).trans h.t1, (hb.cell (p := ⟨w.heap.size + 1 + 1, 2, none⟩) h.lt).trans h.t2, h.src.below hb, h.bl.trans (hb.mono h.bl.size), Nat.lt_of_lt_of_le h.lt hb.size⟩
theorem aw3_facts (w : World) : ((aw3 w).heap.size = w.heap.size + 3 ∧ (aw3 w).heap[w.heap.size]? = some awOX ∧ (aw3 w).heap[w.heap.size + 1]? = some awOY ∧ (aw3 w).heap[w.heap.size + 1 + 1]? = some awOT) ∧ Below w.heap.size w (aw3 w) := by
  have s1 : (w.alloc awOX).heap.size = w.heap.size + 1 := by simp
  have s2 : ((w.alloc awOX).alloc awOY).heap.size = w.heap.size + 1 + 1 := by simp
  have b1 := (Below.refl (w.heap.size + 1) (w.alloc awOX)).alloc (by omega) awOY
  have b2 := (Below.refl (w.heap.size + 1 + 1) ((w.alloc awOX).alloc awOY)).alloc (by omega) awOT
  unfold aw3
  refine ⟨⟨by simp, ?_, ?_, ?_⟩, (((Below.refl _ _).alloc (Nat.le_refl _) _).alloc (by omega) _).alloc (by omega) _⟩
  · rw [b2.block _ (by omega), b1.block _ (by omega)]; exact heap_alloc_new _ _
  · rw [b2.block _ (by omega), ← s1]; exact heap_alloc_new _ _
  · rw [← s2]; exact heap_alloc_new _ _
theorem aw3_cells (w : World) : ((aw3 w).cell? ⟨w.heap.size + 1 + 1, 0, none⟩ = some (.int .i64 0) ∧ (aw3 w).cell? ⟨w.heap.size + 1 + 1, 1, none⟩ = some (.slice none 0 0) ∧ (aw3 w).cell? ⟨w.heap.size + 1 + 1, 2, none⟩ = some (.slice none 0 0)) ∧ ∀ i, (aw3 w).frozen? ⟨w.heap.size + 1 + 1, i, none⟩ = false := by
  have h := (aw3_facts w).1.2.2.2
  unfold awOT at h
  refine ⟨⟨?_, ?_, ?_⟩, fun i => frozen_of_row _ _ i _ _ h⟩
  all_goals
    simp only [World.cell?, h, Option.isSome_none, Bool.false_eq_true, if_false]
    rfl
theorem aw4_at (w : World) : AwB w (aw4 w (aw3 w)) := by
  obtain ⟨⟨hz, hx, hy, ht⟩, hb⟩ := aw3_facts w
  have B2 : Below (w.heap.size + 1 + 1) (aw3 w) (aw4 w (aw3 w)) := (((Below.refl _ (aw3 w)).setCell (p := ⟨w.heap.size + 1 + 1, 0, none⟩) (Nat.le_refl _) _).setCell (p := ⟨w.heap.size + 1 + 1, 1, none⟩) (Nat.le_refl _) _).setCell (p := ⟨w.heap.size + 1 + 1, 2, none⟩) (Nat.le_refl _) _
  unfold awOT at ht
  have h4 : (aw4 w (aw3 w)).heap[w.heap.size + 1 + 1]? = some (.cells #[.int .i64 3, .slice (some ⟨w.heap.size, 0, none⟩) 3 3, .slice (some ⟨w.heap.size + 1, 0, none⟩) 3 3] 25) := set_blockF _ (set_blockF _ (set_blockF _ ht))
  have hx' : (aw4 w (aw3 w)).heap[w.heap.size]? = some awOX := by rw [B2.block _ (by omega)]; exact hx
  have hy' : (aw4 w (aw3 w)).heap[w.heap.size + 1]? = some awOY := by rw [B2.block _ (by omega)]; exact hy
  have l4 := (Array.getElem?_eq_some_iff.1 h4).1
  unfold awOX at hx'
  unfold awOY at hy'
  refine ⟨?_, ?_, ?_, ⟨⟨fun _ => rfl, fun _ => by omega, fun j hj => ?_⟩, ⟨fun _ => rfl, fun _ => by omega, fun j hj => ?_⟩, fun i hi => ?_⟩, hb.trans (B2.mono (by omega)), l4⟩
  · simp only [World.cell?, h4, Option.isSome_none, Bool.false_eq_true, if_false]; rfl
  · simp only [World.cell?, h4, Option.isSome_none, Bool.false_eq_true, if_false]; rfl
  · simp only [World.cell?, h4, Option.isSome_none, Bool.false_eq_true, if_false]; rfl
  · have hj' : j < 3 := hj
    rcases (show j = 0 ∨ j = 1 ∨ j = 2 by omega) with rfl | rfl | rfl
    all_goals
      simp only [World.cell?, hx', Option.isSome_none, Bool.false_eq_true, if_false]
      rfl
  · have hj' : j < 3 := hj
    rcases (show j = 0 ∨ j = 1 ∨ j = 2 by omega) with rfl | rfl | rfl
    all_goals
      simp only [World.cell?, hy', Option.isSome_none, Bool.false_eq_true, if_false]
      rfl
  · have hi' : i < 3 := hi
    rcases (show i = 0 ∨ i = 1 ∨ i = 2 by omega) with rfl | rfl | rfl <;> decide

set_option maxRecDepth 40000 in
set_option maxHeartbeats 6400000 in
theorem awake10 (w : World) : Calls Tryz.prog 4 #[] w fun e w' => e = .returned (.bool true) ∧ Below w.heap.size w w' := by
  obtain ⟨⟨c0, c1, c2⟩, fz⟩ := aw3_cells w
  have z0 := fz 0
  have z1 := fz 1
  have z2 := fz 2
  have HS := hideS (aw3_facts w).1.1
  have HB := hideS (aw4_at w)
  clear fz
  obtain ⟨w3, hw3⟩ : ∃ w3, aw3 w = w3 := ⟨_, rfl⟩
  rw [hw3] at c0 c1 c2 z0 z1 z2 HB HS
  obtain ⟨w4, hw4⟩ : ∃ w4, aw4 w w3 = w4 := ⟨_, rfl⟩
  rw [hw4] at HB
  unfold aw3 awOX awOY awOT at hw3
  unfold aw4 at hw4
  have q1 : (FloatKind.f64.format.order 4616611830519824384 4616611830519824384 == some .eq) = true := by kernel_rfl
  have q2 : (FloatKind.f64.format.order 4609434218613702656 4609434218613702656 == some .eq) = true := by kernel_rfl
  have q3 : (FloatKind.f64.format.order 4624633867356078080 4624633867356078080 == some .eq) = true := by kernel_rfl
  have HAt : Hid (∀ wx, AwB w wx → Calls Tryz.prog 8 #[.agg #[.int .i64 3, .slice (some ⟨w.heap.size, 0, none⟩) 3 3, .slice (some ⟨w.heap.size + 1, 0, none⟩) 3 3], .int .i64 5] wx fun e w' => e = .returned (.tuple #[.float .f64 4616611830519824384, .int .i64 0]) ∧ Below wx.heap.size wx w') := fun wx hb => intAt_any 3 5 0 _ _ _ _ _ 3 _ _ 3 awX awY wx aw_at hb.src
  have HFi : Hid (∀ wx, AwB w wx → Calls Tryz.prog 15 #[.agg #[.int .i64 3, .slice (some ⟨w.heap.size, 0, none⟩) 3 3, .slice (some ⟨w.heap.size + 1, 0, none⟩) 3 3], .int .i64 19] wx fun e w' => e = .returned (.tuple #[.int .i64 1, .int .i64 0]) ∧ Below wx.heap.size wx w') := fun wx hb => intFind_any 3 19 1 0 _ _ _ _ 3 _ _ 3 awX awY wx aw_find hb.src
  have HSl : Hid (∀ wx, AwB w wx → Calls Tryz.prog 6 #[.agg #[.int .i64 3, .slice (some ⟨w.heap.size, 0, none⟩) 3 3, .slice (some ⟨w.heap.size + 1, 0, none⟩) 3 3]] wx fun e w' => ∃ g c, e = .returned (.tuple #[.slice (some ⟨g, 0, none⟩) 3 c, .int .i64 0]) ∧ (w'.cell? ⟨g, 1, none⟩ = some (.float .f64 4609434218613702656) ∧ g < w'.heap.size) ∧ Below wx.heap.size wx w') := fun wx hb => (intSlopes_ok 3 _ _ _ _ 3 _ _ 3 awX awY wx aw_ok hb.src).mono fun e w' ⟨v, he, ho, hl⟩ => by
    obtain ⟨p, g, c, rfl, hs, _⟩ := flown_src (n := 3) ho rfl
    obtain rfl := hs.at_ (by decide)
    have := hs.cell 1 (by decide)
    rw [show awX.length = 3 from rfl, aw_slop, Nat.zero_add] at this
    exact ⟨g, c, he, ⟨this, hs.lt (by decide)⟩, hl⟩
  have HPt : Hid (∀ wx, AwB w wx → Calls Tryz.prog 7 #[.agg #[.int .i64 3, .slice (some ⟨w.heap.size, 0, none⟩) 3 3, .slice (some ⟨w.heap.size + 1, 0, none⟩) 3 3], .int .i64 1] wx fun e w' => ∃ g, e = .returned (.tuple #[.slice (some ⟨g, 0, none⟩) 4 4, .int .i64 0]) ∧ w'.cell? ⟨g, 1, none⟩ = some (.float .f64 4624633867356078080) ∧ Below wx.heap.size wx w') := fun wx hb => (intPoints_ok 3 _ _ _ _ 3 _ _ 3 1 awX awY wx aw_ok hb.src (by decide)).mono fun e w' ⟨g, he, ⟨ha, _⟩, hl⟩ => by
    have := (arr4_cells ha).1.2.1
    rw [aw_pt] at this
    exact ⟨g, he, this, hl⟩
  have t0 := HB.out.t0
  have t1 := HB.out.t1
  have t2 := HB.out.t2
  go_enter Tryz.func4, Tryz.ntmps4
  go_wp2_with fail
  clear hw3 hw4 c0 c1 c2 z0 z1 z2 t0 t1 t2
  refine (HAt.out _ HB.out).mono ?_
  rintro e w5 ⟨rfl, hb5⟩
  have HB5 := hideS (HB.out.step hb5)
  clear hb5 HAt HB
  have t0 := HB5.out.t0
  have t1 := HB5.out.t1
  have t2 := HB5.out.t2
  go_wp2_with fail
  clear t0 t1 t2
  refine (HFi.out _ HB5.out).mono ?_
  rintro e w6 ⟨rfl, hb6⟩
  have HB6 := hideS (HB5.out.step hb6)
  clear hb6 HFi HB5
  have t0 := HB6.out.t0
  have t1 := HB6.out.t1
  have t2 := HB6.out.t2
  go_wp2_with fail
  clear t0 t1 t2
  refine (HSl.out _ HB6.out).mono ?_
  rintro e w7 ⟨g, c, rfl, ⟨hg, hgl⟩, hb7⟩
  have HB7 := hideS (HB6.out.step hb7)
  clear hb7 HSl HB6
  have t0 := HB7.out.t0
  have t1 := HB7.out.t1
  have t2 := HB7.out.t2
  go_wp2_with fail
  clear t0 t1 t2
  refine (HPt.out _ HB7.out).mono ?_
  rintro e w8 ⟨g', rfl, hg', hb8⟩
  have HB8 := hideS (HB7.out.step hb8).bl
  have hg8 := (hb8.cell (p := ⟨g, 1, none⟩) hgl).trans hg
  clear hb8 HPt HB7 hg hgl
  go_wp2_with fail
  go_ret
  exact ⟨rfl, HB8.out⟩
end Go.Proofs.YtnmjljijgmmakabGreat
namespace Go.Proofs.YtnmjljijgmmakabGreat
open Go.RowKit

def zero3 (t : TypeId) : Obj := .cells #[.int .i64 0, .slice none 0 0, .slice none 0 0] t
def set3 (w : World) (g : Nat) (k : Int) (vx vy : Value) : World := ((w.setCell ⟨g, 0, none⟩ (.int .i64 k)).setCell ⟨g, 1, none⟩ vx).setCell ⟨g, 2, none⟩ vy
/-- A box of three cells. -/
structure Box3 (w : World) (g : Nat) (k : Int) (vx vy : Value) : Prop where
  t0 : w.cell? ⟨g, 0, none⟩ = some (.int .i64 k)
  t1 : w.cell? ⟨g, 1, none⟩ = some vx
  t2 : w.cell? ⟨g, 2, none⟩ = some vy
  lt : g < w.heap.size
theorem Box3.step {w w' : World} {g : Nat} {k : Int} {vx vy : Value} (h : Box3 w g k vx vy) (hb : Below w.heap.size w w') : Box3 w' g k vx vy :=
  ⟨(hb.cell (p := ⟨g, 0, none⟩) h.lt).trans h.t0, (hb.cell (p := ⟨g, 1, none⟩) h.lt).trans h.t1, (hb.cell (p := ⟨g, 2, none⟩) h.lt).trans h.t2, Nat.lt_of_lt_of_le h.lt hb.size⟩
theorem zero3_cells (w : World) (t : TypeId) : ((w.alloc (zero3 t)).cell? ⟨w.heap.size, 0, none⟩ = some (.int .i64 0) ∧ (w.alloc (zero3 t)).cell? ⟨w.heap.size, 1, none⟩ = some (.slice none 0 0) ∧ (w.alloc (zero3 t)).cell? ⟨w.heap.size, 2, none⟩ = some (.slice none 0 0)) ∧ ∀ i, (w.alloc (zero3 t)).frozen? ⟨w.heap.size, i, none⟩ = false := by
  have h := heap_alloc_new w (zero3 t)
  unfold zero3 at h
  refine ⟨⟨by unfold zero3; simp, by unfold zero3; simp, by unfold zero3; simp⟩, fun i => frozen_of_row _ _ i _ _ h⟩
theorem set3_box (w : World) (t : TypeId) (k : Int) (vx vy : Value) : Box3 (set3 (w.alloc (zero3 t)) w.heap.size k vx vy) w.heap.size k vx vy ∧ Below w.heap.size w (set3 (w.alloc (zero3 t)) w.heap.size k vx vy) := by
  have h := heap_alloc_new w (zero3 t)
  unfold zero3 at h
  have h3 : (set3 (w.alloc (zero3 t)) w.heap.size k vx vy).heap[w.heap.size]? = some (.cells #[.int .i64 k, vx, vy] t) := set_blockF _ (set_blockF _ (set_blockF _ h))
  refine ⟨⟨?_, ?_, ?_, (Array.getElem?_eq_some_iff.1 h3).1⟩, ((((Below.refl _ w).alloc (Nat.le_refl _) _).setCell (p := ⟨w.heap.size, 0, none⟩) (Nat.le_refl _) _).setCell (p := ⟨w.heap.size, 1, none⟩) (Nat.le_refl _) _).setCell (p := ⟨w.heap.size, 2, none⟩) (Nat.le_refl _) _⟩
  all_goals
    simp only [World.cell?, h3, Option.isSome_none, Bool.false_eq_true, if_false]
    rfl
end Go.Proofs.YtnmjljijgmmakabGreat
