/- What a quote is worth on a curve, and how a curve is built, in plain words. Factors up to some day do not hang on a curve's last node. The walk of InterpAt. The contracts of Factor, the program's and the document's. -/
import Derived.Test.YtphnainibdepbaaGreatHbe
import Derived.Test.YtphnainibdepbaaGreatHbq
import Derived.Test.YtphnainibdepbaaGreatHay
import Derived.Test.YtphnainibdepbaaGreatHbl
import Derived.Test.YtphnainibdepbaaGreatHav
import Derived.Test.YtphnainibdepbaaGreatHba
import Derived.Test.YtphnainibdepbaaGreatHbf
import Derived.Test.YtphnainibdepbaaGreatHbn
namespace Go.Proofs.YtphnainibdepbaaGreat
open Go.RowKit

theorem valS_lt (a : A.St) : A.valSt a < 18446744073709551616 := by
  have hv : ∀ N : Int, valF N < 18446744073709551616 := fun N => by
    unfold valF joinN
    have := nearR_le N.natAbs (-2148)
    split
    · decide
    · split <;> omega
  unfold A.valSt
  split
  · exact hv _
  · split
    · decide
    · split <;> decide
def accG (a : A.St) (am fa : Nat → Nat) : Nat → A.St
  | 0 => a
  | k + 1 => (accG a am fa k).merge (A.prodG (am k) (fa k))
def worO (kind : Int) (a : A.St) (am fa : Nat → Nat) (n f : Nat) : Option Nat := if kind = 1 then opO .sub (opO .mul (some f) (opO .add (some 4607182418800017408) (some (am (n - 1))))) (some 4607182418800017408) else some (A.valSt (((accG a am fa n).merge (A.oneS (f : Nat))).merge (A.oneS (13830554455654793216 : Nat))))
def setY (base kind : Int) (ds : List Int) : Int := if (ds.length : Int) - 2 - (if kind = 3 then 1 else 0) < 0 then base else ds.getD ((ds.length : Int) - 2 - (if kind = 3 then 1 else 0)).toNat 0
structure SetM (D : Int) (f : Nat → Int) (n M : Nat) : Prop where
  lt : M < n
  le : ∀ j < M, f j ≤ D
  gt : D < f M
theorem setM_ex {D : Int} {f : Nat → Int} : ∀ n, (∃ k < n, D < f k) → ∃ M, SetM D f n M
  | 0, ⟨k, hk, _⟩ => by omega
  | n + 1, ⟨k, hk, hD⟩ => by
    by_cases h : ∃ k < n, D < f k
    · obtain ⟨M, a, b, c⟩ := setM_ex n h
      exact ⟨M, by omega, b, c⟩
    · obtain rfl : k = n := by
        by_cases c : k < n
        · exact absurd ⟨k, c, hD⟩ h
        · omega
      exact ⟨k, by omega, fun j hj => by
        by_cases c : D < f j
        · exact absurd ⟨j, hj, c⟩ h
        · omega, hD⟩
noncomputable def metF (base kind W : Int) (rs : List Rul) (ds : List Int) (fs : List Nat) (q : Quo) (L : List Int) (n M a : Nat) : Option Nat :=
  worO q.kind (accG ⟨0, 0⟩ (fun j => (intF W rs q L j).am) (fun j => facV base kind ds (fs ++ [4607182418800017408]) (intF W rs q L j).day) M) (fun j => (intF W rs q L (M + j)).am) (fun j => facV base kind ds (fs ++ [a]) (intF W rs q L (M + j)).day) (n - M) (facV base kind ds (fs ++ [a]) q.fin)
inductive MetR (base kind W : Int) (rs : List Rul) (ds : List Int) (fs : List Nat) (q : Quo) : Int → Nat → Prop
  | cut (E : Int) (L : List Int) (h : CutR base q E L) (hE : E ≠ 0) : MetR base kind W rs ds fs q E 0
  | root (L : List Int) (n M X N : Nat) (E : Int) (hc : CutR base q 0 L) (hF : CutF base q n L) (hM : SetM (setY base kind ds) (fun j => L.getD (j + 1) 0) n M) (hV : rootV (fun a => (metF base kind W rs ds fs q L n M a).bind rkO) 4472074429978902528 4652218415073722368 = (X, N, E)) : MetR base kind W rs ds fs q E X
theorem metR_ex {base kind W : Int} {rs : List Rul} {ds : List Int} {fs : List Nat} {q : Quo} (ok : OkQ base q) (hS : setY base kind ds < q.fin) : ∃ E X, MetR base kind W rs ds fs q E X := by
  obtain ⟨E, L, hc⟩ := cutR_ex ok
  by_cases hE : E = 0
  · subst hE
    obtain ⟨n, hF⟩ := cutR_ok ok hc
    obtain ⟨M, hM⟩ := setM_ex (D := setY base kind ds) (f := fun j => L.getD (j + 1) 0) n ⟨n - 1, by have := hF.lo; omega, by have := hF.lo; show setY base kind ds < L.getD (n - 1 + 1) 0; rw [show n - 1 + 1 = n by omega, hF.lst]; exact hS⟩
    generalize hV : rootV (fun a => (metF base kind W rs ds fs q L n M a).bind rkO) 4472074429978902528 4652218415073722368 = V
    obtain ⟨X, N, E⟩ := V
    exact ⟨E, X, .root L n M X N E hc hF hM hV⟩
  · exact ⟨E, 0, .cut E L hc hE⟩
theorem agU_rk {o : Option Nat} {v : Nat} (h : AgU o v) : rkO v = o.bind rkO := by
  cases o with
  | none => exact rkO_nan h.1.1
  | some r => have : v = r := h.1; rw [this]; rfl
noncomputable def metV (base kind W : Int) (rs : List Rul) (ds : List Int) (fs : List Nat) (q : Quo) : Int × Nat := by
  classical
  exact if h : ∃ p : Int × Nat, MetR base kind W rs ds fs q p.1 p.2 then h.choose else (0, 0)
theorem metV_is {base kind W : Int} {rs : List Rul} {ds : List Int} {fs : List Nat} {q : Quo} (ok : OkQ base q) (hS : setY base kind ds < q.fin) : MetR base kind W rs ds fs q (metV base kind W rs ds fs q).1 (metV base kind W rs ds fs q).2 := by
  have h : ∃ p : Int × Nat, MetR base kind W rs ds fs q p.1 p.2 := by
    obtain ⟨E, X, h⟩ := metR_ex (W := W) (rs := rs) (fs := fs) ok hS
    exact ⟨(E, X), h⟩
  unfold metV
  rw [dif_pos h]
  exact h.choose_spec
def endL (qs : List Quo) (k : Nat) : List Int := (List.range k).map fun j => (qs.getD j quo0).fin
theorem endL_len (qs : List Quo) (k : Nat) : (endL qs k).length = k := by unfold endL; simp
theorem endL_succ (qs : List Quo) (k : Nat) : endL qs (k + 1) = endL qs k ++ [(qs.getD k quo0).fin] := by
  unfold endL; rw [List.range_succ, List.map_append]; rfl
theorem endL_at (qs : List Quo) {k j : Nat} (h : j < k) : (endL qs k).getD j 0 = (qs.getD j quo0).fin := by
  unfold endL; simp [List.getD, h]
noncomputable def bldV (base kind W : Int) (rs : List Rul) (qs : List Quo) : Nat → List Nat × Int × Nat
  | 0 => ([], 0, 0)
  | k + 1 => if (bldV base kind W rs qs k).2.1 ≠ 0 then bldV base kind W rs qs k else
    if (metV base kind W rs (endL qs (k + 1)) (bldV base kind W rs qs k).1 (qs.getD k quo0)).1 ≠ 0 then ([], (metV base kind W rs (endL qs (k + 1)) (bldV base kind W rs qs k).1 (qs.getD k quo0)).1, k)
    else ((bldV base kind W rs qs k).1 ++ [(metV base kind W rs (endL qs (k + 1)) (bldV base kind W rs qs k).1 (qs.getD k quo0)).2], 0, 0)
end Go.Proofs.YtphnainibdepbaaGreat
namespace Go.Proofs.YtphnainibdepbaaGreat
open Go.RowKit

def setT (kind : Int) (m : Nat) : Nat := if kind = 3 then m - 1 else m
theorem setY_node (base kind : Int) (ds : List Int) {m : Nat} (h : ds.length = m + 1) : setY base kind ds = prvC base ds (setT kind m) := by
  unfold setY setT
  rw [h]
  by_cases c : kind = 3
  · simp only [if_pos c]
    by_cases d : m < 2
    · rw [if_pos (by omega), show m - 1 = 0 by omega]; rfl
    · rw [if_neg (by omega)]
      obtain ⟨j, rfl⟩ : ∃ j, m = j + 2 := ⟨m - 2, by omega⟩
      rw [show (((j + 2 + 1 : Nat) : Int) - 2 - 1).toNat = j by omega, show j + 2 - 1 = j + 1 by omega]; rfl
  · simp only [if_neg c]
    by_cases d : m = 0
    · rw [if_pos (by omega), d]; rfl
    · rw [if_neg (by omega)]
      obtain ⟨j, rfl⟩ : ∃ j, m = j + 1 := ⟨m - 1, by omega⟩
      rw [show (((j + 1 + 1 : Nat) : Int) - 2 - 0).toNat = j by omega]; rfl
end Go.Proofs.YtphnainibdepbaaGreat
namespace Go.Proofs.YtphnainibdepbaaGreat
open Go.RowKit

end Go.Proofs.YtphnainibdepbaaGreat
namespace Go.Proofs.YtphnainibdepbaaGreat
open Go.RowKit

set_option maxRecDepth 20000 in
set_option maxHeartbeats 800000 in
theorem curFactor_bad (base kind x E : Int) (vd vf : Value) (w : World) (hE : E ≠ 0) (HC : Hid (∀ wx, Below w.heap.size w wx → Calls Tryz.prog 47 #[.agg #[.int .i64 base, .int .i64 kind, vd, vf]] wx fun e w' => e = .returned (.int .i64 E) ∧ Below wx.heap.size wx w')) :
    Calls Tryz.prog 35 #[.agg #[.int .i64 base, .int .i64 kind, vd, vf], .int .i64 x] w fun e w' => e = .returned (.tuple #[.float .f64 0, .int .i64 E]) ∧ Below w.heap.size w w' := by
  have HB := hideS (vboxA_at w base kind vd vf)
  have d1 : (E != 0) = true := bne_iff_ne.2 hE
  clear hE
  go_enter Tryz.func35, Tryz.ntmps35
  go_wp2_with (go_at_call 47; refine (HC.out _ HB.out.bl).mono ?_; rintro e w2 ⟨rfl, hb2⟩; have HB2 := hideS (HB.out.step hb2); clear hb2)
  go_ret2
  exact ⟨rfl, HB2.out.bl⟩
set_option maxRecDepth 20000 in
set_option maxHeartbeats 800000 in
theorem curFactor_go (base kind x E : Int) (V : Nat) (vd vf : Value) (w : World) (HC : Hid (∀ wx, Below w.heap.size w wx → Calls Tryz.prog 47 #[.agg #[.int .i64 base, .int .i64 kind, vd, vf]] wx fun e w' => e = .returned (.int .i64 0) ∧ Below wx.heap.size wx w'))
    (HT : Hid (∀ wx, Below w.heap.size w wx → Calls Tryz.prog 49 #[.agg #[.int .i64 base, .int .i64 kind, vd, vf]] wx fun e w' => ∃ gx lx cx gy ly cy, e = .returned (.agg #[.int .i64 kind, .slice (some ⟨gx, 0, none⟩) lx cx, .slice (some ⟨gy, 0, none⟩) ly cy]) ∧ Below wx.heap.size wx w' ∧ Hid (∀ wy, Below w'.heap.size w' wy → Calls Tryz.prog 48 #[.agg #[.int .i64 kind, .slice (some ⟨gx, 0, none⟩) lx cx, .slice (some ⟨gy, 0, none⟩) ly cy], .int .i64 x] wy fun e w'' => e = .returned (.tuple #[.float .f64 V, .int .i64 E]) ∧ Below wy.heap.size wy w''))) :
    Calls Tryz.prog 35 #[.agg #[.int .i64 base, .int .i64 kind, vd, vf], .int .i64 x] w fun e w' => e = .returned (.tuple #[.float .f64 V, .int .i64 E]) ∧ Below w.heap.size w w' := by
  have HB := hideS (vboxA_at w base kind vd vf)
  go_enter Tryz.func35, Tryz.ntmps35
  go_wp2_with fail
  refine (HC.out _ HB.out.bl).mono ?_
  rintro e w2 ⟨rfl, hb2⟩
  have HB2 := hideS (HB.out.step hb2)
  clear hb2 HB HC
  have t0 := HB2.out.t0
  have t1 := HB2.out.t1
  have t2 := HB2.out.t2
  have t3 := HB2.out.t3
  go_wp2_with fail
  refine (HT.out _ HB2.out.bl).mono ?_
  rintro e w3 ⟨gx, lx, cx, gy, ly, cy, rfl, hb3, HA⟩
  have HB3 := hideS (HB2.out.step hb3)
  clear hb3 HB2 HT t0 t1 t2 t3
  go_wp2_with fail
  refine (HA.out _ (Below.refl _ _)).mono ?_
  rintro e w4 ⟨rfl, hb4⟩
  have HB4 := hideS (HB3.out.step hb4)
  clear hb4 HB3 HA
  go_wp2_with fail
  go_ret2
  exact ⟨rfl, HB4.out.bl⟩
theorem ctX_len2 (base : Int) (ds : List Int) {n : Nat} (h : ds.length = n) : (ctX base ds).length = 1 + n := by rw [ctX_len, h, Nat.add_comm]
theorem ctY_len2 (fs : List Nat) {n : Nat} (h : fs.length = n) : (ctY fs).length = 1 + n := by rw [ctY_len, h, Nat.add_comm]
theorem curFactor_any (base kind x E : Int) (V : Nat) (pd pf : Option Addr) (bd od cd b2 o2 cf : Nat) (ds : List Int) (fs : List Nat) (w : World) (hs : TFl w pd pf bd od b2 o2 ds fs) (h : FacO base kind ds fs x V E) :
    Calls Tryz.prog 35 #[.agg #[.int .i64 base, .int .i64 kind, .slice pd ds.length cd, .slice pf fs.length cf], .int .i64 x] w fun e w' => e = .returned (.tuple #[.float .f64 V, .int .i64 E]) ∧ Below w.heap.size w w' := by
  cases h with
  | bad E h hE => exact curFactor_bad base kind x E _ _ w hE (fun wx hb => curCheck_any base kind pd pf bd od cd b2 o2 cf ds fs wx (hs.below hb) h)
  | ok ok V E hA =>
    refine curFactor_go base kind x E V _ _ w (fun wx hb => curCheck_any base kind pd pf bd od cd b2 o2 cf ds fs wx (hs.below hb) (.ok ok)) (fun wx hb => ?_)
    have lo := ok.lo
    have hl := ok.len
    have hs' := hs.below hb
    have hx := hs'.x
    have hy := hs'.y
    rw [hl] at hy ⊢
    obtain rfl := hx.at_ (by omega)
    obtain rfl := hy.at_ (by omega)
    refine (curTable_ok base kind bd od cd b2 o2 cf ds.length ds fs wx hx hy rfl hl lo ok.hi).mono fun e w' ⟨gx, cx, gy, cy, he, ox, oy, hbl⟩ => ⟨gx, 1 + ds.length, cx, gy, 1 + ds.length, cy, he, hbl, fun wy hwy => ?_⟩
    have ex := ctX_len2 base ds (n := ds.length) rfl
    have ey := ctY_len2 fs hl
    obtain ⟨g1, c1, q1, s1, _, _, _⟩ := kown_src (xs := ctX base ds) ox ex (by omega)
    obtain ⟨g2, c2, q2, s2, _, _, _⟩ := kfown_src (xs := ctY fs) oy ey (by omega)
    injection q1 with q1 _ _
    injection q1 with q1
    injection q1 with q1
    injection q2 with q2 _ _
    injection q2 with q2
    injection q2 with q2
    subst q1 q2
    have := intAt_any kind x E V (some ⟨gx, 0, none⟩) (some ⟨gy, 0, none⟩) gx 0 cx gy 0 cy (ctX base ds) (ctY fs) wy hA (TFl.below ⟨by rw [ex]; exact s1, by rw [ey]; exact s2, ctY_lt hs.f⟩ hwy)
    rw [ex, ey] at this
    exact this
end Go.Proofs.YtphnainibdepbaaGreat
