/- The walk of CodeLent over what it calls. Package code: the trimmer's take, whatever the op. Package code: the trimmer's take of an op whose mark goes with it. -/
import Derived.Test.YtienedhaogjahaaGreatDoorHbk
import Derived.Test.YtienedhaogjahaaGreatDoorHbj
namespace Go.Proofs.YtienedhaogjahaaGreatDoor
open Go.RowKit

structure PkL (B N KA KB KC : Nat) (XO XD XA XB XC : List Value) (vo vd vb vt vq : Value) (w : World) : Prop where
  own : w.ownsRow B 47 9 vo (N + 1) XO
  doc : w.ownsRow B 66 9 vd N XD
  tri : w.ownsRow B 47 9 vb KA XA
  bac : w.ownsRow B 50 11 vt KB XB
  com : w.ownsRow B 47 9 vq KC XC
theorem PkL.below {B N KA KB KC : Nat} {XO XD XA XB XC : List Value} {vo vd vb vt vq : Value} {w w' : World} (h : PkL B N KA KB KC XO XD XA XB XC vo vd vb vt vq w) (hb : Below w.heap.size w w') : PkL B N KA KB KC XO XD XA XB XC vo vd vb vt vq w' :=
  ⟨orow_below h.own hb, orow_below h.doc hb, orow_below h.tri hb, orow_below h.bac hb, orow_below h.com hb⟩
theorem PkL.wr {B N KA KB KC lo hi : Nat} {XO XD XA XB XC : List Value} {vo vd vb vt vq : Value} {w w' : World} (h : PkL B N KA KB KC XO XD XA XB XC vo vd vb vt vq w) (hw : Wr lo hi w w') (ha : Ap lo hi vo ∧ Ap lo hi vd ∧ Ap lo hi vb ∧ Ap lo hi vt ∧ Ap lo hi vq) : PkL B N KA KB KC XO XD XA XB XC vo vd vb vt vq w' :=
  ⟨hw.row h.own ha.1, hw.row h.doc ha.2.1, hw.row h.tri ha.2.2.1, hw.row h.bac ha.2.2.2.1, hw.row h.com ha.2.2.2.2⟩
def Ly (lo hi : Nat) (v : Value) : Prop := ∀ g, v.ownBlock = some g → lo ≤ g ∧ g < hi
theorem ly_of {B sz n : Nat} {T : TypeId} {v : Value} {xs : List Value} {w : World} (h : w.ownsRow B T sz v n xs) : Ly B w.heap.size v := fun g hg => h.lt g hg
theorem Ly.ap {lo hi lo' hi' : Nat} {v : Value} (h : Ly lo' hi' v) (hd : hi' ≤ lo ∨ hi ≤ lo') : Ap lo hi v := fun g hg => by
  have := h g hg
  omega
set_option maxRecDepth 40000 in
set_option maxHeartbeats 51200000 in
theorem codeLent_core (p : Option Addr) (b off N c : Nat) (pt : Option Addr) (Nt ct : Nat) (l : List Opr) (KA KB KC : Nat) (XA XB XC XD : List Value) (EA EB EC : Int) (DA DB DC DT : World → Option Addr → Nat → Prop) (w : World)
    (hs : OSrc w p b off l) (hN : l.length = N) (hnil : p = none → N = 0 ∧ c = 0) (hKA : KA ≤ 100000) (hKB : KB ≤ 100000) (hKC : KC ≤ 100000)
    (HTr : Hid (∀ w1 q cq, (∃ g, OSrc w1 q g 0 l) → Calls Tryz.prog 17 #[.slice q N cq] w1 fun e w' => (∃ q' cq', e = .returned (.tuple #[.slice q' KA cq', .int .i64 EA]) ∧ w'.ownsRow w1.heap.size 47 9 (.slice q' KA cq') KA XA) ∧ Below w1.heap.size w1 w'))
    (HBk : Hid (∀ w1 q cq, (∃ g, OSrc w1 q g 0 l) → Calls Tryz.prog 12 #[.slice q N cq] w1 fun e w' => (∃ q' cq', e = .returned (.tuple #[.slice q' KB cq', .int .i64 EB]) ∧ w'.ownsRow w1.heap.size 50 11 (.slice q' KB cq') KB XB) ∧ Below w1.heap.size w1 w'))
    (HCo : Hid (∀ w1, Below w.heap.size w w1 → Calls Tryz.prog 8 #[.slice pt Nt ct] w1 fun e w' => (∃ q' cq', e = .returned (.tuple #[.slice q' KC cq', .int .i64 EC]) ∧ w'.ownsRow w1.heap.size 47 9 (.slice q' KC cq') KC XC) ∧ Below w1.heap.size w1 w'))
    (HOf : Hid (Calls Tryz.prog 14 #[.slice p N c] w fun e w' => (∃ q cq, e = .returned (.slice q N cq) ∧ w'.ownsRow w.heap.size 66 9 (.slice q N cq) N XD) ∧ Below w.heap.size w w'))
    (HrT : Hid (N ≤ 100 → ∀ w1 q cq B, w1.ownsRow B 66 9 (.slice q N cq) N XD → Calls Tryz.prog 18 #[.slice q N cq] w1 fun e w' => (∃ q' cq', e = .returned (.tuple #[.slice q' KA cq', .int .i64 EA]) ∧ DA w' q' cq') ∧ Below w1.heap.size w1 w'))
    (HrB : Hid (N ≤ 100 → ∀ w1 q cq B, w1.ownsRow B 66 9 (.slice q N cq) N XD → Calls Tryz.prog 13 #[.slice q N cq] w1 fun e w' => (∃ q' cq', e = .returned (.tuple #[.slice q' KB cq', .int .i64 EB]) ∧ DB w' q' cq') ∧ Below w1.heap.size w1 w'))
    (HOt : Hid (∀ w1, Below w.heap.size w w1 → Calls Tryz.prog 10 #[.slice pt Nt ct] w1 fun e w' => (∃ q cq, e = .returned (.slice q Nt cq) ∧ DT w' q cq) ∧ Below w1.heap.size w1 w'))
    (HrC : Hid (∀ w1 q cq, DT w1 q cq → Calls Tryz.prog 9 #[.slice q Nt cq] w1 fun e w' => (∃ q' cq', e = .returned (.tuple #[.slice q' KC cq', .int .i64 EC]) ∧ DC w' q' cq') ∧ Below w1.heap.size w1 w'))
    (HKA : Hid (∀ w1 w2 q cq, DA w1 q cq → Below w1.heap.size w1 w2 → DA w2 q cq)) (HKB : Hid (∀ w1 w2 q cq, DB w1 q cq → Below w1.heap.size w1 w2 → DB w2 q cq)) (HKC : Hid (∀ w1 w2 q cq, DC w1 q cq → Below w1.heap.size w1 w2 → DC w2 q cq))
    (HSI : Hid (N ≤ 100 → ∀ w1 q cq q' cq' B', (∃ g, OSrc w1 q g 0 l) → w1.ownsRow B' 66 9 (.slice q' N cq') N XD → Calls Tryz.prog 11 #[.slice q N cq, .slice q' N cq'] w1 fun e w' => e = .returned (.bool true) ∧ Below w1.heap.size w1 w'))
    (HSA : Hid (∀ w1 q cq q' cq' B, w1.ownsRow B 47 9 (.slice q KA cq) KA XA → DA w1 q' cq' → Calls Tryz.prog 11 #[.slice q KA cq, .slice q' KA cq'] w1 fun e w' => e = .returned (.bool true) ∧ Below w1.heap.size w1 w'))
    (HSB : Hid (∀ w1 q cq q' cq' B, w1.ownsRow B 50 11 (.slice q KB cq) KB XB → DB w1 q' cq' → Calls Tryz.prog 15 #[.slice q KB cq, .slice q' KB cq'] w1 fun e w' => e = .returned (.bool true) ∧ Below w1.heap.size w1 w'))
    (HSC : Hid (∀ w1 q cq q' cq' B, w1.ownsRow B 47 9 (.slice q KC cq) KC XC → DC w1 q' cq' → Calls Tryz.prog 11 #[.slice q KC cq, .slice q' KC cq'] w1 fun e w' => e = .returned (.bool true) ∧ Below w1.heap.size w1 w'))
    (HAw : Hid (∀ w1, Below w.heap.size w w1 → Calls Tryz.prog 7 #[] w1 fun e w' => e = .returned (.bool true) ∧ Below w.heap.size w w')) :
    Calls Tryz.prog 6 #[.slice p N c, .slice pt Nt ct] w fun e w' => e = .returned (.bool true) ∧ Below w.heap.size w w' := by
  have H0 := hidD (Below.refl w.heap.size w)
  have HQ := hidD (And.intro hs (And.intro hN hnil))
  clear hs hN hnil
  go_enter Tryz.func6, Tryz.ntmps6
  by_cases hl : N ≤ 100
  rotate_left
  · have i1 : (100 : Int) < (N : Int) := by omega
    clear hl
    go_wp2_with fail
    refine (HAw.out _ H0.out).mono ?_
    rintro e w1 ⟨rfl, hb⟩
    have H1 := hidD hb
    clear hb
    go_wp2_with fail
    go_ret
    exact ⟨rfl, H1.out⟩
  have i1 : ¬ (100 : Int) < (N : Int) := by omega
  by_cases ht : Nt ≤ 100
  rotate_left
  · have i2 : (100 : Int) < (Nt : Int) := by omega
    clear ht
    go_wp2_with fail
    refine (HAw.out _ H0.out).mono ?_
    rintro e w1 ⟨rfl, hb⟩
    have H1 := hidD hb
    clear hb
    go_wp2_with fail
    go_ret
    exact ⟨rfl, H1.out⟩
  have i2 : ¬ (100 : Int) < (Nt : Int) := by omega
  have HrT' := hidD (HrT.out hl)
  have HrB' := hidD (HrB.out hl)
  have HSI' := hidD (HSI.out hl)
  clear HrT HrB HSI ht
  go_wp2_with fail
  refine HOf.out.mono ?_
  rintro e w1 ⟨⟨qd, cd, rfl, hod⟩, hb1⟩
  have HD1 := hidD hod
  have HB1 := hidD hb1
  have HW1 : Hid (w.heap.size ≤ w1.heap.size) := HB1.out.size
  clear hod hb1 HOf
  have HE : Hid ((w1.alloc (.cells #[] 47)).ownsRow w1.heap.size 47 9 (.slice (some ⟨w1.heap.size, 0, none⟩) 0 0) 0 []) := ⟨rfl, .inr ⟨w1.heap.size, 0, #[], rfl, Nat.le_refl _, heap_alloc_new _ _, Nat.le_refl _, by decide, rfl, rfl⟩⟩
  have HB0 := hidD (al_bel w1 (.cells #[] 47))
  go_wp2_with (at_builtin; refine wpList_append_opo _ rfl (.tmp 40) (.tmp 41) rfl w1.heap.size (.slice (some ⟨w1.heap.size, 0, none⟩) 0 0) 0 [] rfl HE.out p b off c N l rfl HQ.out.2.1 (HQ.out.1.below (HB1.out.trans (HB0.out.mono HB1.out.size))) HQ.out.2.2 (by omega) HB0.out.size ?_)
  intro v1 w2 ho hg
  have HC2 := hidD (HB0.out.trans (orow_grown HE.out hg HB0.out.size))
  have HO2 := hidD ho
  clear ho hg HE HB0
  have HA3 := hidD (al_bel w2 (.cells #[.int .i64 77, .float .f64 0, .float .f64 0, .int .i64 0, .int .i64 0, .int .i64 0, .int .i64 0, .int .i64 0, .int .i64 0] 47))
  have HO3 := hidD (orow_below HO2.out HA3.out)
  have HC3 : Hid (∀ j u, (rowV opC [op77])[j]? = some u → (w2.alloc (.cells #[.int .i64 77, .float .f64 0, .float .f64 0, .int .i64 0, .int .i64 0, .int .i64 0, .int .i64 0, .int .i64 0, .int .i64 0] 47)).cell? ⟨w2.heap.size, j, none⟩ = some u) := fun j u hj => new_cells w2 (opC op77) 47 j u (by simpa [rowV] using hj)
  have HS3 : Hid (w1.heap.size ≤ (w2.alloc (.cells #[.int .i64 77, .float .f64 0, .float .f64 0, .int .i64 0, .int .i64 0, .int .i64 0, .int .i64 0, .int .i64 0, .int .i64 0] 47)).heap.size) := Nat.le_trans HC2.out.size HA3.out.size
  go_wp2_with (at_builtin; refine wpList_append_g _ Tryz.underlying24 info_opC rfl (by decide) rfl (.tmp 42) (.tmp 44) rfl w1.heap.size v1 N (rowV opC l) rfl HO3.out HS3.out w2.heap.size 1 1 (rowV opC [op77]) rfl rfl HC3.out (rowV_one opC_one _) (by omega) (by omega) ?_)
  intro v2 w4 ho2 hg2
  have HC4 := hidD (HC2.out.trans ((HA3.out.mono HC2.out.size).trans (orow_grown HO3.out hg2 HS3.out)))
  obtain ⟨po, co, go, rfl, hco, hcm, hpo, _⟩ := orow_src ho2
  obtain rfl := hpo (by omega)
  have HO4 := hidD ho2
  have HB4 := hidD (HB1.out.trans (HC4.out.mono HB1.out.size))
  have HD4 := hidD (orow_below HD1.out HC4.out)
  have k1 : (N : Int) ≤ (co : Int) := by omega
  have k2 : (0 : Int) ≤ (N : Int) := by omega
  have k3 : N ≤ co := by omega
  have k4 : ¬ (co : Int) < (N : Int) := by omega
  have k5 : ¬ (N : Int) < 0 := by omega
  clear ho2 hg2 hco hcm HO2 HO3 HS3 HA3 HC2 HC3 HB1 HD1 hpo
  go_wp2_with fail
  refine (HTr.out _ _ _ (own_part HO4.out HQ.out.2.1)).mono ?_
  rintro e w5 ⟨⟨qa, ca, rfl, hoa⟩, hb5⟩
  have H5 := hidD (And.intro hoa (And.intro hb5 (orow_below HO4.out hb5)))
  clear hoa hb5
  go_wp2_with fail
  refine (HTr.out _ _ _ (own_part H5.out.2.2 HQ.out.2.1)).mono ?_
  rintro e w6 ⟨⟨qb, cb, rfl, hob⟩, hb6⟩
  have H6 := hidD (And.intro hob (And.intro hb6 (orow_below H5.out.2.2 hb6)))
  clear hob hb6
  go_wp2_with fail
  refine (HBk.out _ _ _ (own_part H6.out.2.2 HQ.out.2.1)).mono ?_
  rintro e w7 ⟨⟨qc, cc, rfl, hoc⟩, hb7⟩
  have H7 := hidD (And.intro hoc (And.intro hb7 (orow_below H6.out.2.2 hb7)))
  clear hoc hb7
  go_wp2_with fail
  refine (HBk.out _ _ _ (own_part H7.out.2.2 HQ.out.2.1)).mono ?_
  rintro e w8 ⟨⟨qe, ce, rfl, hoe⟩, hb8⟩
  have H8 := hidD (And.intro hoe (And.intro hb8 (orow_below H7.out.2.2 hb8)))
  have HB8 : Hid (Below w.heap.size w w8) := by
    have s4 := HB4.out.size
    have s5 := H5.out.2.1.size
    have s6 := H6.out.2.1.size
    have s7 := H7.out.2.1.size
    exact (((HB4.out.trans (H5.out.2.1.mono s4)).trans (H6.out.2.1.mono (by omega))).trans (H7.out.2.1.mono (by omega))).trans (hb8.mono (by omega))
  clear hoe hb8
  go_wp2_with fail
  refine (HCo.out _ HB8.out).mono ?_
  rintro e w9 ⟨⟨qp, cp, rfl, hop⟩, hb9⟩
  have H9 := hidD (And.intro hop hb9)
  have HB9 := hidD (HB8.out.trans (hb9.mono HB8.out.size))
  clear hop hb9
  go_wp2_with fail
  refine (HCo.out _ HB9.out).mono ?_
  rintro e w10 ⟨⟨qq, cq, rfl, hoq⟩, hb10⟩
  -- all that stands then
  have b9 : Below w9.heap.size w9 w10 := hb10
  have b8 := H9.out.2.trans (b9.mono H9.out.2.size)
  have b7 := H8.out.2.1.trans (b8.mono H8.out.2.1.size)
  have b6 := H7.out.2.1.trans (b7.mono H7.out.2.1.size)
  have b5 := H6.out.2.1.trans (b6.mono H6.out.2.1.size)
  have b4 := H5.out.2.1.trans (b5.mono H5.out.2.1.size)
  have z5 := H5.out.2.1.size
  have z6 := H6.out.2.1.size
  have z7 := H7.out.2.1.size
  have z8 := H8.out.2.1.size
  have z9 := H9.out.2.size
  have z10 := hb10.size
  have zw := HB4.out.size
  have HB10 : Hid (Below w.heap.size w w10) := HB9.out.trans (hb10.mono HB9.out.size)
  have HPk : Hid (PkL w.heap.size N KA KB KC (rowV opC l ++ rowV opC [op77]) XD XA XB XC (.slice (some ⟨go, 0, none⟩) (N + 1) co) (.slice qd N cd) (.slice qb KA cb) (.slice qe KB ce) (.slice qq KC cq) w10) :=
    ⟨orow_lower (orow_below HO4.out b4) HW1.out, orow_below HD4.out b4, orow_lower (orow_below H6.out.1 b6) (by omega), orow_lower (orow_below H8.out.1 b8) (by omega), orow_lower hoq (by omega)⟩
  have HAa : Hid (w10.ownsRow w.heap.size 47 9 (.slice qa KA ca) KA XA) := orow_lower (orow_below H5.out.1 b5) (by omega)
  have HAc : Hid (w10.ownsRow w.heap.size 50 11 (.slice qc KB cc) KB XB) := orow_lower (orow_below H7.out.1 b7) (by omega)
  have HAp : Hid (w10.ownsRow w.heap.size 47 9 (.slice qp KC cp) KC XC) := orow_lower (orow_below H9.out.1 b9) (by omega)
  have lo : Ly 0 w4.heap.size (.slice (some ⟨go, 0, none⟩) (N + 1) co) := fun g hg => ⟨Nat.zero_le _, (HO4.out.lt g hg).2⟩
  have ld : Ly 0 w4.heap.size (.slice qd N cd) := fun g hg => ⟨Nat.zero_le _, (HD4.out.lt g hg).2⟩
  have la := ly_of H5.out.1
  have lb := ly_of H6.out.1
  have lc := ly_of H7.out.1
  have le := ly_of H8.out.1
  have lp := ly_of H9.out.1
  have lq := ly_of hoq
  have HLa : Hid (Ly w4.heap.size w5.heap.size (.slice qa KA ca) ∧ w.heap.size ≤ w4.heap.size ∧ (Ap w4.heap.size w5.heap.size (.slice (some ⟨go, 0, none⟩) (N + 1) co) ∧ Ap w4.heap.size w5.heap.size (.slice qd N cd) ∧ Ap w4.heap.size w5.heap.size (.slice qb KA cb) ∧ Ap w4.heap.size w5.heap.size (.slice qe KB ce) ∧ Ap w4.heap.size w5.heap.size (.slice qq KC cq)) ∧ Ap w4.heap.size w5.heap.size (.slice qc KB cc) ∧ Ap w4.heap.size w5.heap.size (.slice qp KC cp)) :=
    ⟨la, zw, ⟨lo.ap (by omega), ld.ap (by omega), lb.ap (by omega), le.ap (by omega), lq.ap (by omega)⟩, lc.ap (by omega), lp.ap (by omega)⟩
  have HLc : Hid (Ly w6.heap.size w7.heap.size (.slice qc KB cc) ∧ w.heap.size ≤ w6.heap.size ∧ (Ap w6.heap.size w7.heap.size (.slice (some ⟨go, 0, none⟩) (N + 1) co) ∧ Ap w6.heap.size w7.heap.size (.slice qd N cd) ∧ Ap w6.heap.size w7.heap.size (.slice qb KA cb) ∧ Ap w6.heap.size w7.heap.size (.slice qe KB ce) ∧ Ap w6.heap.size w7.heap.size (.slice qq KC cq)) ∧ Ap w6.heap.size w7.heap.size (.slice qp KC cp)) :=
    ⟨lc, by omega, ⟨lo.ap (by omega), ld.ap (by omega), lb.ap (by omega), le.ap (by omega), lq.ap (by omega)⟩, lp.ap (by omega)⟩
  have HLp : Hid (Ly w8.heap.size w9.heap.size (.slice qp KC cp) ∧ w.heap.size ≤ w8.heap.size ∧ (Ap w8.heap.size w9.heap.size (.slice (some ⟨go, 0, none⟩) (N + 1) co) ∧ Ap w8.heap.size w9.heap.size (.slice qd N cd) ∧ Ap w8.heap.size w9.heap.size (.slice qb KA cb) ∧ Ap w8.heap.size w9.heap.size (.slice qe KB ce) ∧ Ap w8.heap.size w9.heap.size (.slice qq KC cq))) :=
    ⟨lp, by omega, lo.ap (by omega), ld.ap (by omega), lb.ap (by omega), le.ap (by omega), lq.ap (by omega)⟩
  obtain ⟨a4, ha4⟩ : ∃ a, w4.heap.size = a := ⟨_, rfl⟩
  obtain ⟨a5, ha5⟩ : ∃ a, w5.heap.size = a := ⟨_, rfl⟩
  obtain ⟨a6, ha6⟩ : ∃ a, w6.heap.size = a := ⟨_, rfl⟩
  obtain ⟨a7, ha7⟩ : ∃ a, w7.heap.size = a := ⟨_, rfl⟩
  obtain ⟨a8, ha8⟩ : ∃ a, w8.heap.size = a := ⟨_, rfl⟩
  obtain ⟨a9, ha9⟩ : ∃ a, w9.heap.size = a := ⟨_, rfl⟩
  rw [ha4, ha5] at HLa
  rw [ha6, ha7] at HLc
  rw [ha8, ha9] at HLp
  clear ha4 ha5 ha6 ha7 ha8 ha9 b4 b5 b6 b7 b8 b9 z5 z6 z7 z8 z9 z10 zw lo ld la lb lc le lp lq hoq hb10 H5 H6 H7 H8 H9 HB4 HB8 HB9 HD4 HO4 HTr HBk HCo k1 k3 k4 k5 HC4
  go_wp2_with fail
  go_loopw [20] (fun i wv => ∃ (k : Nat) (xs : List Value), k ≤ KA ∧ i = .int .i64 k ∧ Hid (Wr a4 a5 w10 wv) ∧ Hid (wv.ownsRow w.heap.size 47 9 (.slice qa KA ca) KA xs)) (fun i _ => KA - (intOf i).toNat)
  case atStart => exact ⟨0, _, Nat.zero_le _, rfl, Wr.refl _ _ _, HAa.out⟩
  case round =>
    obtain ⟨k, xs, hk, rfl, HW, HR⟩ := hrel
    by_cases hlt : k < KA
    · obtain ⟨_, _, g, hv, _, _, hp, _, hpg, _⟩ := orow_src HR.out
      injection hv with e1 e2 e3
      subst e1 e3
      obtain rfl := hp (by omega)
      obtain ⟨g1, g2⟩ := HLa.out.1 g rfl
      obtain ⟨u0, d0⟩ := row_cells HR.out hlt 0 (by decide)
      obtain ⟨u1, d1⟩ := row_cells HR.out hlt 1 (by decide)
      obtain ⟨u2, d2⟩ := row_cells HR.out hlt 2 (by decide)
      obtain ⟨u3, d3⟩ := row_cells HR.out hlt 3 (by decide)
      obtain ⟨u4, d4⟩ := row_cells HR.out hlt 4 (by decide)
      obtain ⟨u5, d5⟩ := row_cells HR.out hlt 5 (by decide)
      obtain ⟨u6, d6⟩ := row_cells HR.out hlt 6 (by decide)
      obtain ⟨u7, d7⟩ := row_cells HR.out hlt 7 (by decide)
      obtain ⟨u8, d8⟩ := row_cells HR.out hlt 8 (by decide)
      simp only [Nat.add_zero] at d0
      have f0 := HR.out.frozenAt (k * 9)
      have f1 := HR.out.frozenAt (k * 9 + 1)
      have f2 := HR.out.frozenAt (k * 9 + 2)
      have f3 := HR.out.frozenAt (k * 9 + 3)
      have f4 := HR.out.frozenAt (k * 9 + 4)
      have f5 := HR.out.frozenAt (k * 9 + 5)
      have f6 := HR.out.frozenAt (k * 9 + 6)
      have f7 := HR.out.frozenAt (k * 9 + 7)
      have f8 := HR.out.frozenAt (k * 9 + 8)
      have HP := hidD (row_put9 (k := k) HW.out HR.out g1 g2 (.int .i64 78) (.float .f64 0) (.float .f64 0) (.int .i64 0) (.int .i64 0) (.int .i64 0) (.int .i64 0) (.int .i64 0) (.int .i64 0))
      obtain ⟨w7, hw7⟩ : ∃ w7, (((((((((wr.setCell ⟨g, k * 9, none⟩ (.int .i64 78)).setCell ⟨g, k * 9 + 1, none⟩ (.float .f64 0)).setCell ⟨g, k * 9 + 2, none⟩ (.float .f64 0)).setCell ⟨g, k * 9 + 3, none⟩ (.int .i64 0)).setCell ⟨g, k * 9 + 4, none⟩ (.int .i64 0)).setCell ⟨g, k * 9 + 5, none⟩ (.int .i64 0)).setCell ⟨g, k * 9 + 6, none⟩ (.int .i64 0)).setCell ⟨g, k * 9 + 7, none⟩ (.int .i64 0)).setCell ⟨g, k * 9 + 8, none⟩ (.int .i64 0)) = w7 := ⟨_, rfl⟩
      rw [hw7] at HP
      have i5 : (k : Int) < (KA : Int) := by omega
      have i6 : (0 : Int) ≤ (k : Int) := by omega
      have i7 : ¬ (KA : Int) ≤ (k : Int) := by omega
      have hst := store_op 78 wr g k d0 d1 d2 d3 d4 d5 d6 d7 d8 f0 f1 f2 f3 f4 f5 f6 f7 f8
      rw [hw7] at hst
      clear d0 d1 d2 d3 d4 d5 d6 d7 d8 f0 f1 f2 f3 f4 f5 f6 f7 f8
      clear hp hpg g1 g2 HW HR
      go_wp2_with (refine wpList_store_to rfl 47 (.tmp 89) (.tmp 88) rfl ⟨g, k * 9, none⟩ (.agg #[(.int .i64 78), (.float .f64 0), (.float .f64 0), (.int .i64 0), (.int .i64 0), (.int .i64 0), (.int .i64 0), (.int .i64 0), (.int .i64 0)]) w7 rfl rfl hst ?_)
      go_roundw
      case rel =>
        obtain ⟨h1, xs2, h2⟩ := HP.out
        exact ⟨k + 1, xs2, by omega, by go_num, h1, h2⟩
      case measure => simp [intOf]; omega
    · obtain rfl : k = KA := by omega
      have i5 : ¬ (k : Int) < (k : Int) := by omega
      have HPk1 := hidD (HPk.out.wr HW.out HLa.out.2.2.1)
      have HAc1 := hidD (HW.out.row HAc.out HLa.out.2.2.2.1)
      have HAp1 := hidD (HW.out.row HAp.out HLa.out.2.2.2.2)
      have HB11 : Hid (Below w.heap.size w wr) := HB10.out.trans (HW.out.bel.mono HLa.out.2.1)
      clear HPk HAc HAp HB10 HLa HW HR HAa
      go_wp2_with fail
      go_loopw [21] (fun i wv => ∃ (k : Nat) (xs : List Value), k ≤ KB ∧ i = .int .i64 k ∧ Hid (Wr a6 a7 wr wv) ∧ Hid (wv.ownsRow w.heap.size 50 11 (.slice qc KB cc) KB xs)) (fun i _ => KB - (intOf i).toNat)
      case atStart => exact ⟨0, _, Nat.zero_le _, rfl, Wr.refl _ _ _, HAc1.out⟩
      case round =>
        obtain ⟨k, xs, hk, rfl, HW, HR⟩ := hrel
        by_cases hlt : k < KB
        · obtain ⟨_, _, g, hv, _, _, hp, _, hpg, _⟩ := orow_src HR.out
          injection hv with e1 e2 e3
          subst e1 e3
          obtain rfl := hp (by omega)
          obtain ⟨g1, g2⟩ := HLc.out.1 g rfl
          obtain ⟨u0, d0⟩ := row_cells HR.out hlt 0 (by decide)
          obtain ⟨u1, d1⟩ := row_cells HR.out hlt 1 (by decide)
          obtain ⟨u2, d2⟩ := row_cells HR.out hlt 2 (by decide)
          obtain ⟨u3, d3⟩ := row_cells HR.out hlt 3 (by decide)
          obtain ⟨u4, d4⟩ := row_cells HR.out hlt 4 (by decide)
          obtain ⟨u5, d5⟩ := row_cells HR.out hlt 5 (by decide)
          obtain ⟨u6, d6⟩ := row_cells HR.out hlt 6 (by decide)
          obtain ⟨u7, d7⟩ := row_cells HR.out hlt 7 (by decide)
          obtain ⟨u8, d8⟩ := row_cells HR.out hlt 8 (by decide)
          obtain ⟨u9, d9⟩ := row_cells HR.out hlt 9 (by decide)
          obtain ⟨u10, d10⟩ := row_cells HR.out hlt 10 (by decide)
          simp only [Nat.add_zero] at d0
          have f0 := HR.out.frozenAt (k * 11)
          have f1 := HR.out.frozenAt (k * 11 + 1)
          have f2 := HR.out.frozenAt (k * 11 + 2)
          have f3 := HR.out.frozenAt (k * 11 + 3)
          have f4 := HR.out.frozenAt (k * 11 + 4)
          have f5 := HR.out.frozenAt (k * 11 + 5)
          have f6 := HR.out.frozenAt (k * 11 + 6)
          have f7 := HR.out.frozenAt (k * 11 + 7)
          have f8 := HR.out.frozenAt (k * 11 + 8)
          have f9 := HR.out.frozenAt (k * 11 + 9)
          have f10 := HR.out.frozenAt (k * 11 + 10)
          have HP := hidD (row_put11 (k := k) HW.out HR.out g1 g2 (.int .i64 78) (.int .i64 0) (.int .i64 0) (.float .f64 0) (.float .f64 0) (.int .i64 0) (.int .i64 0) (.int .i64 0) (.int .i64 0) (.int .i64 0) (.int .i64 0))
          obtain ⟨w7, hw7⟩ : ∃ w7, (((((((((((wr.setCell ⟨g, k * 11, none⟩ (.int .i64 78)).setCell ⟨g, k * 11 + 1, none⟩ (.int .i64 0)).setCell ⟨g, k * 11 + 2, none⟩ (.int .i64 0)).setCell ⟨g, k * 11 + 3, none⟩ (.float .f64 0)).setCell ⟨g, k * 11 + 4, none⟩ (.float .f64 0)).setCell ⟨g, k * 11 + 5, none⟩ (.int .i64 0)).setCell ⟨g, k * 11 + 6, none⟩ (.int .i64 0)).setCell ⟨g, k * 11 + 7, none⟩ (.int .i64 0)).setCell ⟨g, k * 11 + 8, none⟩ (.int .i64 0)).setCell ⟨g, k * 11 + 9, none⟩ (.int .i64 0)).setCell ⟨g, k * 11 + 10, none⟩ (.int .i64 0)) = w7 := ⟨_, rfl⟩
          rw [hw7] at HP
          have i5 : (k : Int) < (KB : Int) := by omega
          have i6 : (0 : Int) ≤ (k : Int) := by omega
          have i7 : ¬ (KB : Int) ≤ (k : Int) := by omega
          have hst := store_tm 78 wr g k d0 d1 d2 d3 d4 d5 d6 d7 d8 d9 d10 f0 f1 f2 f3 f4 f5 f6 f7 f8 f9 f10
          rw [hw7] at hst
          clear d0 d1 d2 d3 d4 d5 d6 d7 d8 d9 d10 f0 f1 f2 f3 f4 f5 f6 f7 f8 f9 f10
          clear hp hpg g1 g2 HW HR
          go_wp2_with (refine wpList_store_to rfl 50 (.tmp 99) (.tmp 98) rfl ⟨g, k * 11, none⟩ (.agg #[(.int .i64 78), (.int .i64 0), (.int .i64 0), (.float .f64 0), (.float .f64 0), (.int .i64 0), (.int .i64 0), (.int .i64 0), (.int .i64 0), (.int .i64 0), (.int .i64 0)]) w7 rfl rfl hst ?_)
          go_roundw
          case rel =>
            obtain ⟨h1, xs2, h2⟩ := HP.out
            exact ⟨k + 1, xs2, by omega, by go_num, h1, h2⟩
          case measure => simp [intOf]; omega
        · obtain rfl : k = KB := by omega
          have i5 : ¬ (k : Int) < (k : Int) := by omega
          have HPk2 := hidD (HPk1.out.wr HW.out HLc.out.2.2.1)
          have HAp2 := hidD (HW.out.row HAp1.out HLc.out.2.2.2)
          have HB12 : Hid (Below w.heap.size w wr) := HB11.out.trans (HW.out.bel.mono HLc.out.2.1)
          clear HPk1 HAp1 HB11 HLc HW HR HAc1
          go_wp2_with fail
          go_loopw [22] (fun i wv => ∃ (k : Nat) (xs : List Value), k ≤ KC ∧ i = .int .i64 k ∧ Hid (Wr a8 a9 wr wv) ∧ Hid (wv.ownsRow w.heap.size 47 9 (.slice qp KC cp) KC xs)) (fun i _ => KC - (intOf i).toNat)
          case atStart => exact ⟨0, _, Nat.zero_le _, rfl, Wr.refl _ _ _, HAp2.out⟩
          case round =>
            obtain ⟨k, xs, hk, rfl, HW, HR⟩ := hrel
            by_cases hlt : k < KC
            · obtain ⟨_, _, g, hv, _, _, hp, _, hpg, _⟩ := orow_src HR.out
              injection hv with e1 e2 e3
              subst e1 e3
              obtain rfl := hp (by omega)
              obtain ⟨g1, g2⟩ := HLp.out.1 g rfl
              obtain ⟨u0, d0⟩ := row_cells HR.out hlt 0 (by decide)
              obtain ⟨u1, d1⟩ := row_cells HR.out hlt 1 (by decide)
              obtain ⟨u2, d2⟩ := row_cells HR.out hlt 2 (by decide)
              obtain ⟨u3, d3⟩ := row_cells HR.out hlt 3 (by decide)
              obtain ⟨u4, d4⟩ := row_cells HR.out hlt 4 (by decide)
              obtain ⟨u5, d5⟩ := row_cells HR.out hlt 5 (by decide)
              obtain ⟨u6, d6⟩ := row_cells HR.out hlt 6 (by decide)
              obtain ⟨u7, d7⟩ := row_cells HR.out hlt 7 (by decide)
              obtain ⟨u8, d8⟩ := row_cells HR.out hlt 8 (by decide)
              simp only [Nat.add_zero] at d0
              have f0 := HR.out.frozenAt (k * 9)
              have f1 := HR.out.frozenAt (k * 9 + 1)
              have f2 := HR.out.frozenAt (k * 9 + 2)
              have f3 := HR.out.frozenAt (k * 9 + 3)
              have f4 := HR.out.frozenAt (k * 9 + 4)
              have f5 := HR.out.frozenAt (k * 9 + 5)
              have f6 := HR.out.frozenAt (k * 9 + 6)
              have f7 := HR.out.frozenAt (k * 9 + 7)
              have f8 := HR.out.frozenAt (k * 9 + 8)
              have HP := hidD (row_put9 (k := k) HW.out HR.out g1 g2 (.int .i64 79) (.float .f64 0) (.float .f64 0) (.int .i64 0) (.int .i64 0) (.int .i64 0) (.int .i64 0) (.int .i64 0) (.int .i64 0))
              obtain ⟨w7, hw7⟩ : ∃ w7, (((((((((wr.setCell ⟨g, k * 9, none⟩ (.int .i64 79)).setCell ⟨g, k * 9 + 1, none⟩ (.float .f64 0)).setCell ⟨g, k * 9 + 2, none⟩ (.float .f64 0)).setCell ⟨g, k * 9 + 3, none⟩ (.int .i64 0)).setCell ⟨g, k * 9 + 4, none⟩ (.int .i64 0)).setCell ⟨g, k * 9 + 5, none⟩ (.int .i64 0)).setCell ⟨g, k * 9 + 6, none⟩ (.int .i64 0)).setCell ⟨g, k * 9 + 7, none⟩ (.int .i64 0)).setCell ⟨g, k * 9 + 8, none⟩ (.int .i64 0)) = w7 := ⟨_, rfl⟩
              rw [hw7] at HP
              have i5 : (k : Int) < (KC : Int) := by omega
              have i6 : (0 : Int) ≤ (k : Int) := by omega
              have i7 : ¬ (KC : Int) ≤ (k : Int) := by omega
              have hst := store_op 79 wr g k d0 d1 d2 d3 d4 d5 d6 d7 d8 f0 f1 f2 f3 f4 f5 f6 f7 f8
              rw [hw7] at hst
              clear d0 d1 d2 d3 d4 d5 d6 d7 d8 f0 f1 f2 f3 f4 f5 f6 f7 f8
              clear hp hpg g1 g2 HW HR
              go_wp2_with (refine wpList_store_to rfl 47 (.tmp 109) (.tmp 108) rfl ⟨g, k * 9, none⟩ (.agg #[(.int .i64 79), (.float .f64 0), (.float .f64 0), (.int .i64 0), (.int .i64 0), (.int .i64 0), (.int .i64 0), (.int .i64 0), (.int .i64 0)]) w7 rfl rfl hst ?_)
              go_roundw
              case rel =>
                obtain ⟨h1, xs2, h2⟩ := HP.out
                exact ⟨k + 1, xs2, by omega, by go_num, h1, h2⟩
              case measure => simp [intOf]; omega
            · obtain rfl : k = KC := by omega
              have i5 : ¬ (k : Int) < (k : Int) := by omega
              have HPk3 := hidD (HPk2.out.wr HW.out HLp.out.2.2)
              have HB13 : Hid (Below w.heap.size w wr) := HB12.out.trans (HW.out.bel.mono HLp.out.2.1)
              clear HPk2 HB12 HLp HW HR HAp2
              go_wp2_with fail
              refine (HrT'.out _ _ _ _ HPk3.out.doc).mono ?_
              rintro e w14 ⟨⟨q1, c1, rfl, hd1⟩, hb⟩
              have H14 := hidD (And.intro hd1 (And.intro (HPk3.out.below hb) (HB13.out.trans (hb.mono HB13.out.size))))
              clear hd1 hb HPk3 HB13
              go_wp2_with fail
              refine (HrB'.out _ _ _ _ H14.out.2.1.doc).mono ?_
              rintro e w15 ⟨⟨q2, c2, rfl, hd2⟩, hb⟩
              have H15 := hidD (And.intro (And.intro (HKA.out _ _ _ _ H14.out.1 hb) hd2) (And.intro (H14.out.2.1.below hb) (H14.out.2.2.trans (hb.mono H14.out.2.2.size))))
              clear hd2 hb H14
              go_wp2_with fail
              refine (HOt.out _ H15.out.2.2).mono ?_
              rintro e w16 ⟨⟨q3, c3, rfl, hd3⟩, hb⟩
              have H16 := hidD (And.intro (And.intro (HKA.out _ _ _ _ H15.out.1.1 hb) (And.intro (HKB.out _ _ _ _ H15.out.1.2 hb) hd3)) (And.intro (H15.out.2.1.below hb) (H15.out.2.2.trans (hb.mono H15.out.2.2.size))))
              clear hd3 hb H15
              go_wp2_with fail
              refine (HrC.out _ _ _ H16.out.1.2.2).mono ?_
              rintro e w17 ⟨⟨q4, c4, rfl, hd4⟩, hb⟩
              have H17 := hidD (And.intro (And.intro (HKA.out _ _ _ _ H16.out.1.1 hb) (And.intro (HKB.out _ _ _ _ H16.out.1.2.1 hb) hd4)) (And.intro (H16.out.2.1.below hb) (H16.out.2.2.trans (hb.mono H16.out.2.2.size))))
              clear hd4 hb H16
              have hol := own_last H17.out.2.1.own HQ.out.2.1
              have o0 := hol 0 (by decide)
              have o1 := hol 1 (by decide)
              have o2 := hol 2 (by decide)
              have o3 := hol 3 (by decide)
              have o4 := hol 4 (by decide)
              have o5 := hol 5 (by decide)
              have o6 := hol 6 (by decide)
              have o7 := hol 7 (by decide)
              have o8 := hol 8 (by decide)
              simp only [Nat.add_zero, opC, op77, List.getElem?_toArray, List.getElem?_cons_zero, List.getElem?_cons_succ] at o0 o1 o2 o3 o4 o5 o6 o7 o8
              have h77 := op77_eq
              have j1 : (N : Int) < ((N + 1 : Nat) : Int) := by omega
              have j2 : (0 : Int) ≤ (N : Int) := by omega
              have j3 : ¬ (N : Int) + 1 ≤ (N : Int) := by omega
              have eA : (EA == EA) = true := beq_self_eq_true EA
              have eB : (EB == EB) = true := beq_self_eq_true EB
              have eC : (EC == EC) = true := beq_self_eq_true EC
              clear hol
              go_wp2_with fail
              refine (HSI'.out _ _ _ _ _ _ (own_part H17.out.2.1.own HQ.out.2.1) H17.out.2.1.doc).mono ?_
              rintro e w18 ⟨rfl, hb⟩
              have H18 := hidD (And.intro (And.intro (HKA.out _ _ _ _ H17.out.1.1 hb) (And.intro (HKB.out _ _ _ _ H17.out.1.2.1 hb) (HKC.out _ _ _ _ H17.out.1.2.2 hb))) (And.intro (H17.out.2.1.below hb) (H17.out.2.2.trans (hb.mono H17.out.2.2.size))))
              clear hb H17 o0 o1 o2 o3 o4 o5 o6 o7 o8 h77
              go_wp2_with fail
              refine (HSA.out _ _ _ _ _ _ H18.out.2.1.tri H18.out.1.1).mono ?_
              rintro e w19 ⟨rfl, hb⟩
              have H19 := hidD (And.intro (And.intro (HKB.out _ _ _ _ H18.out.1.2.1 hb) (HKC.out _ _ _ _ H18.out.1.2.2 hb)) (And.intro (H18.out.2.1.below hb) (H18.out.2.2.trans (hb.mono H18.out.2.2.size))))
              clear hb H18
              go_wp2_with fail
              refine (HSB.out _ _ _ _ _ _ H19.out.2.1.bac H19.out.1.1).mono ?_
              rintro e w20 ⟨rfl, hb⟩
              have H20 := hidD (And.intro (HKC.out _ _ _ _ H19.out.1.2 hb) (And.intro (H19.out.2.1.below hb) (H19.out.2.2.trans (hb.mono H19.out.2.2.size))))
              clear hb H19
              go_wp2_with fail
              refine (HSC.out _ _ _ _ _ _ H20.out.2.1.com H20.out.1).mono ?_
              rintro e w21 ⟨rfl, hb⟩
              have H21 := hidD (H20.out.2.2.trans (hb.mono H20.out.2.2.size))
              clear hb H20
              go_wp2_with fail
              refine (HAw.out _ H21.out).mono ?_
              rintro e w22 ⟨rfl, hb⟩
              have H22 := hidD hb
              clear hb
              go_wp2_with fail
              go_ret
              exact ⟨rfl, H22.out⟩
end Go.Proofs.YtienedhaogjahaaGreatDoor
namespace Go.Proofs.YtienedhaogjahaaGreatDoor
open Go.RowKit

def trnO (o : Opr) : Bool := (o.kind == 5 && (FloatKind.f64.format.order o.x 4607182418800017408 == some .eq)) || (o.kind == 7 && o.n == 1)
set_option maxRecDepth 20000 in
set_option maxHeartbeats 3200000 in
theorem turns_any (o : Opr) (w : World) : Calls Tryz.prog 93 #[.agg (opC o)] w fun e w' => e = .returned (.bool (trnO o)) ∧ Below w.heap.size w w' := by
  unfold trnO opC
  obtain ⟨q, hq⟩ : ∃ q, (FloatKind.f64.format.order o.x 4607182418800017408 == some .eq) = q := ⟨_, rfl⟩
  rw [hq]
  by_cases h5 : o.kind = 5
  · have z5 : (o.kind == 5) = true := by rw [h5]; rfl
    have z7 : (o.kind == 7) = false := by rw [h5]; rfl
    rw [z5, z7]
    clear h5
    cases q
    all_goals
      go_enter Tryz.func93, Tryz.ntmps93
      go_wp2_with fail
      go_ret
      exact ⟨rfl, al_bel _ _⟩
  · have z5 : (o.kind == 5) = false := beq_eq_false_iff_ne.2 h5
    rw [z5]
    clear h5 hq
    by_cases h7 : o.kind = 7
    · have z7 : (o.kind == 7) = true := by rw [h7]; rfl
      rw [z7]
      clear h7
      obtain ⟨r, hr⟩ : ∃ r, (o.n == 1) = r := ⟨_, rfl⟩
      rw [hr]
      cases r
      all_goals
        go_enter Tryz.func93, Tryz.ntmps93
        go_wp2_with fail
        go_ret
        exact ⟨rfl, al_bel _ _⟩
    · have z7 : (o.kind == 7) = false := beq_eq_false_iff_ne.2 h7
      rw [z7]
      clear h7
      go_enter Tryz.func93, Tryz.ntmps93
      go_wp2_with fail
      go_ret
      exact ⟨rfl, al_bel _ _⟩
set_option maxRecDepth 20000 in
set_option maxHeartbeats 12800000 in
theorem trTake_gen (B b L m N : Nat) (cv mv : Value) (r : List (Opr × Int)) (x : Opr × Int) (ms : List Int) (o : Opr) (w : World) (h : TrM B b cv mv (r ++ [x]) (ms ++ [(m : Int)]) w) (hb : B ≤ b) (hr : r.length = L) (hms : ms.length = N) (hL : L ≤ 90000) (hN : N ≤ 90000) (hm : m < L) (hx0 : 0 ≤ x.2) (hx1 : x.2 ≤ 100000) (hx4 : x.1.kind = 4 → 1 ≤ x.2) (ht : trnO o = false) :
    Calls Tryz.prog 55 #[.pointer (some ⟨b, 0, none⟩), .agg (opC o)] w fun e w' => e = .returned (.tuple #[]) ∧ ∃ v v', TrM B b v v' (if (o.kind == 4 && gabO x L m) = true then drop3 r m else r ++ [x] ++ [(o, (L : Int) + 1 - (m : Int))]) ms w' ∧ Below B w w' := by
  obtain ⟨Z, hZ⟩ : ∃ Z, (if (o.kind == 4 && gabO x L m) = true then drop3 r m else r ++ [x] ++ [(o, (L : Int) + 1 - (m : Int))]) = Z := ⟨_, rfl⟩
  rw [hZ]
  have HZ := hidD hZ
  clear hZ
  have HBb := hidD hb
  have HBw : Hid (B ≤ w.heap.size) := by have := lt_of_blk h.box; show _ ≤ _; omega
  obtain ⟨g, c, hmv, hmc, hcl, htk⟩ := h.shapeM (by simp)
  have hlm : (ms ++ [(m : Int)]).length = N + 1 := by simp [hms]
  rw [hlm] at hmv hmc hcl htk
  subst hmv
  obtain ⟨gc, cc, hcv⟩ := h.shape (by simp)
  have hlc : (r ++ [x]).length = L + 1 := by simp [hr]
  rw [hlc] at hcv
  subst hcv
  have HW1 := hidD (al_bel w (.cells (opC o) 47))
  have H1 := hidD (h.below HW1.out)
  have HT1 : Hid ((w.alloc (.cells (opC o) 47)).heap[w.heap.size]? = some (.cells (opC o) 47)) := heap_alloc_new _ _
  have HM1 : Hid ((w.alloc (.cells (opC o) 47)).cell? ⟨g, N, none⟩ = some (.int .i64 (m : Int)) ∧ (w.alloc (.cells (opC o) 47)).ownsRow B 3 1 (.slice (some ⟨g, 0, none⟩) N c) N (rowV inC ms)) := by
    have e0 := hcl N (by omega)
    have e1 := htk N (by omega)
    rw [← hms, List.take_left, hms] at e1
    have e2 : (ms ++ [(m : Int)]).getD N 0 = (m : Int) := by rw [← hms]; simp [List.getD]
    rw [e2] at e0
    have hgl : g < w.heap.size := by
      rcases h.marks.2 with ⟨h0, _⟩ | ⟨g', _, _, e, _, hg, _⟩
      · cases h0
      · injection e with e _ _
        injection e with e
        injection e with e _ _
        subst e
        exact lt_of_blk hg
    exact ⟨(World.cell?_of_block (w := w) (a := ⟨g, N, none⟩) (HW1.out.block g hgl)).trans e0, orow_below e1 HW1.out⟩
  have HTn : Hid (∀ wx, Calls Tryz.prog 93 #[.agg (opC o)] wx fun e w' => e = .returned (.bool false) ∧ Below wx.heap.size wx w') := fun wx => by have := turns_any o wx; rw [ht] at this; exact this
  have HAd : Hid (∀ (wx : World) (mv' : Value), TrM B b (.slice (some ⟨gc, 0, none⟩) (L + 1) cc) mv' (r ++ [x]) ms wx → Calls Tryz.prog 56 #[.pointer (some ⟨b, 0, none⟩), .agg (opC o), .int .i64 ((L : Int) + 1 - (m : Int))] wx fun e w' => e = .returned (.tuple #[]) ∧ ∃ v, TrM B b v mv' (r ++ [x] ++ [(o, (L : Int) + 1 - (m : Int))]) ms w' ∧ Below B wx w') := fun wx mv' t => trAdd_any B b _ mv' _ ms o _ wx t hb (by simp [hr]; omega)
  have HGv : Hid (∀ (wx : World) (cv' mv' : Value), TrM B b cv' mv' (r ++ [x]) ms wx → Calls Tryz.prog 95 #[.pointer (some ⟨b, 0, none⟩), .int .i64 (m : Int)] wx fun e w' => e = .returned (.bool (gabO x L m)) ∧ Below wx.heap.size wx w') := fun wx cv' mv' t => gives_any B b L m cv' mv' r x ms wx t hr (by omega) (by omega) (by omega) hx0 hx1
  have HD1 : Hid (∀ (wx : World) (cv' mv' : Value), TrM B b cv' mv' (r ++ [x]) ms wx → Calls Tryz.prog 94 #[.pointer (some ⟨b, 0, none⟩), .int .i64 (L : Int)] wx fun e w' => e = .returned (.tuple #[]) ∧ ∃ v, TrM B b v mv' r ms w' ∧ Below B wx w') := fun wx cv' mv' t => by
    have d := trDrop_any B b L L cv' mv' (r ++ [x]) ms wx t hb (by simp [hr]) (Nat.le_refl _) (by omega)
    rw [← hr, List.take_left, List.drop_eq_nil_of_le (by simp), List.append_nil] at d
    rw [← hr]
    exact d
  have HD2 : Hid (∀ (wx : World) (cv' mv' : Value), m + 2 ≤ L → TrM B b cv' mv' r ms wx → Calls Tryz.prog 94 #[.pointer (some ⟨b, 0, none⟩), .int .i64 ((m : Int) + 1)] wx fun e w' => e = .returned (.tuple #[]) ∧ ∃ v, TrM B b v mv' (r.take (m + 1) ++ r.drop (m + 1 + 1)) ms w' ∧ Below B wx w') := fun wx cv' mv' h2 t => trDrop_any B b (m + 1) (L - 1) cv' mv' r ms wx t hb (by omega) (by omega) (by omega)
  have HD3 : Hid (∀ (wx : World) (cv' mv' : Value), m + 2 ≤ L → TrM B b cv' mv' (r.take (m + 1) ++ r.drop (m + 1 + 1)) ms wx → Calls Tryz.prog 94 #[.pointer (some ⟨b, 0, none⟩), .int .i64 (m : Int)] wx fun e w' => e = .returned (.tuple #[]) ∧ ∃ v, TrM B b v mv' (drop3 r m) ms w' ∧ Below B wx w') := fun wx cv' mv' h2 t => trDrop_any B b m (L - 2) cv' mv' _ ms wx t hb (by rw [List.length_append, List.length_take, List.length_drop]; omega) (by omega) (by omega)
  have HGt : Hid (gabO x L m = true → m + 2 ≤ L) := fun e => by
    unfold gabO at e
    rw [Bool.and_eq_true, beq_iff_eq, beq_iff_eq] at e
    have := hx4 e.1
    omega
  have hst := store_fltD
  have HHr := hidD hr
  have HHm := hidD hms
  clear h hcl htk ht hlm hlc
  unfold opC at HW1 H1 HT1 HM1 HTn HAd ⊢
  have i0 : (((N + 1 : Nat) : Int) - 1) = (N : Int) := by omega
  have i1 : (0 : Int) ≤ (N : Int) := by omega
  have i2 : (N : Int) < ((N + 1 : Nat) : Int) := by omega
  have i3 : (N : Int) ≤ (c : Int) := by omega
  have i4 : (((L + 1 : Nat) : Int) - 1) = (L : Int) := by omega
  have i5 : ¬ (m : Int) = (L : Int) := by omega
  have i6 : ((m : Int) == (L : Int)) = false := beq_eq_false_iff_ne.2 i5
  have i7 : ¬ (c : Int) < (N : Int) := by omega
  have i8 : N ≤ c := by omega
  have iw : IntKind.i64.wrap (N : Int) = (N : Int) := by rw [IntKind.wrap_i64]; omega
  have iv : IntKind.i64.wrap (L : Int) = (L : Int) := by rw [IntKind.wrap_i64]; omega
  have iu : IntKind.i64.wrap ((L : Int) + 1 - (m : Int)) = (L : Int) + 1 - (m : Int) := by rw [IntKind.wrap_i64]; omega
  have it : IntKind.i64.wrap ((m : Int) + 1) = (m : Int) + 1 := by rw [IntKind.wrap_i64]; omega
  have i9 : N ≤ N + 1 := by omega
  go_enter Tryz.func55, Tryz.ntmps55
  go_wp2_with fail
  obtain ⟨w1, hw1⟩ : ∃ w1, w.alloc (.cells #[.int .i64 o.kind, .float .f64 o.x, .float .f64 o.y, .int .i64 o.day, .int .i64 o.to, .int .i64 o.cur, .int .i64 o.count, .int .i64 o.n, .int .i64 o.months] 47) = w1 := ⟨_, rfl⟩
  rw [hw1] at HW1 H1 HT1 HM1 ⊢
  clear hw1
  have HB1 : Hid (Below B w w1 ∧ B ≤ w1.heap.size) := ⟨HW1.out.mono HBw.out, Nat.le_trans HBw.out HW1.out.size⟩
  obtain ⟨r0, r1, rf⟩ := H1.out.cells
  have y1 := rf 1
  have m0 := HM1.out.1
  clear rf HW1
  go_quiet (fail)
  go_wp2_with fail
  obtain ⟨w2, hw2⟩ : ∃ wq, World.drewN w1 nq = wq := ⟨_, rfl⟩
  have HK2 : Hid (Below w1.heap.size w1 w2) := by show Below _ _ _; rw [← hw2]; exact ⟨rfl, rfl, rfl, Nat.le_refl _, fun _ _ => rfl⟩
  rw [hw2]
  clear hw2 r0 r1 y1 m0
  have H2 := hidD (H1.out.below HK2.out)
  have HM2 := hidD (orow_below HM1.out.2 HK2.out)
  have HT2 : Hid (w2.heap[w.heap.size]? = some (.cells #[.int .i64 o.kind, .float .f64 o.x, .float .f64 o.y, .int .i64 o.day, .int .i64 o.to, .int .i64 o.cur, .int .i64 o.count, .int .i64 o.n, .int .i64 o.months] 47)) := (HK2.out.block _ (lt_of_blk HT1.out)).trans HT1.out
  have HB2 : Hid (Below B w w2 ∧ B ≤ w2.heap.size) := ⟨HB1.out.1.trans (HK2.out.mono HB1.out.2), Nat.le_trans HB1.out.2 HK2.out.size⟩
  clear H1 HM1 HT1 HB1 HK2
  obtain ⟨r0, r1, rf⟩ := H2.out.cells
  have y1 := rf 1
  clear rf
  go_region_with (fail)
  all_goals
    obtain ⟨w3, hw3⟩ : ∃ w3, World.drew (w2.setCell ⟨b, 1, none⟩ (.slice (some ⟨g, 0, none⟩) N c)) = w3 := ⟨_, rfl⟩
    have H3 : Hid (TrM B b (.slice (some ⟨gc, 0, none⟩) (L + 1) cc) (.slice (some ⟨g, 0, none⟩) N c) (r ++ [x]) ms w3 ∧ Below B w w3 ∧ B ≤ w3.heap.size ∧ w3.heap[w.heap.size]? = some (.cells #[.int .i64 o.kind, .float .f64 o.x, .float .f64 o.y, .int .i64 o.day, .int .i64 o.to, .int .i64 o.cur, .int .i64 o.count, .int .i64 o.n, .int .i64 o.months] 47)) := by
      have t := H2.out.remark HBb.out HB2.out.2 (World.grownBy.refl w2 _) (mv' := .slice (some ⟨g, 0, none⟩) N c) (ms' := ms) (by rw [HHm.out]; exact HM2.out)
      have hs : (World.drew (w2.setCell ⟨b, 1, none⟩ (.slice (some ⟨g, 0, none⟩) N c))).heap.size = w2.heap.size := by simp
      have hbn : w.heap.size ≠ b := fun e => by
        have t2 := HT2.out
        rw [e, H2.out.box] at t2
        injection t2 with t2
        injection t2 with _ t2
        exact absurd t2 (by decide)
      rw [← hw3]
      exact ⟨⟨t.2.1.box, t.2.1.code, t.2.1.marks⟩, HB2.out.1.trans t.2.2.drew, by rw [hs]; exact HB2.out.2, (blkF_far _ _ _ _ hbn).trans HT2.out⟩
    rw [hw3]
    clear hw3 r0 r1 y1
    obtain ⟨r0, r1, _⟩ := H3.out.1.cells
    have HO3 := hidD H3.out.2.2.2
    have z0 := (opx_cells HO3.out 0 rfl).1
    have z1 := (opx_cells HO3.out 1 rfl).1
    have z2 := (opx_cells HO3.out 2 rfl).1
    have z3 := (opx_cells HO3.out 3 rfl).1
    have z4 := (opx_cells HO3.out 4 rfl).1
    have z5 := (opx_cells HO3.out 5 rfl).1
    have z6 := (opx_cells HO3.out 6 rfl).1
    have z7 := (opx_cells HO3.out 7 rfl).1
    have z8 := (opx_cells HO3.out 8 rfl).1
    go_wp2_with fail
    refine (HTn.out _).mono ?_
    rintro e w4 ⟨rfl, hb4⟩
    have H4 : Hid (TrM B b (.slice (some ⟨gc, 0, none⟩) (L + 1) cc) (.slice (some ⟨g, 0, none⟩) N c) (r ++ [x]) ms w4 ∧ Below B w w4 ∧ B ≤ w4.heap.size ∧ w4.heap[w.heap.size]? = some (.cells #[.int .i64 o.kind, .float .f64 o.x, .float .f64 o.y, .int .i64 o.day, .int .i64 o.to, .int .i64 o.cur, .int .i64 o.count, .int .i64 o.n, .int .i64 o.months] 47)) := ⟨H3.out.1.below hb4, H3.out.2.1.trans (hb4.mono H3.out.2.2.1), Nat.le_trans H3.out.2.2.1 hb4.size, (hb4.block _ (lt_of_blk H3.out.2.2.2)).trans H3.out.2.2.2⟩
    clear hb4 r0 r1 z0 z1 z2 z3 z4 z5 z6 z7 z8 HO3
    obtain ⟨r0, r1, _⟩ := H4.out.1.cells
    have HO4 := hidD H4.out.2.2.2
    have z0 := (opx_cells HO4.out 0 rfl).1
    have z1 := (opx_cells HO4.out 1 rfl).1
    have z2 := (opx_cells HO4.out 2 rfl).1
    have z3 := (opx_cells HO4.out 3 rfl).1
    have z4 := (opx_cells HO4.out 4 rfl).1
    have z5 := (opx_cells HO4.out 5 rfl).1
    have z6 := (opx_cells HO4.out 6 rfl).1
    have z7 := (opx_cells HO4.out 7 rfl).1
    have z8 := (opx_cells HO4.out 8 rfl).1
    by_cases h4 : o.kind = 4
    · have zk : (o.kind == 4) = true := by rw [h4]; rfl
      have HZk := hidD zk
      clear h4
      go_wp2_with fail
      refine (HGv.out _ _ _ H4.out.1).mono ?_
      rintro e w5 ⟨rfl, hb5⟩
      have H5 : Hid (TrM B b (.slice (some ⟨gc, 0, none⟩) (L + 1) cc) (.slice (some ⟨g, 0, none⟩) N c) (r ++ [x]) ms w5 ∧ Below B w w5 ∧ B ≤ w5.heap.size ∧ w5.heap[w.heap.size]? = some (.cells #[.int .i64 o.kind, .float .f64 o.x, .float .f64 o.y, .int .i64 o.day, .int .i64 o.to, .int .i64 o.cur, .int .i64 o.count, .int .i64 o.n, .int .i64 o.months] 47)) := ⟨H4.out.1.below hb5, H4.out.2.1.trans (hb5.mono H4.out.2.2.1), Nat.le_trans H4.out.2.2.1 hb5.size, (hb5.block _ (lt_of_blk H4.out.2.2.2)).trans H4.out.2.2.2⟩
      clear zk hb5 r0 r1 z0 z1 z2 z3 z4 z5 z6 z7 z8 HO4
      obtain ⟨r0, r1, _⟩ := H5.out.1.cells
      have HO5 := hidD H5.out.2.2.2
      have z0 := (opx_cells HO5.out 0 rfl).1
      have z1 := (opx_cells HO5.out 1 rfl).1
      have z2 := (opx_cells HO5.out 2 rfl).1
      have z3 := (opx_cells HO5.out 3 rfl).1
      have z4 := (opx_cells HO5.out 4 rfl).1
      have z5 := (opx_cells HO5.out 5 rfl).1
      have z6 := (opx_cells HO5.out 6 rfl).1
      have z7 := (opx_cells HO5.out 7 rfl).1
      have z8 := (opx_cells HO5.out 8 rfl).1
      cases hG : gabO x L m
      · have eZ : Hid (Z = r ++ [x] ++ [(o, (L : Int) + 1 - (m : Int))]) := by show _ = _; rw [← HZ.out, HZk.out, hG]; rfl
        clear hG
        have HTd : Hid (TrM B b (.slice (some ⟨gc, 0, none⟩) (L + 1) cc) (.slice (some ⟨g, 0, none⟩) N c) (r ++ [x]) ms w5.drew) := ⟨H5.out.1.box, H5.out.1.code, H5.out.1.marks⟩
        have HT5 : Hid (∀ w6, Below B w5.drew w6 → Below B w w6) := fun w6 b6 => H5.out.2.1.trans ⟨b6.os, b6.tape, b6.output, b6.size, b6.block⟩
        go_wp2_with fail
        go_region_with ((go_at_call 56; refine (HAd.out _ (.slice (some ⟨g, 0, none⟩) N c) HTd.out).mono ?_; rintro e w6 ⟨rfl, v6, t6, b6⟩; have HE := hidD (And.intro t6 (HT5.out w6 b6)); clear t6 b6))
        all_goals
          go_wp2_with fail
          exact bodyPost_end (v := .tuple #[]) (by simp [results, Tryz.results55, go_sem]) rfl ⟨rfl, _, _, by rw [eZ.out]; exact HE.out.1, HE.out.2⟩
      · have eZ : Hid (Z = drop3 r m) := by show _ = _; rw [← HZ.out, HZk.out, hG]; rfl
        have HG2 := hidD (HGt.out hG)
        clear hG
        go_wp2_with fail
        refine (HD1.out _ _ _ H5.out.1).mono ?_
        rintro e w6 ⟨rfl, v6, t6, b6⟩
        have H6 := hidD (And.intro t6 (H5.out.2.1.trans b6))
        clear t6 b6
        go_wp2_with fail
        refine (HD2.out _ _ _ HG2.out H6.out.1).mono ?_
        rintro e w7 ⟨rfl, v7, t7, b7⟩
        have H7 := hidD (And.intro t7 (H6.out.2.trans b7))
        clear t7 b7
        go_wp2_with fail
        refine (HD3.out _ _ _ HG2.out H7.out.1).mono ?_
        rintro e w8 ⟨rfl, v8, t8, b8⟩
        have H8 := hidD (And.intro t8 (H7.out.2.trans b8))
        clear t8 b8
        go_wp2_with fail
        exact bodyPost_end (v := .tuple #[]) (by simp [results, Tryz.results55, go_sem]) rfl ⟨rfl, _, _, by rw [eZ.out]; exact H8.out.1, H8.out.2⟩
    · have zk : (o.kind == 4) = false := beq_eq_false_iff_ne.2 h4
      have eZ : Hid (Z = r ++ [x] ++ [(o, (L : Int) + 1 - (m : Int))]) := by show _ = _; rw [← HZ.out, zk, Bool.false_and]; rfl
      clear h4
      have HTd : Hid (TrM B b (.slice (some ⟨gc, 0, none⟩) (L + 1) cc) (.slice (some ⟨g, 0, none⟩) N c) (r ++ [x]) ms w4.drew) := ⟨H4.out.1.box, H4.out.1.code, H4.out.1.marks⟩
      have HT5 : Hid (∀ w6, Below B w4.drew w6 → Below B w w6) := fun w6 b6 => H4.out.2.1.trans ⟨b6.os, b6.tape, b6.output, b6.size, b6.block⟩
      go_wp2_with fail
      go_region_with ((go_at_call 56; refine (HAd.out _ (.slice (some ⟨g, 0, none⟩) N c) HTd.out).mono ?_; rintro e w6 ⟨rfl, v6, t6, b6⟩; have HE := hidD (And.intro t6 (HT5.out w6 b6)); clear t6 b6))
      all_goals
        go_wp2_with fail
        exact bodyPost_end (v := .tuple #[]) (by simp [results, Tryz.results55, go_sem]) rfl ⟨rfl, _, _, by rw [eZ.out]; exact HE.out.1, HE.out.2⟩
end Go.Proofs.YtienedhaogjahaaGreatDoor
namespace Go.Proofs.YtienedhaogjahaaGreatDoor
open Go.RowKit

set_option maxRecDepth 20000 in
set_option maxHeartbeats 12800000 in
theorem trTake_drop (B b L m N : Nat) (cv mv : Value) (r : List (Opr × Int)) (x : Opr × Int) (ms : List Int) (o : Opr) (w : World) (h : TrM B b cv mv (r ++ [x]) (ms ++ [(m : Int)]) w) (hb : B ≤ b) (hr : r.length = L) (hms : ms.length = N) (hL : L ≤ 90000) (hN : N ≤ 90000) (hm : m ≤ L) (hd : m = L ∨ trnO o = true) :
    Calls Tryz.prog 55 #[.pointer (some ⟨b, 0, none⟩), .agg (opC o)] w fun e w' => e = .returned (.tuple #[]) ∧ ∃ v v', TrM B b v v' ((r ++ [x]).take m ++ (r ++ [x]).drop (m + 1)) ms w' ∧ Below B w w' := by
  have HBb := hidD hb
  have HBw : Hid (B ≤ w.heap.size) := by have := lt_of_blk h.box; show _ ≤ _; omega
  obtain ⟨g, c, hmv, hmc, hcl, htk⟩ := h.shapeM (by simp)
  have hlm : (ms ++ [(m : Int)]).length = N + 1 := by simp [hms]
  rw [hlm] at hmv hmc hcl htk
  subst hmv
  obtain ⟨gc, cc, hcv⟩ := h.shape (by simp)
  have hlc : (r ++ [x]).length = L + 1 := by simp [hr]
  rw [hlc] at hcv
  subst hcv
  have HW1 := hidD (al_bel w (.cells (opC o) 47))
  have H1 := hidD (h.below HW1.out)
  have HT1 : Hid ((w.alloc (.cells (opC o) 47)).heap[w.heap.size]? = some (.cells (opC o) 47)) := heap_alloc_new _ _
  have HM1 : Hid ((w.alloc (.cells (opC o) 47)).cell? ⟨g, N, none⟩ = some (.int .i64 (m : Int)) ∧ (w.alloc (.cells (opC o) 47)).ownsRow B 3 1 (.slice (some ⟨g, 0, none⟩) N c) N (rowV inC ms)) := by
    have e0 := hcl N (by omega)
    have e1 := htk N (by omega)
    rw [← hms, List.take_left, hms] at e1
    have e2 : (ms ++ [(m : Int)]).getD N 0 = (m : Int) := by rw [← hms]; simp [List.getD]
    rw [e2] at e0
    have hgl : g < w.heap.size := by
      rcases h.marks.2 with ⟨h0, _⟩ | ⟨g', _, _, e, _, hg, _⟩
      · cases h0
      · injection e with e _ _
        injection e with e
        injection e with e _ _
        subst e
        exact lt_of_blk hg
    exact ⟨(World.cell?_of_block (w := w) (a := ⟨g, N, none⟩) (HW1.out.block g hgl)).trans e0, orow_below e1 HW1.out⟩
  have HTn : Hid (∀ wx, Calls Tryz.prog 93 #[.agg (opC o)] wx fun e w' => e = .returned (.bool (trnO o)) ∧ Below wx.heap.size wx w') := fun wx => turns_any o wx
  have HDm : Hid (∀ (wx : World) (cv' mv' : Value), TrM B b cv' mv' (r ++ [x]) ms wx → Calls Tryz.prog 94 #[.pointer (some ⟨b, 0, none⟩), .int .i64 (m : Int)] wx fun e w' => e = .returned (.tuple #[]) ∧ ∃ v, TrM B b v mv' ((r ++ [x]).take m ++ (r ++ [x]).drop (m + 1)) ms w' ∧ Below B wx w') := fun wx cv' mv' t => trDrop_any B b m L cv' mv' (r ++ [x]) ms wx t hb (by simp [hr]) hm (by omega)
  have hst := store_fltD
  have HHr := hidD hr
  have HHm := hidD hms
  generalize (r ++ [x]).take m ++ (r ++ [x]).drop (m + 1) = Z at HDm ⊢
  clear h hcl htk hlm hlc
  unfold opC at HW1 H1 HT1 HM1 HTn ⊢
  have i0 : (((N + 1 : Nat) : Int) - 1) = (N : Int) := by omega
  have i1 : (0 : Int) ≤ (N : Int) := by omega
  have i2 : (N : Int) < ((N + 1 : Nat) : Int) := by omega
  have i3 : (N : Int) ≤ (c : Int) := by omega
  have i4 : (((L + 1 : Nat) : Int) - 1) = (L : Int) := by omega
  have i7 : ¬ (c : Int) < (N : Int) := by omega
  have i8 : N ≤ c := by omega
  have iw : IntKind.i64.wrap (N : Int) = (N : Int) := by rw [IntKind.wrap_i64]; omega
  have iv : IntKind.i64.wrap (L : Int) = (L : Int) := by rw [IntKind.wrap_i64]; omega
  have i9 : N ≤ N + 1 := by omega
  go_enter Tryz.func55, Tryz.ntmps55
  go_wp2_with fail
  obtain ⟨w1, hw1⟩ : ∃ w1, w.alloc (.cells #[.int .i64 o.kind, .float .f64 o.x, .float .f64 o.y, .int .i64 o.day, .int .i64 o.to, .int .i64 o.cur, .int .i64 o.count, .int .i64 o.n, .int .i64 o.months] 47) = w1 := ⟨_, rfl⟩
  rw [hw1] at HW1 H1 HT1 HM1 ⊢
  clear hw1
  have HB1 : Hid (Below B w w1 ∧ B ≤ w1.heap.size) := ⟨HW1.out.mono HBw.out, Nat.le_trans HBw.out HW1.out.size⟩
  obtain ⟨r0, r1, rf⟩ := H1.out.cells
  have y1 := rf 1
  have m0 := HM1.out.1
  clear rf HW1
  go_quiet (fail)
  go_wp2_with fail
  obtain ⟨w2, hw2⟩ : ∃ wq, World.drewN w1 nq = wq := ⟨_, rfl⟩
  have HK2 : Hid (Below w1.heap.size w1 w2) := by show Below _ _ _; rw [← hw2]; exact ⟨rfl, rfl, rfl, Nat.le_refl _, fun _ _ => rfl⟩
  rw [hw2]
  clear hw2 r0 r1 y1 m0
  have H2 := hidD (H1.out.below HK2.out)
  have HM2 := hidD (orow_below HM1.out.2 HK2.out)
  have HT2 : Hid (w2.heap[w.heap.size]? = some (.cells #[.int .i64 o.kind, .float .f64 o.x, .float .f64 o.y, .int .i64 o.day, .int .i64 o.to, .int .i64 o.cur, .int .i64 o.count, .int .i64 o.n, .int .i64 o.months] 47)) := (HK2.out.block _ (lt_of_blk HT1.out)).trans HT1.out
  have HB2 : Hid (Below B w w2 ∧ B ≤ w2.heap.size) := ⟨HB1.out.1.trans (HK2.out.mono HB1.out.2), Nat.le_trans HB1.out.2 HK2.out.size⟩
  clear H1 HM1 HT1 HB1 HK2
  obtain ⟨r0, r1, rf⟩ := H2.out.cells
  have y1 := rf 1
  clear rf
  go_region_with (fail)
  all_goals
    obtain ⟨w3, hw3⟩ : ∃ w3, World.drew (w2.setCell ⟨b, 1, none⟩ (.slice (some ⟨g, 0, none⟩) N c)) = w3 := ⟨_, rfl⟩
    have H3 : Hid (TrM B b (.slice (some ⟨gc, 0, none⟩) (L + 1) cc) (.slice (some ⟨g, 0, none⟩) N c) (r ++ [x]) ms w3 ∧ Below B w w3 ∧ B ≤ w3.heap.size ∧ w3.heap[w.heap.size]? = some (.cells #[.int .i64 o.kind, .float .f64 o.x, .float .f64 o.y, .int .i64 o.day, .int .i64 o.to, .int .i64 o.cur, .int .i64 o.count, .int .i64 o.n, .int .i64 o.months] 47)) := by
      have t := H2.out.remark HBb.out HB2.out.2 (World.grownBy.refl w2 _) (mv' := .slice (some ⟨g, 0, none⟩) N c) (ms' := ms) (by rw [HHm.out]; exact HM2.out)
      have hs : (World.drew (w2.setCell ⟨b, 1, none⟩ (.slice (some ⟨g, 0, none⟩) N c))).heap.size = w2.heap.size := by simp
      have hbn : w.heap.size ≠ b := fun e => by
        have t2 := HT2.out
        rw [e, H2.out.box] at t2
        injection t2 with t2
        injection t2 with _ t2
        exact absurd t2 (by decide)
      rw [← hw3]
      exact ⟨⟨t.2.1.box, t.2.1.code, t.2.1.marks⟩, HB2.out.1.trans t.2.2.drew, by rw [hs]; exact HB2.out.2, (blkF_far _ _ _ _ hbn).trans HT2.out⟩
    rw [hw3]
    clear hw3 r0 r1 y1
    obtain ⟨r0, r1, _⟩ := H3.out.1.cells
    have HO3 := hidD H3.out.2.2.2
    have z0 := (opx_cells HO3.out 0 rfl).1
    have z1 := (opx_cells HO3.out 1 rfl).1
    have z2 := (opx_cells HO3.out 2 rfl).1
    have z3 := (opx_cells HO3.out 3 rfl).1
    have z4 := (opx_cells HO3.out 4 rfl).1
    have z5 := (opx_cells HO3.out 5 rfl).1
    have z6 := (opx_cells HO3.out 6 rfl).1
    have z7 := (opx_cells HO3.out 7 rfl).1
    have z8 := (opx_cells HO3.out 8 rfl).1
    by_cases hmL : m = L
    · have t1 : ((m : Int) == (L : Int)) = true := by rw [hmL]; exact beq_self_eq_true _
      clear hmL hd
      go_wp2_with fail
      refine (HDm.out _ _ _ H3.out.1).mono ?_
      rintro e w8 ⟨rfl, v8, t8, b8⟩
      have H8 := hidD (And.intro t8 (H3.out.2.1.trans b8))
      clear t8 b8
      go_wp2_with fail
      exact bodyPost_end (v := .tuple #[]) (by simp [results, Tryz.results55, go_sem]) rfl ⟨rfl, _, _, H8.out.1, H8.out.2⟩
    · have t1 : ((m : Int) == (L : Int)) = false := beq_eq_false_iff_ne.2 (by omega)
      have ht : trnO o = true := hd.resolve_left hmL
      rw [ht] at HTn
      clear hmL hd ht
      go_wp2_with fail
      refine (HTn.out _).mono ?_
      rintro e w4 ⟨rfl, hb4⟩
      have H4 : Hid (TrM B b (.slice (some ⟨gc, 0, none⟩) (L + 1) cc) (.slice (some ⟨g, 0, none⟩) N c) (r ++ [x]) ms w4 ∧ Below B w w4 ∧ B ≤ w4.heap.size) := ⟨H3.out.1.below hb4, H3.out.2.1.trans (hb4.mono H3.out.2.2.1), Nat.le_trans H3.out.2.2.1 hb4.size⟩
      clear hb4 r0 r1 z0 z1 z2 z3 z4 z5 z6 z7 z8 HO3
      obtain ⟨r0, r1, _⟩ := H4.out.1.cells
      go_wp2_with fail
      refine (HDm.out _ _ _ H4.out.1).mono ?_
      rintro e w8 ⟨rfl, v8, t8, b8⟩
      have H8 := hidD (And.intro t8 (H4.out.2.1.trans b8))
      clear t8 b8
      go_wp2_with fail
      exact bodyPost_end (v := .tuple #[]) (by simp [results, Tryz.results55, go_sem]) rfl ⟨rfl, _, _, H8.out.1, H8.out.2⟩
end Go.Proofs.YtienedhaogjahaaGreatDoor
