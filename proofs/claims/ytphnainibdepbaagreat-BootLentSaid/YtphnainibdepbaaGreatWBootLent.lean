/- The walk of BootLent. -/
import Derived.Test.YtphnainibdepbaaGreatHbw
import Derived.Test.YtphnainibdepbaaGreatHbb
namespace Go.Proofs.YtphnainibdepbaaGreat
open Go.RowKit

theorem pos_gt {x : Nat} (h0 : 0 < x) (h1 : x < 9218868437227405312) : (FloatKind.f64.format.order x 0 == some .gt) = true := by
  have hx : nanB x = false := by unfold nanB szI; simp; omega
  rw [gt_rank (by constructor <;> omega) (by constructor <;> omega) hx rfl]
  have hs : sgB (x : Int) = false := by unfold sgB; simp; omega
  have e : rankI (x : Int) = (x : Int) := by unfold rankI; rw [hx, hs]; show szI (x : Int) = _; unfold szI; omega
  rw [e, show rankI ((0 : Nat) : Int) = 0 from rfl]
  exact decide_eq_true (by omega)
theorem own77 (qs : List Quo) : (qs ++ [q77]).getD qs.length quo0 = q77 := by simp [List.getD]
theorem ownAt {qs : List Quo} {i : Nat} (h : i < qs.length) : (qs ++ [q77]).getD i quo0 = qs.getD i quo0 := by
  rw [List.getD_eq_getElem?_getD, List.getD_eq_getElem?_getD, List.getElem?_append_left h]
set_option maxRecDepth 20000 in
set_option maxHeartbeats 25600000 in
theorem bootLent_go (base kind W : Int) (p pq : Option Addr) (nr c cq N : Nat) (w : World) (bq oq : Nat) (qs : List Quo) (hqs : QSrc w pq bq oq qs) (hql : qs.length = N) (hnil : pq = none → N = 0 ∧ cq = 0) (b0 k0 E K : Int) (n : Nat) (dn : List Int) (fn : List Nat) (hn64 : n ≤ 64) (hE : E = 0 → n = N ∧ 0 < N ∧ 0 < fn.getD 0 0 ∧ fn.getD 0 0 < 9218868437227405312)
    (HF : Hid (∀ wx, Below w.heap.size w wx → Calls Tryz.prog 4 #[.int .i64 base, .int .i64 kind, .agg #[.int .i64 W, .slice p nr c], .slice pq N cq] wx fun e w' => (∃ f, e = .returned (.bool f) ∧ (f = true → N ≤ 5)) ∧ Below wx.heap.size wx w'))
    (H1 : Hid (∀ wx g k, Below w.heap.size w wx → QSrc wx (some ⟨g, 0, none⟩) g 0 qs → Calls Tryz.prog 6 #[.int .i64 base, .int .i64 kind, .agg #[.int .i64 W, .slice p nr c], .slice (some ⟨g, 0, none⟩) N k] wx fun e w' => (∃ px py cx cy gx gy, e = .returned (.tuple #[.agg #[.int .i64 b0, .int .i64 k0, .slice px n cx, .slice py n cy], .int .i64 E, .int .i64 K]) ∧ BlT wx.heap.size n px py gx gy dn fn w') ∧ Below wx.heap.size wx w')) :
    Calls Tryz.prog 3 #[.int .i64 base, .int .i64 kind, .agg #[.int .i64 W, .slice p nr c], .slice pq N cq] w fun e w' => e = .returned (.bool true) ∧ Below w.heap.size w w' := by
  have HQ := hideS (And.intro hqs hql)
  have HNil := hideS hnil
  have HE := hideS hE
  have Hn := hideS hn64
  clear hqs hql hnil hE hn64
  have HB := hideS (cbq_at w W (.slice p nr c))
  have HA := hideS awake13
  go_enter Tryz.func3, Tryz.ntmps3
  go_wp2_with fail
  refine (HF.out _ HB.out.bl).mono ?_
  rintro e w1 ⟨⟨f, rfl, hf⟩, hb⟩
  have HB1 := hideS (HB.out.step hb)
  have k0' := HB1.out.k0
  have k1' := HB1.out.k1
  clear hb HF HB
  cases f
  · go_wp2_with fail
    refine (HA.out _).mono ?_
    rintro e w2 ⟨rfl, hb⟩
    have HB2 := hideS (HB1.out.step hb)
    clear hb
    go_wp2_with fail
    go_ret
    exact ⟨rfl, HB2.out.bl⟩
  have hN := hf rfl
  clear hf
  have HL : Hid (qs.length = N) := HQ.out.2
  have HO1 : Hid ((w1.alloc (.cells #[] 30)).ownsRow w1.heap.size 30 5 (.slice (some ⟨w1.heap.size, 0, none⟩) 0 0) 0 (rowQ [])) := own_empQ w1 30
  have HS1 : Hid (QSrc (w1.alloc (.cells #[] 30)) pq bq oq qs) := (HQ.out.1.below HB1.out.bl).below ((Below.refl _ _).alloc (Nat.le_refl _) _)
  have HN1 : Hid (w1.heap.size ≤ (w1.alloc (.cells #[] 30)).heap.size) := by show _ ≤ _; simp
  go_wp2_with (at_builtin; first
    | (refine wpList_append_quoN _ rfl (.tmp 29) (.tmp 30) rfl w1.heap.size (.slice (some ⟨w1.heap.size, 0, none⟩) 0 0) 0 [] rfl HO1.out pq bq oq cq N qs rfl HL.out HS1.out HNil.out (by omega) (by omega) HN1.out ?_; intro v2 w2 ho2 hg2; have HO2 := hideS ho2; have HG2 := hideS hg2; clear ho2 hg2)
    | (refine wpList_append_quo _ rfl (.tmp 31) (.tmp 33) rfl w1.heap.size v2 (0 + N) ([] ++ qs) rfl (qown_below HO2.out ((Below.refl _ _).alloc (Nat.le_refl _) _)) w2.heap.size 0 1 [q77] rfl (one_77 w2) (by omega) (by decide) (Nat.le_trans HN1.out (Nat.le_trans HG2.out.size (by simp))) ?_; intro v3 w3 ho3 hg3; have HO3 := hideS ho3; have HG3 := hideS hg3; clear ho3 hg3))
  have HG1 : Hid (Below w1.heap.size w1 w2) := ((Below.refl _ w1).alloc (Nat.le_refl _) _).trans (qgrown_below HO1.out HG2.out HN1.out)
  have HN2 : Hid (w1.heap.size ≤ (w2.alloc (.cells #[.int .i64 77, .int .i64 0, .int .i64 0, .int .i64 0, .float .f32 0] 30)).heap.size) := Nat.le_trans HG1.out.size (by simp)
  have HW3 : Hid (Below w1.heap.size w1 w3) := (HG1.out.alloc HG1.out.size _).trans (qgrown_below (qown_below HO2.out ((Below.refl _ _).alloc (Nat.le_refl _) _)) HG3.out HN2.out)
  have HB3 := hideS (HB1.out.step HW3.out)
  obtain ⟨p3, g3, c3, rfl, s3, hg3, hn3, hc3⟩ := qown_src HO3.out (by simp [HL.out])
  obtain rfl := s3.at_ (by simp)
  rw [List.nil_append] at s3
  have hle : 0 + N + [q77].length = N + 1 := by rw [Nat.zero_add]; rfl
  rw [hle] at hn3 ⊢
  have HS3 := hideS (And.intro s3 (And.intro hg3 (And.intro hn3 hc3)))
  clear hle s3 hg3 hn3 hc3 HG1 HN2 HW3 HO3 HG3 HO2 HG2 HO1 HN1 HS1 k0' k1' HB1
  have HQ3 : Hid (∀ wx, Below w3.heap.size w3 wx → QSrc wx (some ⟨g3, 0, none⟩) g3 0 qs) := fun wx hb => by
    have := (HS3.out.1.below hb).take qs.length
    rw [List.take_left] at this
    exact this
  have k0' := HB3.out.k0
  have k1' := HB3.out.k1
  have m1 : (0 : Int) ≤ (N : Int) := Int.natCast_nonneg _
  have m2 : (N : Int) ≤ (c3 : Int) := by have := HS3.out.2.2.1; omega
  have m3 : ¬ ((c3 : Int) < (N : Int)) := by omega
  have m4 : ¬ ((N : Int) < 0) := by omega
  have m5 : N ≤ c3 := by omega
  have hz2 : Below w3.heap.size w3 (w3.alloc (.cells #[.int .i64 0, .int .i64 0, .slice none 0 0, .slice none 0 0] 34)) := (Below.refl _ _).alloc (Nat.le_refl _) _
  have HKa := hideS ((H1.out (w3.drewN 1) g3 c3 (bel_drew HB3.out.bl 1) (HQ3.out _ (bel_drew (Below.refl _ _) 1))).mono (fun e w' h => (⟨h.1, ⟨h.2.os, h.2.tape, h.2.output, h.2.size, h.2.block⟩⟩ : _ ∧ Below w3.heap.size w3 w')))
  have HKb := hideS ((H1.out ((w3.alloc (.cells #[.int .i64 0, .int .i64 0, .slice none 0 0, .slice none 0 0] 34)).drewN 1) g3 c3 (bel_drew (HB3.out.step hz2).bl 1) (HQ3.out _ (bel_drew hz2 1))).mono (fun e w' h => (⟨h.1, bel_two hz2 h.2, (z4_at w3).below ⟨h.2.os, h.2.tape, h.2.output, h.2.size, h.2.block⟩⟩ : _ ∧ Below w3.heap.size w3 w' ∧ Z4 w3.heap.size w')))
  clear hz2
  have hlta : w.heap.size < w3.heap.size := HB3.out.lt
  have hnea := Nat.ne_of_lt hlta
  go_region_held3 (fun w' => w'.cell? ⟨w.heap.size, 0, none⟩ = some (.int .i64 W) ∧ w'.cell? ⟨w.heap.size, 1, none⟩ = some (.slice p nr c)) (first | exact ⟨HB4.out.k0, HB4.out.k1⟩ | (refine ⟨?_, ?_⟩ <;> simp [go_sem, *]) | go_keep) (first | (go_at_call 6; refine HKa.out.mono ?_; rintro e w4 ⟨⟨px, py, cx, cy, gx, gy, rfl, s1⟩, hb⟩; have HW4 := hideS hb; have HT4 := hideS s1; have HB4 := hideS (HB3.out.step hb); have hlt4 : w.heap.size < w4.heap.size := HB4.out.lt; have hne4 := Nat.ne_of_lt hlt4; have k04 := HB4.out.k0; have k14 := HB4.out.k1; clear hb s1) | (go_at_call 6; refine HKb.out.mono ?_; rintro e w4 ⟨⟨px, py, cx, cy, gx, gy, rfl, s1⟩, hb, hz⟩; have HW4 := hideS hb; have HT4 := hideS s1; have HB4 := hideS (HB3.out.step hb); have z0 := hz.c0; have z1 := hz.c1; have z2 := hz.c2; have z3 := hz.c3; have y0 := hz.fz 0; have y1 := hz.fz 1; have y2 := hz.fz 2; have y3 := hz.fz 3; have k04 := HB4.out.k0; have k14 := HB4.out.k1; have HZ4 := hideS hz; clear hb hz s1))
  obtain ⟨w5, hw5⟩ : ∃ w5, w4.alloc (.cells #[.int .i64 b0, .int .i64 k0, .slice px n cx, .slice py n cy] 34) = w5 := ⟨_, rfl⟩
  have HE5 : Hid (BlE w3.heap.size w4.heap.size b0 k0 n px py cx cy gx gy dn fn w5) := by show BlE _ _ _ _ _ _ _ _ _ _ _ _ _ _; rw [← hw5]; exact blE_after HT4.out HW4.out.size
  have HW5 : Hid (Below w3.heap.size w3 w5) := by show Below _ _ _; rw [← hw5]; exact HW4.out.trans ((Below.refl _ _).alloc HW4.out.size _)
  rw [hw5]
  clear hw5 hlt4 hne4
  generalize w4.heap.size = D at HE5 ⊢
  rotate_left
  obtain ⟨w5, hw5⟩ : ∃ w5, putB4 w4 w3.heap.size b0 k0 (.slice px n cx) (.slice py n cy) = w5 := ⟨_, rfl⟩
  have HE5 : Hid (BlE w3.heap.size w3.heap.size b0 k0 n px py cx cy gx gy dn fn w5) := by show BlE _ _ _ _ _ _ _ _ _ _ _ _ _ _; rw [← hw5]; exact blE_before (HT4.out.up (by simp)) HZ4.out
  have HW5 : Hid (Below w3.heap.size w3 w5) := by show Below _ _ _; rw [← hw5]; exact HW4.out.trans (putB4_bel _ _ _ _ (Nat.le_refl _))
  unfold putB4 at hw5
  rw [hw5]
  clear hw5 HZ4 z0 z1 z2 z3 y0 y1 y2 y3
  obtain ⟨D, hD⟩ : ∃ D, w3.heap.size = D := ⟨_, rfl⟩
  have HE5 : Hid (BlE w3.heap.size D b0 k0 n px py cx cy gx gy dn fn w5) := by show BlE _ _ _ _ _ _ _ _ _ _ _ _ _ _; rw [← hD]; exact HE5.out
  rw [hD]
  clear hD
  rotate_left
  all_goals (
    clear HKa HKb hlta hnea k0' k1' k04 k14 HB4 HW4 HT4
    have HB5 := hideS (HB3.out.step HW5.out)
    have k0' := HB5.out.k0
    have k1' := HB5.out.k1
    have hz2 : Below w5.heap.size w5 (w5.alloc (.cells #[.int .i64 0, .int .i64 0, .slice none 0 0, .slice none 0 0] 34)) := (Below.refl _ _).alloc (Nat.le_refl _) _
    have HQ5 : Hid (∀ wx, Below w5.heap.size w5 wx → QSrc wx (some ⟨g3, 0, none⟩) g3 0 qs) := fun wx hb => HQ3.out wx (HW5.out.trans (hb.mono HW5.out.size))
    have HKa := hideS ((H1.out (w5.drewN 1) g3 c3 (bel_drew HB5.out.bl 1) (HQ5.out _ (bel_drew (Below.refl _ _) 1))).mono (fun e w' h => (⟨h.1, ⟨h.2.os, h.2.tape, h.2.output, h.2.size, h.2.block⟩⟩ : _ ∧ Below w5.heap.size w5 w')))
    have HKb := hideS ((H1.out ((w5.alloc (.cells #[.int .i64 0, .int .i64 0, .slice none 0 0, .slice none 0 0] 34)).drewN 1) g3 c3 (bel_drew (HB5.out.step hz2).bl 1) (HQ5.out _ (bel_drew hz2 1))).mono (fun e w' h => (⟨h.1, bel_two hz2 h.2, (z4_at w5).below ⟨h.2.os, h.2.tape, h.2.output, h.2.size, h.2.block⟩⟩ : _ ∧ Below w5.heap.size w5 w' ∧ Z4 w5.heap.size w')))
    clear hz2
    have hlta : w.heap.size < w5.heap.size := HB5.out.lt
    have hnea := Nat.ne_of_lt hlta
    go_wp2_with fail
    go_region_held3 (fun w' => w'.cell? ⟨w.heap.size, 0, none⟩ = some (.int .i64 W) ∧ w'.cell? ⟨w.heap.size, 1, none⟩ = some (.slice p nr c)) (first | exact ⟨HB6.out.k0, HB6.out.k1⟩ | (refine ⟨?_, ?_⟩ <;> simp [go_sem, *]) | go_keep) (first | (go_at_call 6; refine HKa.out.mono ?_; rintro e w6 ⟨⟨qx, qy, ex, ey, hx, hy, rfl, s1⟩, hb⟩; have HW6 := hideS hb; have HT6 := hideS s1; have HB6 := hideS (HB5.out.step hb); have hlt6 : w.heap.size < w6.heap.size := HB6.out.lt; have hne6 := Nat.ne_of_lt hlt6; have k06 := HB6.out.k0; have k16 := HB6.out.k1; clear hb s1) | (go_at_call 6; refine HKb.out.mono ?_; rintro e w6 ⟨⟨qx, qy, ex, ey, hx, hy, rfl, s1⟩, hb, hz⟩; have HW6 := hideS hb; have HT6 := hideS s1; have HB6 := hideS (HB5.out.step hb); have z0 := hz.c0; have z1 := hz.c1; have z2 := hz.c2; have z3 := hz.c3; have y0 := hz.fz 0; have y1 := hz.fz 1; have y2 := hz.fz 2; have y3 := hz.fz 3; have k06 := HB6.out.k0; have k16 := HB6.out.k1; have HZ6 := hideS hz; clear hb hz s1))
    obtain ⟨w7, hw7⟩ : ∃ w7, w6.alloc (.cells #[.int .i64 b0, .int .i64 k0, .slice qx n ex, .slice qy n ey] 34) = w7 := ⟨_, rfl⟩
    have HE7 : Hid (BlE w5.heap.size w6.heap.size b0 k0 n qx qy ex ey hx hy dn fn w7) := by show BlE _ _ _ _ _ _ _ _ _ _ _ _ _ _; rw [← hw7]; exact blE_after HT6.out HW6.out.size
    have HW7 : Hid (Below w5.heap.size w5 w7) := by show Below _ _ _; rw [← hw7]; exact HW6.out.trans ((Below.refl _ _).alloc HW6.out.size _)
    rw [hw7]
    clear hw7 hlt6 hne6
    generalize w6.heap.size = D2 at HE7 ⊢
    rotate_left
    obtain ⟨w7, hw7⟩ : ∃ w7, putB4 w6 w5.heap.size b0 k0 (.slice qx n ex) (.slice qy n ey) = w7 := ⟨_, rfl⟩
    have HE7 : Hid (BlE w5.heap.size w5.heap.size b0 k0 n qx qy ex ey hx hy dn fn w7) := by show BlE _ _ _ _ _ _ _ _ _ _ _ _ _ _; rw [← hw7]; exact blE_before (HT6.out.up (by simp)) HZ6.out
    have HW7 : Hid (Below w5.heap.size w5 w7) := by show Below _ _ _; rw [← hw7]; exact HW6.out.trans (putB4_bel _ _ _ _ (Nat.le_refl _))
    unfold putB4 at hw7
    rw [hw7]
    clear hw7 HZ6 z0 z1 z2 z3 y0 y1 y2 y3
    obtain ⟨D2, hD⟩ : ∃ D, w5.heap.size = D := ⟨_, rfl⟩
    have HE7 : Hid (BlE w5.heap.size D2 b0 k0 n qx qy ex ey hx hy dn fn w7) := by show BlE _ _ _ _ _ _ _ _ _ _ _ _ _ _; rw [← hD]; exact HE7.out
    rw [hD]
    clear hD
    rotate_left
    all_goals (
      clear HKa HKb hlta hnea k0' k1' k06 k16 HB6 HW6 HT6 m1 m2 m3 m4 m5
      have r0 := HE7.out.c.t0
      have r1 := HE7.out.c.t1
      have r2 := HE7.out.c.t2
      have r3 := HE7.out.c.t3
      go_wp2_with fail
      refine (docOfG b0 k0 qx qy hx 0 ex hy 0 ey n dn fn w7 HE7.out.t.src HE7.out.t.lx HE7.out.t.ly (by have := Hn.out; omega)).mono ?_
      rintro e w8 ⟨ry, jy, fy, rfl, hcs, hjy, hb8⟩
      have HJ := hideS (And.intro hcs (And.intro hjy hb8))
      clear hcs hjy hb8 r0 r1 r2 r3
      go_wp2_with fail
      obtain ⟨w9, hw9⟩ : ∃ w9, w8.alloc (.cells #[.int .i64 b0, .int .i64 k0, .slice qx n ex, .slice ry n fy] 40) = w9 := ⟨_, rfl⟩
      have Hal : Hid (Below w8.heap.size w8 w9) := by show Below _ _ _; rw [← hw9]; exact (Below.refl _ _).alloc (Nat.le_refl _) _
      have H79 : Hid (Below w7.heap.size w7 w9) := HJ.out.2.2.trans (Hal.out.mono HJ.out.2.2.size)
      have H59 : Hid (Below w5.heap.size w5 w9) := HW7.out.trans (H79.out.mono HW7.out.size)
      have H39 : Hid (Below w3.heap.size w3 w9) := HW5.out.trans (H59.out.mono HW5.out.size)
      have HD : Hid (BlD w w3.heap.size w5.heap.size D2 w8.heap.size g3 b0 k0 n qx qy ry ex ey fy hx hy jy dn fn pq bq oq qs w9) := by
        refine ⟨HE7.out.c.below H79.out, HE7.out.t.src.below H79.out, ?_, HJ.out.1.below Hal.out, HS3.out.1.below H39.out, HQ.out.1.below (HB3.out.step H39.out).bl, (HB3.out.step H39.out).bl, HE7.out.lo, Nat.le_trans HW7.out.size HJ.out.2.2.size, HS3.out.1.lt (by simp), fun hn => ⟨(HE7.out.t.lo hn).1, (HE7.out.t.lo hn).2, Nat.le_trans HW7.out.size HJ.out.2.1⟩, HE7.out.t.lx, HE7.out.t.ly, HB3.out.bl.size, HQ.out.1.lt⟩
        rw [← hw9]
        exact ⟨by simp, by simp, by simp, by simp⟩
      have HC : Hid (BlC w3.heap.size w5.heap.size D b0 k0 n px py cx cy gx gy w9 w9) := ⟨HE5.out.c.below H59.out, (HE5.out.t.below H59.out).wx, (HE5.out.t.below H59.out).wy, RnB.refl _ _ _⟩
      have HP : Hid (0 < n → (gx ≠ D ∧ gy ≠ D) ∧ gx ≠ gy ∧ w3.heap.size ≤ gx ∧ gx < w5.heap.size ∧ w3.heap.size ≤ gy ∧ gy < w5.heap.size ∧ px = some ⟨gx, 0, none⟩ ∧ py = some ⟨gy, 0, none⟩) := fun hn => ⟨HE5.out.ne hn, HE5.out.t.ne hn, (HE5.out.t.lo hn).1, (HE5.out.t.hi hn).1, (HE5.out.t.lo hn).2, (HE5.out.t.hi hn).2, HE5.out.t.px hn, HE5.out.t.py hn⟩
      have Hc3 : Hid (N + 1 ≤ c3) := HS3.out.2.2.1
      rw [hw9]
      clear hw9 Hal H79 H59 H39 HJ HE5 HE7 HW5 HW7 HB3 HB5 HS3 HQ3 HQ5
      generalize w8.heap.size = D3 at HD ⊢
      go_loopw [17] (fun iv wr => ∃ i : Nat, i ≤ n ∧ iv = .int .i64 i ∧ Hid (BlC w3.heap.size w5.heap.size D b0 k0 n px py cx cy gx gy w9 wr)) (fun iv _ => n - (intOf iv).toNat)
      case atStart => exact ⟨0, Nat.zero_le _, rfl, HC⟩
      case round =>
        clear HC
        obtain ⟨i, hi, rfl, HI⟩ := hrel
        by_cases hlt : i < n
        · obtain ⟨⟨nD, _⟩, nXY, a1, a2, _, _, ePx, _⟩ := HP.out (by omega)
          have c2 := HI.out.c.t2
          rw [ePx] at c2
          obtain ⟨u, hu⟩ := HI.out.x.cell i hlt
          have fz := HI.out.x.fz (by omega) i
          have i1 : (i : Int) < (n : Int) := by omega
          have hn64 := Hn.out
          have HW := hideS (HI.out.put (k := i) (.int .i64 (-1)) nD (Or.inl rfl) nXY a1 a2)
          obtain ⟨wz, hwz⟩ : ∃ wz, wr.setCell ⟨gx, i, none⟩ (.int .i64 (-1)) = wz := ⟨_, rfl⟩
          rw [hwz] at HW
          clear nD nXY a1 a2 ePx HI
          go_wp2_with fail
          clear hwz hu fz c2
          go_roundw
          case rel => exact ⟨i + 1, by omega, by simp, HW⟩
          case measure => simp [intOf]; omega
        · have i1 : ¬ (i : Int) < (n : Int) := by omega
          have c2 := HI.out.c.t2
          generalize wr = wA at *
          go_wp2_with fail
          clear c2
          go_loopw [18] (fun iv wr => ∃ i : Nat, i ≤ n ∧ iv = .int .i64 i ∧ Hid (BlC w3.heap.size w5.heap.size D b0 k0 n px py cx cy gx gy w9 wr)) (fun iv _ => n - (intOf iv).toNat)
          case atStart => exact ⟨0, Nat.zero_le _, rfl, HI⟩
          case round =>
            clear HI hlt i1 hi
            obtain ⟨j, hi, rfl, HI⟩ := hrel
            by_cases hlt : j < n
            · obtain ⟨⟨_, nD⟩, nXY, _, _, a1, a2, _, ePy⟩ := HP.out (by omega)
              have c2 := HI.out.c.t3
              rw [ePy] at c2
              obtain ⟨u, hu⟩ := HI.out.y.cell j hlt
              have fz := HI.out.y.fz (by omega) j
              have i1 : (j : Int) < (n : Int) := by omega
              have hn64 := Hn.out
              have HW := hideS (HI.out.put (k := j) (.float .f64 13830554455654793216) nD (Or.inr rfl) nXY a1 a2)
              obtain ⟨wz, hwz⟩ : ∃ wz, wr.setCell ⟨gy, j, none⟩ (.float .f64 13830554455654793216) = wz := ⟨_, rfl⟩
              rw [hwz] at HW
              have hst := store_flt
              clear nD nXY a1 a2 ePy HI
              go_wp2_with fail
              clear hwz hu fz c2 hst
              go_roundw
              case rel => exact ⟨j + 1, by omega, by simp, HW⟩
              case measure => simp [intOf]; omega
            · have i1 : ¬ (j : Int) < (n : Int) := by omega
              have c2 := HI.out.c.t3
              have HDb := hideS (HD.out.rn HI.out.r)
              clear HD HP
              generalize wr = wB at *
              go_wp2_with fail
              clear c2 HI hlt i1 hi
              go_loopw [19] (fun iv wr => ∃ i : Nat, i ≤ N ∧ iv = .int .i64 i ∧ Hid (BlD w w3.heap.size w5.heap.size D2 D3 g3 b0 k0 n qx qy ry ex ey fy hx hy jy dn fn pq bq oq qs wr)) (fun iv _ => N - (intOf iv).toNat)
              case atStart => exact ⟨0, Nat.zero_le _, rfl, HDb⟩
              case round =>
                clear HDb
                obtain ⟨k, hk, rfl, HI⟩ := hrel
                by_cases hlt : k < N
                · have c := HI.out.own.cell k (by rw [List.length_append, HL.out]; show k < N + 1; omega)
                  rw [ownAt (by rw [HL.out]; exact hlt), Nat.zero_add] at c
                  obtain ⟨c0, c1, c2, c3', c4⟩ := c
                  obtain ⟨e0, e1, e2, e3, e4⟩ := HI.out.inn.cell k (by rw [HL.out]; exact hlt)
                  have ePq := HI.out.inn.at_ (by rw [HL.out]; omega)
                  subst ePq
                  have i1 : (k : Int) < (N : Int) := by omega
                  have i2 : (k : Int) < (N : Int) + 1 := by omega
                  have hbq : bq < wr.heap.size := HI.out.inn.lt (by rw [HL.out]; omega)
                  have hbn : bq ≠ wr.heap.size := Nat.ne_of_lt hbq
                  have hst := store_f32
                  have HB32 := hideS (fun r w => (bits32_any r w).mono fun e w' h => (⟨h.1, h.2.symm⟩ : e = .returned (.int .u32 r) ∧ w = w'))
                  generalize (qs.getD k quo0).kind = qk at *
                  generalize (qs.getD k quo0).fin = qf at *
                  generalize (qs.getD k quo0).count = qc at *
                  generalize (qs.getD k quo0).n = qn at *
                  generalize (qs.getD k quo0).rate = qr at *
                  go_wp2_with fail
                  obtain ⟨wz, hwz⟩ : ∃ wz, (wr.alloc (.cells #[.int .i64 qk, .int .i64 qf, .int .i64 qc, .int .i64 qn, .float .f32 qr] 30)).alloc (.cells #[.int .i64 qk, .int .i64 qf, .int .i64 qc, .int .i64 qn, .float .f32 qr] 30) = wz := ⟨_, rfl⟩
                  have HZ : Hid (BlD w w3.heap.size w5.heap.size D2 D3 g3 b0 k0 n qx qy ry ex ey fy hx hy jy dn fn (some ⟨bq, oq, none⟩) bq oq qs wz) := by
                    show BlD _ _ _ _ _ _ _ _ _ _ _ _ _ _ _ _ _ _ _ _ _ _ _ _ _
                    rw [← hwz]
                    exact HI.out.step (((Below.refl _ _).alloc (Nat.le_refl _) _).alloc (by simp) _)
                  have t0 : wz.cell? ⟨wr.heap.size, 0, none⟩ = some (.int .i64 qk) := by rw [← hwz]; simp
                  have t1 : wz.cell? ⟨wr.heap.size, 1, none⟩ = some (.int .i64 qf) := by rw [← hwz]; simp
                  have t2 : wz.cell? ⟨wr.heap.size, 2, none⟩ = some (.int .i64 qc) := by rw [← hwz]; simp
                  have t3 : wz.cell? ⟨wr.heap.size, 3, none⟩ = some (.int .i64 qn) := by rw [← hwz]; simp
                  have t4 : wz.cell? ⟨wr.heap.size, 4, none⟩ = some (.float .f32 qr) := by rw [← hwz]; simp
                  have t5 : wz.cell? ⟨wr.heap.size + 1, 0, none⟩ = some (.int .i64 qk) := by rw [← hwz]; simp
                  have t6 : wz.cell? ⟨wr.heap.size + 1, 1, none⟩ = some (.int .i64 qf) := by rw [← hwz]; simp
                  have t7 : wz.cell? ⟨wr.heap.size + 1, 2, none⟩ = some (.int .i64 qc) := by rw [← hwz]; simp
                  have t8 : wz.cell? ⟨wr.heap.size + 1, 3, none⟩ = some (.int .i64 qn) := by rw [← hwz]; simp
                  have t9 : wz.cell? ⟨wr.heap.size + 1, 4, none⟩ = some (.float .f32 qr) := by rw [← hwz]; simp
                  rw [hwz]
                  clear hwz c0 c1 c2 c3' c4 e0 e1 e2 e3 e4 hbq hbn hst HI
                  generalize hD4 : wr.heap.size = D4 at t0 t1 t2 t3 t4 t5 t6 t7 t8 t9 ⊢
                  clear hD4
                  go_region_held3 (fun x => x.cell? ⟨D4, 0, none⟩ = some (.int .i64 qk) ∧ x.cell? ⟨D4, 1, none⟩ = some (.int .i64 qf) ∧ x.cell? ⟨D4, 2, none⟩ = some (.int .i64 qc) ∧ x.cell? ⟨D4, 3, none⟩ = some (.int .i64 qn) ∧ x.cell? ⟨D4, 4, none⟩ = some (.float .f32 qr) ∧ x.cell? ⟨D4 + 1, 0, none⟩ = some (.int .i64 qk) ∧ x.cell? ⟨D4 + 1, 1, none⟩ = some (.int .i64 qf) ∧ x.cell? ⟨D4 + 1, 2, none⟩ = some (.int .i64 qc) ∧ x.cell? ⟨D4 + 1, 3, none⟩ = some (.int .i64 qn) ∧ x.cell? ⟨D4 + 1, 4, none⟩ = some (.float .f32 qr)) (first | exact ⟨t0, t1, t2, t3, t4, t5, t6, t7, t8, t9⟩ | go_keep) ((go_at_call 8; refine (HB32.out qr _).mono ?_; rintro e wq ⟨rfl, rfl⟩))
                  go_wp2_with fail
                  go_roundw
                  case rel => exact ⟨k + 1, by omega, by simp, HZ.out.step (bel_drew (Below.refl _ wz) _)⟩
                  case measure => simp [intOf]; omega
                · have hkN : k = N := by omega
                  have c := HI.out.own.cell N (by rw [List.length_append, HL.out]; show N < N + 1; omega)
                  rw [show (qs ++ [q77]).getD N quo0 = q77 by rw [← HL.out]; exact own77 qs, Nat.zero_add] at c
                  have c0 : wr.cell? ⟨g3, N * 5, none⟩ = some (.int .i64 77) := c.c0
                  clear c
                  have i1 : ¬ (k : Int) < (N : Int) := by omega
                  have i2 : (N : Int) < (N : Int) + 1 := by omega
                  have i3 : (0 : Int) ≤ (N : Int) := Int.natCast_nonneg _
                  have hn64 := Hn.out
                  have r0 := HI.out.d.t0
                  have r1 := HI.out.d.t1
                  have r2 := HI.out.d.t2
                  have r3 := HI.out.d.t3
                  have s0 := HI.out.o.t0
                  have s1 := HI.out.o.t1
                  have s2 := HI.out.o.t2
                  have s3 := HI.out.o.t3
                  have HSm := hideS (ref11Same_eq b0 k0 qx qy qx ry hx 0 ex hy 0 ey hx 0 ex jy 0 fy n n dn fn wr HI.out.lx HI.out.ly (by omega) (by omega) HI.out.ds HI.out.os)
                  by_cases hE0 : E = 0
                  · obtain ⟨hnN, hN0, hp1, hp2⟩ := HE.out hE0
                    have d1 : (E != 0) = false := by rw [hE0]; rfl
                    have d2 : ((n : Int) == (N : Int)) = true := by rw [hnN]; simp
                    obtain ⟨f0, hf0⟩ : ∃ f0, fn.getD 0 0 = f0 := ⟨_, rfl⟩
                    rw [hf0] at hp1 hp2
                    have d3 := pos_gt hp1 hp2
                    have HF0 := hideS hf0
                    clear hf0
                    have hN0' : (0 : Int) < (n : Int) := by omega
                    have HP := hideS (And.intro (HI.out.ds.y.at_ (by rw [HI.out.ly]; omega)) (by omega : 0 < n))
                    clear hE0 hnN hp1 hp2
                    go_wp2_with fail
                    refine HSm.out.mono ?_
                    rintro e wS ⟨rfl, hb⟩
                    have HIS := hideS (HI.out.step hb)
                    have c5 : wS.cell? ⟨hy, 0, none⟩ = some (.float .f64 f0) := by rw [← HF0.out]; exact HIS.out.ds.y.cell 0 (by rw [HIS.out.ly]; exact HP.out.2)
                    have r3' := HIS.out.d.t3
                    rw [HP.out.1] at r3'
                    clear hb c0 r0 r1 r2 r3 s0 s1 s2 s3 HSm HI
                    go_wp2_with fail
                    refine (HA.out _).mono ?_
                    rintro e wT ⟨rfl, hb⟩
                    have HIT := hideS (HIS.out.step hb)
                    clear hb
                    go_wp2_with fail
                    go_ret
                    exact ⟨rfl, HIT.out.bl⟩
                  · have d1 : (E != 0) = true := bne_iff_ne.2 hE0
                    clear hE0
                    go_wp2_with fail
                    refine HSm.out.mono ?_
                    rintro e wS ⟨rfl, hb⟩
                    have HIS := hideS (HI.out.step hb)
                    clear hb c0 r0 r1 r2 r3 s0 s1 s2 s3 HSm HI
                    go_wp2_with fail
                    refine (HA.out _).mono ?_
                    rintro e wT ⟨rfl, hb⟩
                    have HIT := hideS (HIS.out.step hb)
                    clear hb
                    go_wp2_with fail
                    go_ret
                    exact ⟨rfl, HIT.out.bl⟩))
end Go.Proofs.YtphnainibdepbaaGreat
