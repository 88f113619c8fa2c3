/- The walk of InterpSlopes. -/
import Derived.Test.YtnmjljijgmmakaaGreatWInterpAt
import Derived.Test.YtnmjljijgmmakaaGreatITab3
namespace Go.Proofs.YtnmjljijgmmakaaGreat
open Go.RowKit

set_option maxRecDepth 20000 in
set_option maxHeartbeats 1600000 in
theorem interpSlopes_many (kind k : Int) (px py : Option Addr) (lx cx ly cy : Nat) (w : World) (hlx : 60 < lx) (hmx : lx ≤ 9223372036854775807)
    (HW : Hid (∀ wx, Calls Tryz.prog 5 #[] wx fun e w' => e = .returned (.bool true) ∧ Below wx.heap.size wx w')) :
    Calls Tryz.prog 4 #[.agg #[.int .i64 kind, .slice px lx cx, .slice py ly cy], .int .i64 k] w fun e w' => e = .returned (.bool true) ∧ Below w.heap.size w w' := by
  have HB0 := hideS (abox_at w kind (.slice px lx cx) (.slice py ly cy))
  have hl : decide ((60 : Int) < (lx : Int)) = true := decide_eq_true (by omega)
  go_enter Tryz.func4, Tryz.ntmps4
  go_wp2_with (go_at_call 5; refine (HW.out _).mono ?_; rintro e w9 ⟨rfl, hb9⟩)
  go_ret
  exact ⟨rfl, (HB0.out.step hb9).bl⟩
/-- A list that the program tells. -/
def FlOut (w w' : World) (e : Ending) (L : List Nat) (E : Int) : Prop := ∃ p g c, e = .returned (.tuple #[.slice p L.length c, .int .i64 E]) ∧ Src w' p g 0 L ∧ Below w.heap.size w w'
/-- A list that the document tells. -/
def UOut (w w' : World) (e : Ending) (L : List Nat) (E : Int) : Prop := ∃ v, e = .returned (.tuple #[v, .int .i64 E]) ∧ OwnF w' w.heap.size 31 uV v L ∧ Below w.heap.size w w'

set_option maxRecDepth 40000 in
set_option maxHeartbeats 6400000 in
theorem interpSlopes_few (kind k E G : Int) (L M : List Nat) (px py : Option Addr) (lx cx ly cy : Nat) (w : World) (hlx : lx ≤ 60) (hL : L.length ≤ 200) (hM : M.length ≤ 200) (fL : FitL L) (fM : FitL M)
    (HO : Hid (∀ wx, Below w.heap.size w wx → Calls Tryz.prog 8 #[.agg #[.int .i64 kind, .slice px lx cx, .slice py ly cy]] wx fun e w' => ∃ p c, e = .returned (.agg #[.int .i64 kind, .slice px lx cx, .slice p ly c]) ∧ Below wx.heap.size wx w' ∧
      Hid ((∀ wy, Below w'.heap.size w' wy → Calls Tryz.prog 11 #[.agg #[.int .i64 kind, .slice px lx cx, .slice p ly c]] wy fun e w'' => UOut wy w'' e L E) ∧ (∀ wy, Below w'.heap.size w' wy → Calls Tryz.prog 13 #[.agg #[.int .i64 kind, .slice px lx cx, .slice p ly c], .int .i64 k] wy fun e w'' => UOut wy w'' e M G))))
    (HS : Hid (∀ wx, Below w.heap.size w wx → Calls Tryz.prog 10 #[.agg #[.int .i64 kind, .slice px lx cx, .slice py ly cy]] wx fun e w' => FlOut wx w' e L E))
    (HP : Hid (∀ wx, Below w.heap.size w wx → Calls Tryz.prog 12 #[.agg #[.int .i64 kind, .slice px lx cx, .slice py ly cy], .int .i64 k] wx fun e w' => FlOut wx w' e M G))
    (HW : Hid (∀ wx, Calls Tryz.prog 5 #[] wx fun e w' => e = .returned (.bool true) ∧ Below wx.heap.size wx w')) :
    Calls Tryz.prog 4 #[.agg #[.int .i64 kind, .slice px lx cx, .slice py ly cy], .int .i64 k] w fun e w' => e = .returned (.bool true) ∧ Below w.heap.size w w' := by
  have HB0 := hideS (abox_at w kind (.slice px lx cx) (.slice py ly cy))
  have hl : decide ((60 : Int) < (lx : Int)) = false := decide_eq_false (by omega)
  have HF := hideS (And.intro hL (And.intro hM (And.intro fL fM)))
  clear hL hM fL fM
  go_enter Tryz.func4, Tryz.ntmps4
  go_wp2_with fail
  refine (HO.out _ HB0.out.bl).mono ?_
  rintro e w1 ⟨p1, c1, rfl, hb1, HR⟩
  have HB1 := hideS (HB0.out.step hb1)
  clear hb1 HB0 HO hl
  obtain ⟨⟨z0, z1, z2⟩, fz⟩ := zero3_cells w1 36
  have y0 := fz 0
  have y1 := fz 1
  have y2 := fz 2
  have HX := hideS (set3_box w1 36 kind (.slice px lx cx) (.slice p1 ly c1))
  clear fz
  obtain ⟨w2, hw2⟩ : ∃ w2, w1.alloc (zero3 36) = w2 := ⟨_, rfl⟩
  rw [hw2] at z0 z1 z2 y0 y1 y2 HX
  unfold zero3 at hw2
  obtain ⟨w3, hw3⟩ : ∃ w3, set3 w2 w1.heap.size kind (.slice px lx cx) (.slice p1 ly c1) = w3 := ⟨_, rfl⟩
  rw [hw3] at HX
  unfold set3 at hw3
  have HB3 := hideS (HB1.out.step HX.out.2)
  have HD3 := hideS HX.out.1
  have HR3 : Hid ((∀ wy, Below w3.heap.size w3 wy → Calls Tryz.prog 11 #[.agg #[.int .i64 kind, .slice px lx cx, .slice p1 ly c1]] wy fun e w'' => UOut wy w'' e L E) ∧ (∀ wy, Below w3.heap.size w3 wy → Calls Tryz.prog 13 #[.agg #[.int .i64 kind, .slice px lx cx, .slice p1 ly c1], .int .i64 k] wy fun e w'' => UOut wy w'' e M G)) := ⟨fun wy hb => HR.out.1 wy (HX.out.2.trans (hb.mono HX.out.2.size)), fun wy hb => HR.out.2 wy (HX.out.2.trans (hb.mono HX.out.2.size))⟩
  clear HX HB1 HR
  have t0 := HB3.out.t0
  have t1 := HB3.out.t1
  have t2 := HB3.out.t2
  go_wp2_with fail
  clear hw2 hw3 z0 z1 z2 y0 y1 y2 t0 t1 t2
  refine (HS.out _ HB3.out.bl).mono ?_
  rintro e w4 ⟨pa, ga, ca, rfl, sa, hb4⟩
  have HB4 := hideS (HB3.out.step hb4)
  have HD4 := hideS (HD3.out.step hb4)
  have HA4 := hideS sa
  have HK4 := hideS hb4
  clear sa hb4 HB3 HD3 HS
  have t0 := HD4.out.t0
  have t1 := HD4.out.t1
  have t2 := HD4.out.t2
  go_wp2_with fail
  clear t0 t1 t2
  refine (HR3.out.1 _ HK4.out).mono ?_
  rintro e w5 ⟨vb, rfl, ob, hb5⟩
  have HB5 := hideS (HB4.out.step hb5)
  have HD5 := hideS (HD4.out.step hb5)
  have HA5 := hideS (HA4.out.below hb5)
  have HK5 := hideS (HK4.out.trans (hb5.mono HK4.out.size))
  have HO5 := hideS ob
  clear ob hb5 HB4 HD4 HA4 HK4
  have t0 := HB5.out.t0
  have t1 := HB5.out.t1
  have t2 := HB5.out.t2
  go_wp2_with fail
  clear t0 t1 t2
  refine (HP.out _ HB5.out.bl).mono ?_
  rintro e w6 ⟨pp, gp, cp, rfl, sp, hb6⟩
  have HB6 := hideS (HB5.out.step hb6)
  have HD6 := hideS (HD5.out.step hb6)
  have HA6 := hideS (HA5.out.below hb6)
  have HK6 := hideS (HK5.out.trans (hb6.mono HK5.out.size))
  have HO6 := hideS (HO5.out.below hb6)
  have HQ6 := hideS sp
  clear sp hb6 HB5 HD5 HA5 HK5 HO5 HP
  have t0 := HD6.out.t0
  have t1 := HD6.out.t1
  have t2 := HD6.out.t2
  go_wp2_with fail
  clear t0 t1 t2
  refine (HR3.out.2 _ HK6.out).mono ?_
  rintro e w7 ⟨vq, rfl, oq, hb7⟩
  have HB7 := hideS (HB6.out.step hb7).bl
  have HAr := hideS (areS_any _ ga 0 ca L.length pa vb L w7 (HA6.out.below hb7) (HO6.out.below hb7) HF.out.2.2.1 rfl HF.out.1)
  have HAq : Hid (∀ wx, (∃ q, wx = w7.drewN q) → Calls Tryz.prog 14 #[.slice pp M.length cp, vq] wx fun e w' => e = .returned (.bool true) ∧ ∃ q, w' = w7.drewN q) := fun wx ⟨q, hq⟩ => by
    have b0 : Below w7.heap.size w7 wx := by rw [hq]; exact ⟨rfl, rfl, rfl, Nat.le_refl _, fun _ _ => rfl⟩
    refine (areS_any _ gp 0 cp M.length pp vq M wx ((HQ6.out.below hb7).below b0) (oq.below b0) HF.out.2.2.2 rfl HF.out.2.1).mono ?_
    rintro e w' ⟨he, q', hw'⟩
    exact ⟨he, q + q', by rw [hw', hq, World.drewN_drewN]⟩
  have HZ : Hid (∀ wx, (∃ q, wx = w7.drewN q) → ∀ w9, Below wx.heap.size wx w9 → Below w.heap.size w w9) := fun wx ⟨q, hq⟩ w9 hb => by
    subst hq
    exact HB7.out.trans ((show Below w7.heap.size w7 w9 from (show Below w7.heap.size w7 (w7.drewN q) from ⟨rfl, rfl, rfl, Nat.le_refl _, fun _ _ => rfl⟩).trans hb).mono HB7.out.size)
  clear oq hb7 HB6 HD6 HA6 HK6 HO6 HQ6 HR3 HB7 HF
  go_wp2_with fail
  refine HAr.out.mono ?_
  rintro e w8 ⟨rfl, hq8⟩
  have H8 := hideS hq8
  clear hq8 HAr
  go_wp2_with fail
  refine (HAq.out _ H8.out).mono ?_
  rintro e w9 ⟨rfl, hq9⟩
  have H9 := hideS hq9
  clear hq9 HAq H8
  go_wp2_with fail
  refine (HW.out _).mono ?_
  rintro e w10 ⟨rfl, hb10⟩
  have HL := hideS (HZ.out _ H9.out _ hb10)
  clear hb10 HZ H9
  go_wp2_with fail
  go_ret
  exact ⟨rfl, HL.out⟩
theorem fitL_slop (xs : List Int) (ys : List Nat) (n : Nat) : FitL (slopL xs ys n) := fun x hx => by
  obtain ⟨i, hi, e⟩ := List.mem_iff_getElem.1 hx
  have := slopL_lt (xs := xs) (ys := ys) (n := n) i
  rw [show (slopL xs ys n).getD i 0 = (slopL xs ys n)[i] by simp [List.getD, hi], e] at this
  exact this
theorem arr4_src {w : World} {g a b c d : Nat} (h : w.heap[g]? = some (arr4 a b c d)) : Src w (some ⟨g, 0, none⟩) g 0 [a, b, c, d] := by
  obtain ⟨⟨c0, c1, c2, c3⟩, _⟩ := arr4_cells h
  refine ⟨fun _ => rfl, fun _ => (Array.getElem?_eq_some_iff.1 h).1, fun j hj => ?_⟩
  have hj' : j < 4 := hj
  rcases (show j = 0 ∨ j = 1 ∨ j = 2 ∨ j = 3 by omega) with rfl | rfl | rfl | rfl
  · exact c0
  · exact c1
  · exact c2
  · exact c3
theorem src_nil (w : World) : Src w none 0 0 [] := ⟨fun h => by simp at h, fun h => by simp at h, fun j hj => by simp at hj⟩
/-- What the two tell of slopes. -/
theorem slopes_both (kind : Int) (xs : List Int) (ys : List Nat) : ∃ L E, FitL L ∧ L.length ≤ 256 ∧ (L.length ≤ xs.length ∨ L.length = 0) ∧ (∀ (px py : Option Addr) (bx ox cx b2 oy cy : Nat) (w : World), TFl w px py bx ox b2 oy xs ys → Calls Tryz.prog 10 #[.agg #[.int .i64 kind, .slice px xs.length cx, .slice py ys.length cy]] w fun e w' => FlOut w w' e L E) ∧
    (∀ (px py : Option Addr) (bx ox cx b2 oy cy : Nat) (w : World), TSrc w px py bx ox b2 oy xs ys → Calls Tryz.prog 11 #[.agg #[.int .i64 kind, .slice px xs.length cx, .slice py ys.length cy]] w fun e w' => UOut w w' e L E) := by
  obtain ⟨E, hT⟩ := tabR_ex kind xs ys
  by_cases hE : E = 0
  · subst hE
    have ok := tabR_ok hT
    have hll := slopL_len (xs := xs) (ys := ys) ok.lo
    refine ⟨slopL xs ys xs.length, 0, fitL_slop _ _ _, by rw [hll]; exact ok.hi, .inl (by rw [hll]; exact Nat.le_refl _), fun px py bx ox cx b2 oy cy w hs => ?_, fun px py bx ox cx b2 oy cy w hs => ?_⟩
    · refine (intSlopes_ok kind px py bx ox cx b2 oy cy xs ys w ok hs).mono fun e w' ⟨v, he, ho, hb⟩ => ?_
      obtain ⟨p, g, c, rfl, hsr, _⟩ := flown_src ho hll
      exact ⟨p, g, c, by rw [hll]; exact he, ⟨hsr.at_, hsr.lt, hsr.cell⟩, hb⟩
    · rw [ok.len]
      refine (ref10Slopes_ok kind px py bx ox cx b2 oy cy xs.length xs ys w ok rfl hs).mono fun e w' ⟨v, he, ho, hb⟩ => ⟨v, he, ⟨?_⟩, hb⟩
      rw [hll]; exact ho
  · refine ⟨[], E, fun x hx => by simp at hx, Nat.zero_le _, .inr rfl, fun px py bx ox cx b2 oy cy w hs => ?_, fun px py bx ox cx b2 oy cy w hs => ?_⟩
    · exact (intSlopes_bad kind E _ _ w hE (fun wx hb => intCheck_any kind E px py bx ox cx b2 oy cy xs ys wx hT (hs.below hb))).mono fun e w' ⟨he, hb⟩ => ⟨none, 0, 0, he, src_nil _, hb⟩
    · exact (ref10Slopes_bad kind E px py bx ox cx b2 oy cy xs ys w hT hE hs).mono fun e w' ⟨he, hb⟩ => ⟨_, he, ⟨uown_nil w' _⟩, hb⟩
/-- What the two tell of points. -/
theorem points_both (kind k : Int) (xs : List Int) (ys : List Nat) (hf : ∀ i < ys.length, ys.getD i 0 < 18446744073709551616) : ∃ L E, FitL L ∧ L.length ≤ 4 ∧ (∀ (px py : Option Addr) (bx ox cx b2 oy cy : Nat) (w : World), TFl w px py bx ox b2 oy xs ys → Calls Tryz.prog 12 #[.agg #[.int .i64 kind, .slice px xs.length cx, .slice py ys.length cy], .int .i64 k] w fun e w' => FlOut w w' e L E) ∧
    (∀ (px py : Option Addr) (bx ox cx b2 oy cy : Nat) (w : World), TSrc w px py bx ox b2 oy xs ys → Calls Tryz.prog 13 #[.agg #[.int .i64 kind, .slice px xs.length cx, .slice py ys.length cy], .int .i64 k] w fun e w' => UOut w w' e L E) := by
  obtain ⟨E, hT⟩ := tabR_ex kind xs ys
  by_cases hE : E = 0
  · subst hE
    have ok := tabR_ok hT
    have hl := ok.len
    by_cases hk : k < 0 ∨ (xs.length : Int) - 1 ≤ k
    · refine ⟨[], 51, fun x hx => by simp at hx, Nat.zero_le _, fun px py bx ox cx b2 oy cy w hs => ?_, fun px py bx ox cx b2 oy cy w hs => ?_⟩
      · exact (intPoints_out kind k px cx xs.length _ w ok.lo ok.hi hk (fun wx hb => intCheck_any kind 0 px py bx ox cx b2 oy cy xs ys wx hT (hs.below hb))).mono fun e w' ⟨he, hb⟩ => ⟨none, 0, 0, he, src_nil _, hb⟩
      · rw [hl]
        exact (ref10Points_out kind k px py bx ox cx b2 oy cy xs.length xs ys w ok rfl hs hk).mono fun e w' ⟨he, hb⟩ => ⟨_, he, ⟨uown_nil w' _⟩, hb⟩
    · obtain ⟨j, rfl⟩ : ∃ j : Nat, k = (j : Int) := ⟨k.toNat, by omega⟩
      have hj : j + 1 < xs.length := by omega
      have hll : (ptL xs ys j).length = 4 := rfl
      refine ⟨ptL xs ys j, 0, fun x hx => ?_, Nat.le_refl _, fun px py bx ox cx b2 oy cy w hs => ?_, fun px py bx ox cx b2 oy cy w hs => ?_⟩
      · obtain ⟨i, hi, e⟩ := List.mem_iff_getElem.1 hx
        have := ptL_lt (xs := xs) (ys := ys) (k := j) (hf j (by omega)) (hf (j + 1) (by omega)) i hi
        rw [show (ptL xs ys j).getD i 0 = (ptL xs ys j)[i] by simp [List.getD, hi], e] at this
        exact this
      · refine (intPoints_ok kind px py bx ox cx b2 oy cy j xs ys w ok hs hj).mono fun e w' ⟨g, he, ⟨ha, _⟩, hb⟩ => ⟨_, g, 4, he, arr4_src ha, hb⟩
      · rw [hl]
        refine (ref10Points_ok kind px py bx ox cx b2 oy cy xs.length j xs ys w ok rfl hs hj).mono fun e w' ⟨v, he, ho, hb⟩ => ⟨v, he, ⟨ho⟩, hb⟩
  · refine ⟨[], E, fun x hx => by simp at hx, Nat.zero_le _, fun px py bx ox cx b2 oy cy w hs => ?_, fun px py bx ox cx b2 oy cy w hs => ?_⟩
    · exact (intPoints_bad kind E k _ _ w hE (fun wx hb => intCheck_any kind E px py bx ox cx b2 oy cy xs ys wx hT (hs.below hb))).mono fun e w' ⟨he, hb⟩ => ⟨none, 0, 0, he, src_nil _, hb⟩
    · exact (ref10Points_bad kind E k px py bx ox cx b2 oy cy xs ys w hT hE hs).mono fun e w' ⟨he, hb⟩ => ⟨_, he, ⟨uown_nil w' _⟩, hb⟩

theorem interpSlopes_walk (kind k : Int) (px py : Option Addr) (bx ox cx b2 oy cy : Nat) (xs : List Int) (ys : List Nat) (w : World) (hs : TFl w px py bx ox b2 oy xs ys) (_hxI : ∀ i < xs.length, TI64 (xs.getD i 0)) (hx : xs.length ≤ 17592186043904) (hy : ys.length ≤ 17592186043904) (_hlx : xs.length ≤ cx) (_hly : ys.length ≤ cy) (_hk : TI64 k) :
    Calls Tryz.prog 4 #[.agg #[.int .i64 kind, .slice px xs.length cx, .slice py ys.length cy], .int .i64 k] w fun e w' => e = .returned (.bool true) ∧ Below w.heap.size w w' := by
  by_cases hl : 60 < xs.length
  · exact interpSlopes_many kind k px py _ cx _ cy w hl (by omega) (fun wx => awake10 wx)
  · obtain ⟨L, E, fL, l1, l2, pS, dS⟩ := slopes_both kind xs ys
    obtain ⟨M, G, fM, m1, pP, dP⟩ := points_both kind k xs ys hs.f
    refine interpSlopes_few kind k E G L M px py _ cx _ cy w (by omega) (by omega) (by omega) fL fM (fun wx hb => ?_) (fun wx hb => pS px py bx ox cx b2 oy cy wx (hs.below hb)) (fun wx hb => pP px py bx ox cx b2 oy cy wx (hs.below hb)) (fun wx => awake10 wx)
    refine (docOf kind px py bx ox cx b2 oy cy xs ys wx (hs.below hb) hy).mono fun e w' ⟨p, g, c, he, ⟨ht, h1, h2, _⟩, hbl⟩ => ?_
    exact ⟨p, c, he, hbl, fun wy hwy => dS px p bx ox cx g 0 c wy (ht.below hwy), fun wy hwy => dP px p bx ox cx g 0 c wy (ht.below hwy)⟩
end Go.Proofs.YtnmjljijgmmakaaGreat
