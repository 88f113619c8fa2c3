/- The contracts of package boot's add and worth. The contract of package boot's worth. The contracts of package boot's lastSettled and settle. A cell that is written again and again. The contract of the literal that meet hands to Root. -/
import Derived.Test.YtphnainibdepbaaGreatHbr
import Derived.Test.YtphnainibdepbaaGreatHbd
import Derived.Test.YtphnainibdepbaaGreatHbq
import Derived.Deep.RegionHeld3
namespace Go.Proofs.YtphnainibdepbaaGreat
open Go.RowKit

structure AddI (w0 : World) (X : Nat) (base kind : Int) (vd vf : Value) (s : Nat) (v : Value) (L : Nat) (a : A.St) (wr : World) : Prop where
  run : A.Run w0 wr s v L a
  t0 : wr.cell? ⟨X, 0, none⟩ = some (.int .i64 base)
  t1 : wr.cell? ⟨X, 1, none⟩ = some (.int .i64 kind)
  t2 : wr.cell? ⟨X, 2, none⟩ = some vd
  t3 : wr.cell? ⟨X, 3, none⟩ = some vf
  lt : X < wr.heap.size
  ne : ∀ k, A.Ft s v k → k ≠ X
theorem AddI.step {w0 wr w' : World} {X s L : Nat} {base kind : Int} {vd vf v : Value} {a : A.St} (h : AddI w0 X base kind vd vf s v L a wr) (hb : Below wr.heap.size wr w') : AddI w0 X base kind vd vf s v L a w' :=
  ⟨run_below h.run hb, (hb.cell (p := ⟨X, 0, none⟩) h.lt).trans h.t0, (hb.cell (p := ⟨X, 1, none⟩) h.lt).trans h.t1, (hb.cell (p := ⟨X, 2, none⟩) h.lt).trans h.t2, (hb.cell (p := ⟨X, 3, none⟩) h.lt).trans h.t3, Nat.lt_of_lt_of_le h.lt hb.size, h.ne⟩
theorem AddI.did {w0 wr w' : World} {X s L L' q : Nat} {base kind : Int} {vd vf v v' : Value} {a a' : A.St} (h : AddI w0 X base kind vd vf s v L a wr) (hd : A.Did (wr.drewN q) w' w0.heap.size s v L' a' v') : AddI w0 X base kind vd vf s v' L' a' w' := by
  have hk : w'.heap[X]? = wr.heap[X]? := hd.wrote.block X h.lt (fun c => h.ne X c rfl)
  have hc : ∀ j, w'.cell? ⟨X, j, none⟩ = wr.cell? ⟨X, j, none⟩ := fun j => World.cell?_of_block (w := wr) hk
  refine ⟨(h.run.drewN q).did hd, (hc 0).trans h.t0, (hc 1).trans h.t1, (hc 2).trans h.t2, (hc 3).trans h.t3, Nat.lt_of_lt_of_le h.lt hd.wrote.size, fun k hF => ?_⟩
  rcases hF with c | c
  · exact h.ne k (Or.inl c)
  · rcases hd.new k c with d | d
    · exact h.ne k (Or.inr d)
    · have := h.lt
      have : wr.heap.size ≤ k := d
      omega
theorem AddI.mono {w0 wr : World} {X s L L' : Nat} {base kind : Int} {vd vf v : Value} {a : A.St} (h : AddI w0 X base kind vd vf s v L a wr) (hl : L ≤ L') : AddI w0 X base kind vd vf s v L' a wr := ⟨h.run.mono hl, h.t0, h.t1, h.t2, h.t3, h.lt, h.ne⟩
theorem addI_at {w0 w : World} {s L : Nat} {v : Value} {a : A.St} (base kind : Int) (vd vf : Value) (h : A.Run w0 w s v L a) : AddI w0 w.heap.size base kind vd vf s v L a (w.alloc (.cells #[.int .i64 base, .int .i64 kind, vd, vf] 34)) := by
  have hb : Below w.heap.size w (w.alloc (.cells #[.int .i64 base, .int .i64 kind, vd, vf] 34)) := (Below.refl _ _).alloc (Nat.le_refl _) _
  refine ⟨run_below h hb, by simp, by simp, by simp, by simp, by simp, fun k hF => ?_⟩
  rcases hF with c | c
  · have := (Array.getElem?_eq_some_iff.1 h.acc.blk).1
    omega
  · obtain ⟨xs, ho, _⟩ := h.acc.own
    have := (ho.lt k c).2
    omega
set_option maxRecDepth 20000 in
set_option maxHeartbeats 3200000 in
theorem bAdd_ok (base kind : Int) (pd pf pl : Option Addr) (bd od cd b2 o2 cf bl ol cl n s L : Nat) (ds : List Int) (fs : List Nat) (f : Nat → Itr) (fa : Nat → Nat) (v : Value) (a : A.St) (w0 w : World) (hs : TFl w0 pd pf bd od b2 o2 ds fs) (hl : TSrcI w0 pl bl ol n f) (hr : A.Run w0 w s v L a) (hL : L ≤ 30000) (hn : n ≤ 2000) (hf : ∀ j < n, FacO base kind ds fs (f j).day (fa j) 0) (hu : ∀ j < n, fa j < 18446744073709551616 ∧ (f j).am < 18446744073709551616) :
    Calls Tryz.prog 31 #[.pointer (some ⟨s, 0, none⟩), .agg #[.int .i64 base, .int .i64 kind, .slice pd ds.length cd, .slice pf fs.length cf], .slice pl n cl] w fun e w' => e = .returned (.int .i64 0) ∧ ∃ v', A.Run w0 w' s v' (L + 70 + n) (accG a (fun j => (f j).am) fa n) := by
  have H0 : Hid (∃ v', AddI w0 w.heap.size base kind (.slice pd ds.length cd) (.slice pf fs.length cf) s v' (L + 70 + 0) (accG a (fun j => (f j).am) fa 0) (w.alloc (.cells #[.int .i64 base, .int .i64 kind, .slice pd ds.length cd, .slice pf fs.length cf] 34))) := ⟨v, (addI_at base kind _ _ hr).mono (by omega)⟩
  have HS := hideS hs
  have HL := hideS hl
  have HF := hideS hf
  have HU := hideS hu
  clear hs hl hr hf hu
  go_enter Tryz.func31, Tryz.ntmps31
  go_wp2_with fail
  go_loopw [13] (fun i wr => ∃ k : Nat, k ≤ n ∧ i = .int .i64 k ∧ Hid (∃ v, AddI w0 w.heap.size base kind (.slice pd ds.length cd) (.slice pf fs.length cf) s v (L + 70 + k) (accG a (fun j => (f j).am) fa k) wr)) (fun i _ => n - (intOf i).toNat)
  case atStart => exact ⟨0, Nat.zero_le _, rfl, H0⟩
  case round =>
    clear H0
    obtain ⟨k, hk, rfl, HR⟩ := hrel
    obtain ⟨v, hr⟩ := HR.out
    by_cases hlt : k < n
    · obtain rfl := HL.out.at_ (by omega)
      obtain ⟨c0, c1⟩ := (HL.out.below hr.run.bl).cell k hlt
      rw [show ol + k * 2 + 0 = ol + k * 2 by omega] at c0
      have HI := hideS (setI_box wr (f k))
      obtain ⟨⟨z0, z1⟩, fz⟩ := zeroI_cells wr
      have y0 := fz 0
      have y1 := fz 1
      clear fz
      have HFk := HF.out k hlt
      obtain ⟨u1, u2⟩ := HU.out k hlt
      have HFc := hideS fun wx hb => curFactor_any base kind (f k).day 0 (fa k) pd pf bd od cd b2 o2 cf ds fs wx (HS.out.below hb) HFk
      have HNx := hideS (show accG a (fun j => (f j).am) fa (k + 1) = (accG a (fun j => (f j).am) fa k).merge (A.prodG (f k).am (fa k)) from rfl)
      have HP := hideS fun wx hw => A.prod_gen w0.heap.size s v (L + 70 + k) _ (f k).am (fa k) wx (hw : A.Run w0 wx s v (L + 70 + k) (accG a (fun j => (f j).am) fa k)).acc hw.bl.size (by unfold U64; omega) (by unfold U64; omega) (by omega)
      have HA := hideS hr
      clear hr HR HFk u1 u2
      generalize f k = r at *
      obtain ⟨rd, ra⟩ := r
      dsimp only at *
      generalize fa k = F at *
      obtain ⟨w5, hw5⟩ : ∃ w5, wr.alloc zeroI = w5 := ⟨_, rfl⟩
      rw [hw5] at z0 z1 y0 y1 HI
      unfold zeroI at hw5
      obtain ⟨w6, hw6⟩ : ∃ w6, setI w5 wr.heap.size ⟨rd, ra⟩ = w6 := ⟨_, rfl⟩
      rw [hw6] at HI
      unfold setI at hw6
      dsimp only at hw6
      have HA1 := hideS (HA.out.step HI.out.bl)
      have t0 := HA1.out.t0
      have t1 := HA1.out.t1
      have t2 := HA1.out.t2
      have t3 := HA1.out.t3
      have i0 := HI.out.t0
      have i1 := HI.out.t1
      dsimp only at i0 i1
      have hst := store_flt
      go_wp2_with fail
      clear hst hw5 hw6 z0 z1 y0 y1 i0 i1
      refine (HFc.out _ (HA1.out.run.bl)).mono ?_
      rintro e w2 ⟨rfl, hb2⟩
      have HA2 := hideS (HA1.out.step hb2)
      have g1 := (hb2.cell (p := ⟨wr.heap.size, 1, none⟩) HI.out.lt).trans HI.out.t1
      clear hb2 HFc c0 c1 t0 t1 t2 t3 HA HA1 HI
      go_wp2_with fail
      refine (HP.out _ HA2.out.run).mono ?_
      rintro e w3 ⟨rfl, q, v', hd⟩
      have HA3 : Hid (∃ v, AddI w0 w.heap.size base kind (.slice pd ds.length cd) (.slice pf fs.length cf) s v (L + 70 + (k + 1)) (accG a (fun j => (f j).am) fa (k + 1)) w3) := ⟨v', by rw [HNx.out]; exact (HA2.out.did hd).mono (by omega)⟩
      clear hd HP
      go_wp2_with fail
      go_roundw
      case rel => exact ⟨k + 1, by omega, by simp, HA3⟩
      case measure => simp [intOf]; omega
    · obtain rfl : k = n := by omega
      have HA := hideS hr.run
      clear hr HR
      go_wp2_with fail
      go_ret
      exact ⟨rfl, v, HA.out⟩
end Go.Proofs.YtphnainibdepbaaGreat
namespace Go.Proofs.YtphnainibdepbaaGreat
open Go.RowKit

theorem worO_dep (a : A.St) (am fa : Nat → Nat) (m F : Nat) : worO 1 a am fa (m + 1) F = opO .sub (opO .mul (some F) (opO .add (some 4607182418800017408) (some (am m)))) (some 4607182418800017408) := rfl
theorem worO_swap {k : Int} (hk : k ≠ 1) (a : A.St) (am fa : Nat → Nat) (n F : Nat) : worO k a am fa n F = some (A.valSt (((accG a am fa n).merge (A.oneS (F : Nat))).merge (A.oneS (13830554455654793216 : Nat)))) := by unfold worO; rw [if_neg hk]

set_option maxRecDepth 20000 in
set_option maxHeartbeats 3200000 in
theorem bWorth_dep (base kind : Int) (pd pf : Option Addr) (bd od cd b2 o2 cf bl ol cl m F : Nat) (vs : Value) (ds : List Int) (fs : List Nat) (f : Nat → Itr) (fa : Nat → Nat) (a : A.St) (w : World) (hs : TFl w pd pf bd od b2 o2 ds fs) (hl : TSrcI w (some ⟨bl, ol, none⟩) bl ol (m + 1) f) (hm : m ≤ 2000) (hF : FacO base kind ds fs (f m).day F 0) (hu : F < 18446744073709551616 ∧ (f m).am < 18446744073709551616) :
    Calls Tryz.prog 20 #[.agg #[.int .i64 base, .int .i64 kind, .slice pd ds.length cd, .slice pf fs.length cf], .int .i64 1, vs, .slice (some ⟨bl, ol, none⟩) (m + 1 : Nat) cl] w fun e w' => ∃ x, e = .returned (.tuple #[.float .f64 x, .int .i64 0]) ∧ AgU (worO 1 a (fun j => (f j).am) fa (m + 1) F) x ∧ Below w.heap.size w w' := by
  have HB := hideS (vboxA_at w base kind (.slice pd ds.length cd) (.slice pf fs.length cf))
  obtain ⟨c0, c1⟩ := hl.cell m (by omega)
  rw [show ol + m * 2 + 0 = ol + m * 2 by omega] at c0
  have hlt := hl.lt (by omega)
  obtain ⟨w1, hw1⟩ : ∃ w1, w.alloc (.cells #[.int .i64 base, .int .i64 kind, .slice pd ds.length cd, .slice pf fs.length cf] 34) = w1 := ⟨_, rfl⟩
  rw [hw1] at HB
  have e0 := (HB.out.bl.cell (p := ⟨bl, ol + m * 2, none⟩) hlt).trans c0
  have e1 := (HB.out.bl.cell (p := ⟨bl, ol + m * 2 + 1, none⟩) hlt).trans c1
  have t0 := HB.out.t0
  have t1 := HB.out.t1
  have t2 := HB.out.t2
  have t3 := HB.out.t3
  have hj1 : ((m + 1 : Nat) : Int) - 1 = (m : Int) := by omega
  have hj2 : m < m + 1 := by omega
  have HI := hideS (setI_box w1 (f m))
  obtain ⟨⟨z0, z1⟩, fz⟩ := zeroI_cells w1
  have y0 := fz 0
  have y1 := fz 1
  clear fz
  have HFc := hideS fun wx hb => curFactor_any base kind (f m).day 0 F pd pf bd od cd b2 o2 cf ds fs wx (hs.below hb) hF
  have HU := hideS hu
  rw [worO_dep]
  clear hs hl hF hu c0 c1 hlt
  generalize f m = r at *
  obtain ⟨rd, ra⟩ := r
  dsimp only at *
  obtain ⟨w5, hw5⟩ : ∃ w5, w1.alloc zeroI = w5 := ⟨_, rfl⟩
  rw [hw5] at z0 z1 y0 y1 HI
  unfold zeroI at hw5
  obtain ⟨w6, hw6⟩ : ∃ w6, setI w5 w1.heap.size ⟨rd, ra⟩ = w6 := ⟨_, rfl⟩
  rw [hw6] at HI
  unfold setI at hw6
  dsimp only at hw6
  have HB1 := hideS (HB.out.step HI.out.bl)
  have b0 := HB1.out.t0
  have b1 := HB1.out.t1
  have b2' := HB1.out.t2
  have b3 := HB1.out.t3
  have i0 := HI.out.t0
  have i1 := HI.out.t1
  dsimp only at i0 i1
  have hst := store_flt
  go_enter Tryz.func20, Tryz.ntmps20
  go_wp2_with fail
  clear hst hw1 hw5 hw6 z0 z1 y0 y1 i0 i1 b0 b1 b2' b3
  refine (HFc.out _ HB1.out.bl).mono ?_
  rintro e w2 ⟨rfl, hb2⟩
  have HB2 := hideS (HB1.out.step hb2)
  have g1 := (hb2.cell (p := ⟨w1.heap.size, 1, none⟩) HI.out.lt).trans HI.out.t1
  dsimp only at g1
  clear hb2 HFc HB HI e0 e1 t0 t1 t2 t3
  obtain ⟨x1, ⟨q1, r1⟩, y1⟩ := op_prog .add (by simp) 42 (agU_some (show (4607182418800017408 : Nat) < 18446744073709551616 by decide)) (agU_some HU.out.2) w2
  obtain ⟨x2, ⟨q2, r2⟩, y2⟩ := op_prog .mul (by simp) 42 (agU_some HU.out.1) y1 (w2.drewN q1)
  obtain ⟨x3, ⟨q3, r3⟩, y3⟩ := op_prog .sub (by simp) 42 y2 (agU_some (show (4607182418800017408 : Nat) < 18446744073709551616 by decide)) ((w2.drewN q1).drewN q2)
  rw [World.drewN_drewN] at r3
  have HY := hideS y3
  clear y1 y2 y3
  go_wp2_with fail
  go_ret2
  exact ⟨x3, rfl, HY.out, (HB2.out.drewN _).bl⟩

set_option maxRecDepth 20000 in
set_option maxHeartbeats 3200000 in
theorem bWorth_swap (base kind qk : Int) (pd pf : Option Addr) (bd od cd b2 o2 cf bl ol cl m s L F : Nat) (ds : List Int) (fs : List Nat) (f : Nat → Itr) (fa : Nat → Nat) (v : Value) (a : A.St) (w0 w : World) (hk : qk ≠ 1) (hs : TFl w0 pd pf bd od b2 o2 ds fs) (hl : TSrcI w0 (some ⟨bl, ol, none⟩) bl ol (m + 1) f) (hr : A.Run w0 w s v L a) (hL : L ≤ 20000) (hm : m < 2000) (hf : ∀ j < m + 1, FacO base kind ds fs (f j).day (fa j) 0) (hF : FacO base kind ds fs (f m).day F 0) (hu : ∀ j < m + 1, fa j < 18446744073709551616 ∧ (f j).am < 18446744073709551616) (hu2 : F < 18446744073709551616) :
    Calls Tryz.prog 20 #[.agg #[.int .i64 base, .int .i64 kind, .slice pd ds.length cd, .slice pf fs.length cf], .int .i64 qk, .pointer (some ⟨s, 0, none⟩), .slice (some ⟨bl, ol, none⟩) (m + 1 : Nat) cl] w fun e w' => ∃ x, e = .returned (.tuple #[.float .f64 x, .int .i64 0]) ∧ AgU (worO qk a (fun j => (f j).am) fa (m + 1) F) x ∧ Below w0.heap.size w0 w' := by
  have HB := hideS (vboxA_at w base kind (.slice pd ds.length cd) (.slice pf fs.length cf))
  obtain ⟨c0, c1⟩ := (hl.below hr.bl).cell m (by omega)
  rw [show ol + m * 2 + 0 = ol + m * 2 by omega] at c0
  have hlt := (hl.below hr.bl).lt (by omega)
  obtain ⟨w1, hw1⟩ : ∃ w1, w.alloc (.cells #[.int .i64 base, .int .i64 kind, .slice pd ds.length cd, .slice pf fs.length cf] 34) = w1 := ⟨_, rfl⟩
  rw [hw1] at HB
  have e0 := (HB.out.bl.cell (p := ⟨bl, ol + m * 2, none⟩) hlt).trans c0
  have e1 := (HB.out.bl.cell (p := ⟨bl, ol + m * 2 + 1, none⟩) hlt).trans c1
  have t0 := HB.out.t0
  have t1 := HB.out.t1
  have t2 := HB.out.t2
  have t3 := HB.out.t3
  have hj1 : ((m + 1 : Nat) : Int) - 1 = (m : Int) := by omega
  have hj2 : m < m + 1 := by omega
  have d1 : (qk == 1) = false := beq_eq_false_iff_ne.2 hk
  have HI := hideS (setI_box w1 (f m))
  obtain ⟨⟨z0, z1⟩, fz⟩ := zeroI_cells w1
  have y0 := fz 0
  have y1 := fz 1
  clear fz
  have HFc := hideS fun wx hb => curFactor_any base kind (f m).day 0 F pd pf bd od cd b2 o2 cf ds fs wx (hs.below ((hr.bl.trans ((hb : Below w.heap.size w wx).mono hr.bl.size)))) hF
  have HAd := hideS fun wx hw => bAdd_ok base kind pd pf (some ⟨bl, ol, none⟩) bd od cd b2 o2 cf bl ol cl (m + 1) s L ds fs f fa v a w0 wx hs hl hw (by omega) (by omega) hf hu
  have HR := hideS hr
  have HU := hideS hu2
  rw [worO_swap hk]
  obtain ⟨S, hS⟩ : ∃ S, accG a (fun j => (f j).am) fa (m + 1) = S := ⟨_, rfl⟩
  rw [hS] at HAd ⊢
  clear hs hl hF hu c0 c1 hlt hf hr hk hu2 hS
  generalize f m = r at *
  obtain ⟨rd, ra⟩ := r
  dsimp only at *
  obtain ⟨w5, hw5⟩ : ∃ w5, w1.alloc zeroI = w5 := ⟨_, rfl⟩
  rw [hw5] at z0 z1 y0 y1 HI
  unfold zeroI at hw5
  obtain ⟨w6, hw6⟩ : ∃ w6, setI w5 w1.heap.size ⟨rd, ra⟩ = w6 := ⟨_, rfl⟩
  rw [hw6] at HI
  unfold setI at hw6
  dsimp only at hw6
  have HB1 := hideS (HB.out.step HI.out.bl)
  have b0 := HB1.out.t0
  have b1 := HB1.out.t1
  have b2' := HB1.out.t2
  have b3 := HB1.out.t3
  have i0 := HI.out.t0
  have i1 := HI.out.t1
  dsimp only at i0 i1
  have hst := store_flt
  go_enter Tryz.func20, Tryz.ntmps20
  go_wp2_with fail
  clear hst hw1 hw5 hw6 z0 z1 y0 y1 i0 i1 b0 b1 b2' b3
  refine (HFc.out _ HB1.out.bl).mono ?_
  rintro e w2 ⟨rfl, hb2⟩
  have HB2 := hideS (HB1.out.step hb2)
  have HR2 := hideS (run_below HR.out HB2.out.bl)
  clear hb2 HFc HB HI e0 e1 t0 t1 t2 t3 HR
  have t0 := HB2.out.t0
  have t1 := HB2.out.t1
  have t2 := HB2.out.t2
  have t3 := HB2.out.t3
  go_wp2_with fail
  refine (HAd.out _ HR2.out).mono ?_
  rintro e w3 ⟨rfl, v3, hr3⟩
  have HD := hideS (A.add_any w0.heap.size s v3 (L + 70 + (m + 1)) S F F w3 hr3.acc hr3.bl.size rfl (by have := HU.out; unfold U64; omega) (by omega))
  have HR3 := hideS hr3
  clear hr3 t0 t1 t2 t3 HAd HR2
  go_wp2_with fail
  refine HD.out.mono ?_
  rintro e w4 ⟨rfl, v4, hd4⟩
  have hr4 := HR3.out.did hd4
  have HD2 := hideS (A.add_any w0.heap.size s v4 _ _ 13830554455654793216 13830554455654793216 w4 hr4.acc hr4.bl.size rfl (by unfold U64; omega) (by omega))
  have HR4 := hideS hr4
  clear hd4 hr4 HD HR3
  go_wp2_with fail
  refine HD2.out.mono ?_
  rintro e w5 ⟨rfl, v5, hd5⟩
  have hr5 := HR4.out.did hd5
  have HV := hideS (A.value_any w0.heap.size s v5 _ _ w5 hr5.acc hr5.bl.size (by omega))
  have HR5 := hideS hr5
  clear hd5 hr5 HD2 HR4
  go_wp2_with fail
  refine HV.out.mono ?_
  rintro e w6 ⟨rfl, hb6⟩
  have H6 := hideS (HR5.out.bl.trans (hb6.mono HR5.out.bl.size))
  clear hb6 HV
  go_wp2_with fail
  go_ret2
  exact ⟨_, rfl, agU_some (valS_lt _), H6.out⟩
theorem bWorth_any (base kind qk : Int) (pd pf : Option Addr) (bd od cd b2 o2 cf bl ol cl m s L F : Nat) (ds : List Int) (fs : List Nat) (f : Nat → Itr) (fa : Nat → Nat) (v : Value) (a : A.St) (w0 w : World) (hs : TFl w0 pd pf bd od b2 o2 ds fs) (hl : TSrcI w0 (some ⟨bl, ol, none⟩) bl ol (m + 1) f) (hr : A.Run w0 w s v L a) (hL : L ≤ 20000) (hm : m < 2000) (hf : ∀ j < m + 1, FacO base kind ds fs (f j).day (fa j) 0) (hF : FacO base kind ds fs (f m).day F 0) (hu : ∀ j < m + 1, fa j < 18446744073709551616 ∧ (f j).am < 18446744073709551616) (hu2 : F < 18446744073709551616) :
    Calls Tryz.prog 20 #[.agg #[.int .i64 base, .int .i64 kind, .slice pd ds.length cd, .slice pf fs.length cf], .int .i64 qk, .pointer (some ⟨s, 0, none⟩), .slice (some ⟨bl, ol, none⟩) (m + 1 : Nat) cl] w fun e w' => ∃ x, e = .returned (.tuple #[.float .f64 x, .int .i64 0]) ∧ AgU (worO qk a (fun j => (f j).am) fa (m + 1) F) x ∧ Below w0.heap.size w0 w' := by
  by_cases hk : qk = 1
  · subst hk
    exact (bWorth_dep base kind pd pf bd od cd b2 o2 cf bl ol cl m F _ ds fs f fa a w (hs.below hr.bl) (hl.below hr.bl) (by omega) hF ⟨hu2, (hu m (by omega)).2⟩).mono fun e w' ⟨x, h1, h2, h3⟩ => ⟨x, h1, h2, hr.bl.trans (h3.mono hr.bl.size)⟩
  · exact bWorth_swap base kind qk pd pf bd od cd b2 o2 cf bl ol cl m s L F ds fs f fa v a w0 w hk hs hl hr hL hm hf hF hu hu2
end Go.Proofs.YtphnainibdepbaaGreat
namespace Go.Proofs.YtphnainibdepbaaGreat
open Go.RowKit

set_option maxRecDepth 20000 in
set_option maxHeartbeats 1600000 in
theorem bLast_any (base kind : Int) (bd od cd n : Nat) (vf : Value) (ds : List Int) (w : World) (hd : VSrc w (some ⟨bd, od, none⟩) bd od n (xV ds)) (hl : ds.length = n) (hn : n ≤ 1000) :
    Calls Tryz.prog 29 #[.agg #[.int .i64 base, .int .i64 kind, .slice (some ⟨bd, od, none⟩) n cd, vf]] w fun e w' => e = .returned (.int .i64 (setY base kind ds)) ∧ Below w.heap.size w w' := by
  have HB := hideS (vboxA_at w base kind (.slice (some ⟨bd, od, none⟩) n cd) vf)
  have HD := hideS (hd.below HB.out.bl)
  obtain ⟨w1, hw1⟩ : ∃ w1, w.alloc (.cells #[.int .i64 base, .int .i64 kind, .slice (some ⟨bd, od, none⟩) n cd, vf] 34) = w1 := ⟨_, rfl⟩
  rw [hw1] at HB HD
  have t0 := HB.out.t0
  have t1 := HB.out.t1
  have t2 := HB.out.t2
  have HL := hideS (show setY base kind ds = if (ds.length : Int) - 2 - (if kind = 3 then 1 else 0) < 0 then base else ds.getD ((ds.length : Int) - 2 - (if kind = 3 then 1 else 0)).toNat 0 from rfl)
  rw [HL.out, hl]
  clear hd hl HL
  by_cases hk : kind = 3
  · rw [if_pos hk]
    subst hk
    by_cases h0 : (n : Int) - 2 - 1 < 0
    · rw [if_pos h0]
      go_enter Tryz.func29, Tryz.ntmps29
      go_wp2_with fail
      go_ret
      exact ⟨rfl, HB.out.bl⟩
    · rw [if_neg h0]
      obtain ⟨j, rfl⟩ : ∃ j, n = j + 3 := ⟨n - 3, by omega⟩
      have hj1 : ((j + 3 : Nat) : Int) - 2 - 1 = (j : Int) := by omega
      rw [hj1, Int.toNat_natCast]
      have hc : w1.cell? ⟨bd, od + j, none⟩ = some (.int .i64 (ds.getD j 0)) := HD.out.cell j (by omega)
      have hj2 : j < j + 3 := by omega
      generalize ds.getD j 0 = d at *
      clear h0
      go_enter Tryz.func29, Tryz.ntmps29
      go_wp2_with fail
      go_ret
      exact ⟨rfl, HB.out.bl⟩
  · rw [if_neg hk]
    have dk : (kind == 3) = false := beq_eq_false_iff_ne.2 hk
    clear hk
    by_cases h0 : (n : Int) - 2 - 0 < 0
    · rw [if_pos h0]
      go_enter Tryz.func29, Tryz.ntmps29
      go_wp2_with fail
      go_ret
      exact ⟨rfl, HB.out.bl⟩
    · rw [if_neg h0]
      obtain ⟨j, rfl⟩ : ∃ j, n = j + 2 := ⟨n - 2, by omega⟩
      have hj0 : ((j + 2 : Nat) : Int) - 2 - 0 = (j : Int) := by omega
      have hj1 : ((j + 2 : Nat) : Int) - 2 = (j : Int) := by omega
      rw [hj0, Int.toNat_natCast]
      have hc : w1.cell? ⟨bd, od + j, none⟩ = some (.int .i64 (ds.getD j 0)) := HD.out.cell j (by omega)
      have hj2 : j < j + 2 := by omega
      generalize ds.getD j 0 = d at *
      clear h0 hj0
      go_enter Tryz.func29, Tryz.ntmps29
      go_wp2_with fail
      go_ret
      exact ⟨rfl, HB.out.bl⟩
theorem TSrcI.head {w : World} {bl ol n M : Nat} {f : Nat → Itr} (h : TSrcI w (some ⟨bl, ol, none⟩) bl ol n f) (hM : M ≤ n) : TSrcI w (some ⟨bl, ol, none⟩) bl ol M f := ⟨fun _ => rfl, fun hx => h.lt (by omega), fun j hj => h.cell j (by omega)⟩
theorem TSrcI.tail {w : World} {bl ol n M : Nat} {f : Nat → Itr} (h : TSrcI w (some ⟨bl, ol, none⟩) bl ol n f) (hM : M ≤ n) : TSrcI w (some ⟨bl, ol + M * 2, none⟩) bl (ol + M * 2) (n - M) (fun j => f (M + j)) :=
  ⟨fun _ => rfl, fun hx => h.lt (by omega), fun j hj => by
    have := h.cell (M + j) (by omega)
    rw [show ol + (M + j) * 2 = ol + M * 2 + j * 2 by omega] at this
    exact this⟩

set_option maxRecDepth 20000 in
set_option maxHeartbeats 3200000 in
theorem bSettle_ok (base kind : Int) (bd od cd b2 o2 cf bl ol cl n M : Nat) (ds : List Int) (fs : List Nat) (f : Nat → Itr) (fa : Nat → Nat) (w : World) (hs : TFl w (some ⟨bd, od, none⟩) (some ⟨b2, o2, none⟩) bd od b2 o2 ds fs) (hl : TSrcI w (some ⟨bl, ol, none⟩) bl ol n f) (hn : n ≤ 1500) (hcl : n ≤ cl) (hd : ds.length ≤ 1000) (hM : SetM (setY base kind ds) (fun j => (f j).day) n M) (hf : ∀ j < M, FacO base kind ds fs (f j).day (fa j) 0) (hu : ∀ j < M, fa j < 18446744073709551616 ∧ (f j).am < 18446744073709551616) :
    Calls Tryz.prog 17 #[.agg #[.int .i64 base, .int .i64 kind, .slice (some ⟨bd, od, none⟩) ds.length cd, .slice (some ⟨b2, o2, none⟩) fs.length cf], .slice (some ⟨bl, ol, none⟩) n cl] w fun e w' => ∃ s v, e = .returned (.tuple #[.pointer (some ⟨s, 0, none⟩), .slice (some ⟨bl, ol + M * 2, none⟩) ((n - M : Nat)) (cl - M), .int .i64 0]) ∧ A.Run w w' s v 2000 (accG ⟨0, 0⟩ (fun j => (f j).am) fa M) := by
  have HB := hideS (vboxA_at w base kind (.slice (some ⟨bd, od, none⟩) ds.length cd) (.slice (some ⟨b2, o2, none⟩) fs.length cf))
  have HLs := hideS fun wx hb => bLast_any base kind bd od cd ds.length (.slice (some ⟨b2, o2, none⟩) fs.length cf) ds wx (hs.x.below hb) rfl hd
  have HAd := hideS fun wx s v hw => bAdd_ok base kind (some ⟨bd, od, none⟩) (some ⟨b2, o2, none⟩) (some ⟨bl, ol, none⟩) bd od cd b2 o2 cf bl ol cl M s 0 ds fs f fa v ⟨0, 0⟩ w wx hs (hl.head (by have := hM.lt; omega)) hw (by omega) (by have := hM.lt; omega) hf hu
  have HL := hideS hl
  have HM := hideS hM
  have hM1 := hM.lt
  clear hs hl hM hf hu hd
  go_enter Tryz.func17, Tryz.ntmps17
  go_wp2_with fail
  refine (HLs.out _ HB.out.bl).mono ?_
  rintro e w1 ⟨rfl, hb1⟩
  have HB1 := hideS (HB.out.step hb1)
  clear hb1 HB HLs
  generalize setY base kind ds = D at *
  go_wp2_with fail
  go_loopw [8] (fun i wr => ∃ k : Nat, k ≤ M ∧ i = .int .i64 k ∧ wr = w1) (fun i _ => M - (intOf i).toNat)
  case atStart => exact ⟨0, Nat.zero_le _, rfl, rfl⟩
  case round =>
    obtain ⟨k, hk, rfl, rfl⟩ := hrel
    obtain ⟨c0, _⟩ := (HL.out.below HB1.out.bl).cell k (by omega)
    rw [show ol + k * 2 + 0 = ol + k * 2 by omega] at c0
    by_cases hlt : k < M
    · have d1 : decide ((f k).day ≤ D) = true := decide_eq_true (HM.out.le k hlt)
      generalize f k = r at *
      obtain ⟨rd, ra⟩ := r
      dsimp only at *
      go_wp2_with fail
      go_roundw
      case rel => exact ⟨k + 1, by omega, by simp, by first | rfl | trivial⟩
      case measure => simp [intOf]; omega
    · obtain rfl : k = M := by omega
      have d1 : decide ((f k).day ≤ D) = false := decide_eq_false (by have := HM.out.gt; omega)
      have HN := hideS (A.new_any wr w.heap.size HB1.out.bl.size)
      generalize (f k).day = rd at *
      go_wp2_with fail
      refine HN.out.mono ?_
      rintro e w2 ⟨rfl, ha, hb2⟩
      have HB2 := hideS (HB1.out.step hb2)
      have HR : Hid (A.Run w w2 wr.heap.size (.slice none 0 0) 0 ⟨0, 0⟩) := ⟨ha, HB2.out.bl⟩
      clear ha hb2 HN c0 d1
      have t0 := HB2.out.t0
      have t1 := HB2.out.t1
      have t2 := HB2.out.t2
      have t3 := HB2.out.t3
      have hkn : k ≤ cl := by omega
      go_wp2_with fail
      have HAk := hideS (HAd.out (w2.drewN 1) wr.heap.size (.slice none 0 0) (HR.out.drewN 1))
      clear HAd HL HB1
      go_region_with ((go_at_call 31; refine HAk.out.mono ?_; rintro e w3 ⟨rfl, v3, hr3⟩))
      all_goals
        have HR3 := hideS hr3
        clear hr3 HAk t0 t1 t2 t3
        go_wp2_with fail
        go_quiet (fail)
        go_wp2_with fail
        go_ret3
        exact ⟨wr.heap.size, v3, rfl, (HR3.out.drewN _).mono (by omega)⟩
end Go.Proofs.YtphnainibdepbaaGreat
namespace Go.Proofs.YtphnainibdepbaaGreat
open Go.RowKit

theorem put_size (w : World) (p : Addr) (v : Value) : (w.setCell p v).heap.size = w.heap.size := by simp [World.setCell]
def putO (p : Addr) (v : Value) : Obj → Obj
  | .cells c elem frozen => .cells (if p.spot.isSome then c else c.setIfInBounds p.off v) elem frozen
  | o => o
theorem put_own (w : World) (p : Addr) (v : Value) : (w.setCell p v).heap[p.block]? = (w.heap[p.block]?).map (putO p v) := by
  simp only [World.setCell, Array.getElem?_modify, if_true]
  exact congrArg (fun f => Option.map f _) (funext fun o => by cases o <;> rfl)
theorem put_put (w : World) (p : Addr) (u v : Value) (hp : p.spot = none) : ((w.setCell p u).setCell p v).heap[p.block]? = (w.setCell p v).heap[p.block]? := by
  rw [put_own, put_own, put_own]
  cases h : w.heap[p.block]? with
  | none => rfl
  | some o => cases o <;> simp [putO, hp]
theorem put_same (w : World) (p : Addr) (v : Value) (hp : p.spot = none) (h : w.cell? p = some v) : (w.setCell p v).heap[p.block]? = w.heap[p.block]? := by
  rw [put_own]
  cases hb : w.heap[p.block]? with
  | none => rfl
  | some o =>
    cases o with
    | cells c elem frozen =>
      simp only [Option.map_some, putO, hp, Option.isSome_none, Bool.false_eq_true, if_false]
      have hc : c[p.off]? = some v := by simpa [World.cell?, hb, hp] using h
      obtain ⟨hlt, he⟩ := Array.getElem?_eq_some_iff.1 hc
      rw [Array.setIfInBounds, dif_pos hlt]
      subst he
      simp
    | _ => rfl
theorem below_put {w w' : World} {B : Nat} {p : Addr} {x y : Value} (hp : p.spot = none) (h : Below B (w.setCell p x) w') : Below B (w.setCell p y) (w'.setCell p y) :=
  ⟨h.os, h.tape, h.output, by rw [put_size, put_size]; have := h.size; rw [put_size] at this; exact this, fun k hk => by
    by_cases c : k = p.block
    · subst c
      rw [← put_put w p x y hp, put_own, put_own, h.block p.block hk]
    · rw [Below.heap_setCell _ _ _ _ c, Below.heap_setCell _ _ _ _ c, h.block k hk, Below.heap_setCell _ _ _ _ c]⟩
theorem below_same {w : World} {p : Addr} {v : Value} (hp : p.spot = none) (h : w.cell? p = some v) (B : Nat) : Below B (w.setCell p v) w ∧ Below B w (w.setCell p v) := by
  have key : ∀ k, (w.setCell p v).heap[k]? = w.heap[k]? := fun k => by
    by_cases c : k = p.block
    · subst c; exact put_same w p v hp h
    · exact Below.heap_setCell _ _ _ _ c
  exact ⟨⟨rfl, rfl, rfl, by rw [put_size]; exact Nat.le_refl _, fun k _ => (key k).symm⟩, ⟨rfl, rfl, rfl, by rw [put_size]; exact Nat.le_refl _, fun k _ => key k⟩⟩
theorem wrote_put (w : World) (p : Addr) (v : Value) : A.Wrote w (w.setCell p v) (fun k => k = p.block) :=
  ⟨rfl, rfl, rfl, by rw [put_size]; exact Nat.le_refl _, fun k _ hn => Below.heap_setCell _ _ _ _ hn⟩
theorem acc_raise {w : World} {B B' b L : Nat} {v : Value} {a : A.St} (h : A.AccAt w B b v L a) (hk : ∀ k, A.Ft b v k → B' ≤ k) : A.AccAt w B' b v L a := by
  obtain ⟨xs, ho, hl, hs⟩ := h.own
  refine ⟨h.blk, hk b (Or.inl rfl), ⟨xs, ⟨⟨ho.own.1, ?_⟩, ho.fit⟩, hl, hs⟩, h.ne, h.ok⟩
  rcases ho.own.2 with hn | ⟨g, cap, cur, rfl, hg, rest⟩
  · exact .inl hn
  · exact .inr ⟨g, cap, cur, rfl, hk g (Or.inr rfl), rest⟩
theorem VSrc.put {w : World} {p : Option Addr} {b off n : Nat} {f : Nat → Value} (h : VSrc w p b off n f) {a : Addr} (v : Value) (hb : b ≠ a.block) : VSrc (w.setCell a v) p b off n f :=
  ⟨h.at_, fun hx => by rw [put_size]; exact h.lt hx, fun j hj => (World.cell?_setCell_far w a ⟨b, off + j, none⟩ v (fun c => hb c.symm)).trans (h.cell j hj)⟩
theorem TSrcI.put {w : World} {p : Option Addr} {b off n : Nat} {f : Nat → Itr} (h : TSrcI w p b off n f) {a : Addr} (v : Value) (hb : b ≠ a.block) : TSrcI (w.setCell a v) p b off n f :=
  ⟨h.at_, fun hx => by rw [put_size]; exact h.lt hx, fun j hj => ⟨(World.cell?_setCell_far w a ⟨b, off + j * 2 + 0, none⟩ v (fun c => hb c.symm)).trans (h.cell j hj).c0, (World.cell?_setCell_far w a ⟨b, off + j * 2 + 1, none⟩ v (fun c => hb c.symm)).trans (h.cell j hj).c1⟩⟩
theorem last_at (fs : List Nat) (x : Nat) : (fs ++ [x]).getD fs.length 0 = x := by simp [List.getD]
theorem last_lt (fs : List Nat) (x : Nat) {j : Nat} (h : j < fs.length) : (fs ++ [x]).getD j 0 = fs.getD j 0 := by
  rw [List.getD_eq_getElem?_getD, List.getElem?_append_left h, ← List.getD_eq_getElem?_getD]
theorem len_last (fs : List Nat) (x : Nat) : (fs ++ [x]).length = fs.length + 1 := by simp
theorem tfl_put {w : World} {bd od b2 o2 : Nat} {ds : List Int} {fs : List Nat} {x : Nat} (h : TFl w (some ⟨bd, od, none⟩) (some ⟨b2, o2, none⟩) bd od b2 o2 ds (fs ++ [x])) (hne : bd ≠ b2) (y : Nat) (hy : y < 18446744073709551616) : TFl (w.setCell ⟨b2, o2 + fs.length, none⟩ (.float .f64 y)) (some ⟨bd, od, none⟩) (some ⟨b2, o2, none⟩) bd od b2 o2 ds (fs ++ [y]) := by
  have hy' := h.y
  have hf' := h.f
  rw [len_last] at hy' hf'
  refine ⟨h.x.put _ hne, ⟨fun _ => rfl, fun _ => by rw [put_size]; exact hy'.lt (by omega), fun j hj => ?_⟩, fun i hi => ?_⟩
  · rw [len_last] at hj
    by_cases c : j = fs.length
    · subst c
      show _ = some (Value.float .f64 ((fs ++ [y]).getD fs.length 0))
      rw [last_at]
      exact World.cell?_setCell_same _ _ _ (hy'.cell fs.length (by omega))
    · show _ = some (Value.float .f64 ((fs ++ [y]).getD j 0))
      rw [last_lt fs y (by omega), World.cell?_setCell_other (h := fun e => c (by injection e with _ e _; omega))]
      have := hy'.cell j (by omega)
      rw [this]
      show some (Value.float .f64 ((fs ++ [x]).getD j 0)) = _
      rw [last_lt fs x (by omega)]
  · rw [len_last] at hi
    by_cases c : i = fs.length
    · subst c; rw [last_at]; exact hy
    · rw [last_lt fs y (by omega)]
      have := hf' i (by omega)
      rw [last_lt fs x (by omega)] at this
      exact this
structure MetA (base kind qk : Int) (ds : List Int) (fs : List Nat) (bd od cd b2 o2 cf bl ol cl n B s L : Nat) (v : Value) (S : A.St) (f : Nat → Itr) (X3 X5 X7 X9 X10 X11 : Nat) (x : Nat) (w : World) : Prop where
  n0 : w.cell? ⟨X10, 0, none⟩ = some (.pointer (some ⟨b2, o2 + fs.length, none⟩))
  c0 : w.cell? ⟨X3, 0, none⟩ = some (.int .i64 base)
  c1 : w.cell? ⟨X3, 1, none⟩ = some (.int .i64 kind)
  c2 : w.cell? ⟨X3, 2, none⟩ = some (.slice (some ⟨bd, od, none⟩) ds.length cd)
  c3 : w.cell? ⟨X3, 3, none⟩ = some (.slice (some ⟨b2, o2, none⟩) (fs.length + 1) cf)
  q0 : w.cell? ⟨X5, 0, none⟩ = some (.int .i64 qk)
  s0 : w.cell? ⟨X9, 0, none⟩ = some (.pointer (some ⟨s, 0, none⟩))
  l0 : w.cell? ⟨X7, 0, none⟩ = some (.slice (some ⟨bl, ol, none⟩) n cl)
  e0 : w.cell? ⟨X11, 0, none⟩ = some (.int .i64 0)
  ez : w.frozen? ⟨X11, 0, none⟩ = false
  nz : w.frozen? ⟨b2, o2 + fs.length, none⟩ = false
  tf : TFl w (some ⟨bd, od, none⟩) (some ⟨b2, o2, none⟩) bd od b2 o2 ds (fs ++ [x])
  ti : TSrcI w (some ⟨bl, ol, none⟩) bl ol n f
  ac : A.AccAt w B s v L S
  hB : B ≤ w.heap.size
  ne : ∀ k, k = X3 ∨ k = X5 ∨ k = X7 ∨ k = X9 ∨ k = X10 ∨ k = X11 ∨ k = bd ∨ k = bl ∨ A.Ft s v k → k ≠ b2
theorem cell_lt {w : World} {k j : Nat} {v : Value} (h : w.cell? ⟨k, j, none⟩ = some v) : k < w.heap.size := World.block_lt_of_cell? _ _ h
theorem MetA.below {base kind qk : Int} {ds : List Int} {fs : List Nat} {bd od cd b2 o2 cf bl ol cl n B s L : Nat} {v : Value} {S : A.St} {f : Nat → Itr} {X3 X5 X7 X9 X10 X11 x : Nat} {w w' : World} (h : MetA base kind qk ds fs bd od cd b2 o2 cf bl ol cl n B s L v S f X3 X5 X7 X9 X10 X11 x w) (hb : Below w.heap.size w w') : MetA base kind qk ds fs bd od cd b2 o2 cf bl ol cl n B s L v S f X3 X5 X7 X9 X10 X11 x w' := by
  have g : ∀ {k j : Nat} {u : Value}, w.cell? ⟨k, j, none⟩ = some u → w'.cell? ⟨k, j, none⟩ = some u := fun {k j u} hc => (hb.cell (p := ⟨k, j, none⟩) (cell_lt hc)).trans hc
  have z : ∀ {k j : Nat}, k < w.heap.size → w.frozen? ⟨k, j, none⟩ = false → w'.frozen? ⟨k, j, none⟩ = false := fun {k j} hk hz => by
    have := hb.block k hk
    simp only [World.frozen?] at hz ⊢
    rw [this]; exact hz
  have hy := h.tf.y
  rw [len_last] at hy
  exact ⟨g h.n0, g h.c0, g h.c1, g h.c2, g h.c3, g h.q0, g h.s0, g h.l0, g h.e0, z (cell_lt h.e0) h.ez, z (hy.lt (by omega)) h.nz, h.tf.below hb, h.ti.below hb, h.ac.below hb, Nat.le_trans h.hB hb.size, h.ne⟩
theorem MetA.put {base kind qk : Int} {ds : List Int} {fs : List Nat} {bd od cd b2 o2 cf bl ol cl n B s L : Nat} {v : Value} {S : A.St} {f : Nat → Itr} {X3 X5 X7 X9 X10 X11 x : Nat} {w : World} (h : MetA base kind qk ds fs bd od cd b2 o2 cf bl ol cl n B s L v S f X3 X5 X7 X9 X10 X11 x w) (y : Nat) (hy : y < 18446744073709551616) : MetA base kind qk ds fs bd od cd b2 o2 cf bl ol cl n B s L v S f X3 X5 X7 X9 X10 X11 y (w.setCell ⟨b2, o2 + fs.length, none⟩ (.float .f64 y)) := by
  have g : ∀ {k j : Nat} {u : Value}, k ≠ b2 → w.cell? ⟨k, j, none⟩ = some u → (w.setCell ⟨b2, o2 + fs.length, none⟩ (.float .f64 y)).cell? ⟨k, j, none⟩ = some u := fun {k j u} hk hc => (World.cell?_setCell_far w ⟨b2, o2 + fs.length, none⟩ ⟨k, j, none⟩ _ (fun c => hk c.symm)).trans hc
  exact ⟨g (h.ne _ (by simp)) h.n0, g (h.ne _ (by simp)) h.c0, g (h.ne _ (by simp)) h.c1, g (h.ne _ (by simp)) h.c2, g (h.ne _ (by simp)) h.c3, g (h.ne _ (by simp)) h.q0, g (h.ne _ (by simp)) h.s0, g (h.ne _ (by simp)) h.l0, g (h.ne _ (by simp)) h.e0, by rw [World.frozen?_setCell]; exact h.ez, by rw [World.frozen?_setCell]; exact h.nz, tfl_put h.tf (h.ne _ (by simp)) y hy, h.ti.put _ (h.ne _ (by simp)), h.ac.wrote (wrote_put w _ _) (fun k hk c => h.ne k (by simp [hk]) c), by rw [put_size]; exact h.hB, h.ne⟩
end Go.Proofs.YtphnainibdepbaaGreat
namespace Go.Proofs.YtphnainibdepbaaGreat
open Go.RowKit

set_option maxRecDepth 20000 in
set_option maxHeartbeats 6400000 in
theorem met_call {base kind qk : Int} {ds : List Int} {fs : List Nat} {bd od cd b2 o2 cf bl ol cl m B s L : Nat} {v : Value} {S : A.St} {f : Nat → Itr} {X3 X5 X7 X9 X10 X11 x : Nat} {wr : World} (h : MetA base kind qk ds fs bd od cd b2 o2 cf bl ol cl (m + 1) B s L v S f X3 X5 X7 X9 X10 X11 x wr) (a : Nat) (ha : a < 18446744073709551616) (hL : L ≤ 20000) (hm : m < 2000) (fa : Nat → Nat) (F : Nat) (hf : ∀ j < m + 1, FacO base kind ds (fs ++ [a]) (f j).day (fa j) 0) (hF : FacO base kind ds (fs ++ [a]) (f m).day F 0) (hu : ∀ j < m + 1, fa j < 18446744073709551616 ∧ (f j).am < 18446744073709551616) (hu2 : F < 18446744073709551616) :
    Calls Tryz.prog 19 #[.float .f64 a, .pointer (some ⟨X10, 0, none⟩), .pointer (some ⟨X3, 0, none⟩), .pointer (some ⟨X5, 0, none⟩), .pointer (some ⟨X9, 0, none⟩), .pointer (some ⟨X7, 0, none⟩), .pointer (some ⟨X11, 0, none⟩)] wr fun e w' => ∃ y, e = .returned (.float .f64 y) ∧ AgU (worO qk S (fun j => (f j).am) fa (m + 1) F) y ∧ Below wr.heap.size (wr.setCell ⟨b2, o2 + fs.length, none⟩ (.float .f64 a)) w' := by
  have H1 := hideS (h.put a ha)
  have n0 := h.n0
  have nz := h.nz
  have nc : wr.cell? ⟨b2, o2 + fs.length, none⟩ = some (.float .f64 x) := by
    have := h.tf.y.cell fs.length (by rw [len_last]; omega)
    rw [this]
    show some (Value.float .f64 ((fs ++ [x]).getD fs.length 0)) = _
    rw [last_at]
  obtain ⟨w1, hw1⟩ : ∃ w1, wr.setCell ⟨b2, o2 + fs.length, none⟩ (.float .f64 a) = w1 := ⟨_, rfl⟩
  have hsz : wr.heap.size = w1.heap.size := by rw [← hw1, put_size]
  rw [hw1] at H1 ⊢
  rw [hsz]
  have HCp := hideS fun wx hb => A.copy_any B s v L S wx ((H1.out.below (hb : Below w1.heap.size w1 wx)).ac) (H1.out.below hb).hB (by omega)
  have HWo := hideS fun w2 s2 v2 (hr : A.Run w1 w2 s2 v2 L S) => by
    have := bWorth_any base kind qk (some ⟨bd, od, none⟩) (some ⟨b2, o2, none⟩) bd od cd b2 o2 cf bl ol cl m s2 L F ds (fs ++ [a]) f fa v2 S w1 w2 H1.out.tf H1.out.ti hr hL hm hf hF hu hu2
    rw [len_last] at this
    exact this
  generalize worO qk S (fun j => (f j).am) fa (m + 1) F = R at *
  have c0 := H1.out.c0
  have c1 := H1.out.c1
  have c2 := H1.out.c2
  have c3 := H1.out.c3
  have q0 := H1.out.q0
  have s0 := H1.out.s0
  have l0 := H1.out.l0
  clear h hf hF hu hu2 hsz
  have hst := store_flt
  go_enter Tryz.func19, Tryz.ntmps19
  go_wp2_with fail
  clear hst n0 nz nc hw1
  have HCk := hideS (HCp.out (w1.drewN 1) ⟨rfl, rfl, rfl, Nat.le_refl _, fun _ _ => rfl⟩)
  clear HCp
  go_region_held3 (fun w' => w'.cell? ⟨X3, 0, none⟩ = some (.int .i64 base) ∧ w'.cell? ⟨X3, 1, none⟩ = some (.int .i64 kind) ∧ w'.cell? ⟨X3, 2, none⟩ = some (.slice (some ⟨bd, od, none⟩) ds.length cd) ∧ w'.cell? ⟨X3, 3, none⟩ = some (.slice (some ⟨b2, o2, none⟩) (fs.length + 1) cf) ∧ w'.cell? ⟨X5, 0, none⟩ = some (.int .i64 qk) ∧ w'.cell? ⟨X9, 0, none⟩ = some (.pointer (some ⟨s, 0, none⟩)) ∧ w'.cell? ⟨X7, 0, none⟩ = some (.slice (some ⟨bl, ol, none⟩) (m + 1) cl))
    (first | exact ⟨H4.out.c0, H4.out.c1, H4.out.c2, H4.out.c3, H4.out.q0, H4.out.s0, H4.out.l0⟩ | exact ⟨H3.out.c0, H3.out.c1, H3.out.c2, H3.out.c3, H3.out.q0, H3.out.s0, H3.out.l0⟩ | exact ⟨H2.out.c0, H2.out.c1, H2.out.c2, H2.out.c3, H2.out.q0, H2.out.s0, H2.out.l0⟩ | go_keep)
    (first
      | (go_at_call 21; refine HCk.out.mono ?_; rintro e w2 ⟨s2, v2, rfl, ha2, hf2, hb2⟩; have HB2 : Hid (Below w1.heap.size w1 w2) := ⟨hb2.os, hb2.tape, hb2.output, hb2.size, hb2.block⟩; have H2 := hideS (H1.out.below HB2.out); have HR2 : Hid (A.Run w1 w2 s2 v2 L S) := ⟨acc_raise ha2 hf2, HB2.out⟩; clear ha2 hf2 hb2)
      | (go_at_call 20; refine (HWo.out _ _ _ HR2.out).mono ?_; rintro e w3 ⟨y, rfl, hy, hb3⟩; have HY := hideS hy; have HB3 := hideS hb3; have H3 := hideS (H1.out.below hb3); have e0 := H3.out.e0; have ez := H3.out.ez; have H4 := hideS (H3.out.below (below_same (p := ⟨X11, 0, none⟩) rfl e0 w3.heap.size).2); have HB4 := hideS (HB3.out.trans ((below_same (p := ⟨X11, 0, none⟩) rfl e0 w3.heap.size).2.mono HB3.out.size)); clear hy hb3))
  all_goals
    have e4 := H4.out.e0
    go_wp2_with fail
    go_ret
    exact ⟨y, rfl, HY.out, HB4.out⟩
end Go.Proofs.YtphnainibdepbaaGreat
