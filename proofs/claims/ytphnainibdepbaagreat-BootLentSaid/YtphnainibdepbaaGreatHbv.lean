/- The contract of package boot's Build. The contract of package boot's Build, whatever is handed in. Rows of numbers in blocks of their own: one is written, the others stay (for BootLent). -/
import Derived.Test.YtphnainibdepbaaGreatHbu
import Derived.Test.YtphnainibdepbaaGreatHaz
import Derived.Test.YtphnainibdepbaaGreatHbo
import Derived.Laws.AppendOwnNone
namespace Go.Proofs.YtphnainibdepbaaGreat
open Go.RowKit

def BldO (w : World) (base kind : Int) (ds : List Int) (R : List Nat × Int × Int) (e : Ending) (w' : World) : Prop :=
  (R.2.1 ≠ 0 ∧ e = .returned (.tuple #[.agg #[.int .i64 0, .int .i64 0, .slice none 0 0, .slice none 0 0], .int .i64 R.2.1, .int .i64 R.2.2])) ∨
  (R.2.1 = 0 ∧ ∃ vX vY, e = .returned (.tuple #[.agg #[.int .i64 base, .int .i64 kind, vX, vY], .int .i64 0, .int .i64 0]) ∧ w'.ownsRow w.heap.size 3 1 vX ds.length (ds.map kV) ∧ w'.ownsRow w.heap.size 42 1 vY ds.length (R.1.map fV) ∧ R.1.length = ds.length)
theorem own_frz {t : TypeId} {w : World} {b n m g c : Nat} {xs : List Value} (h : w.ownsRow b t 1 (.slice (some ⟨g, 0, none⟩) m c) n xs) (i : Nat) : w.frozen? ⟨g, i, none⟩ = false := by
  rcases h.2 with ⟨e, _⟩ | ⟨k, cap, cur, e, hk, hgg, _⟩
  · cases e
  · injection e with e _ _
    injection e with e
    injection e with e _ _
    subst e
    exact frozen_of_row _ _ i _ _ hgg
theorem bMeet_any {base kind W : Int} {q : Quo} {rs : List Rul} {ds : List Int} {fs : List Nat} {E : Int} {X : Nat} (hm : MetR base kind W rs ds fs q E X) (ok : OkQ base q) (hC : OkC W rs) (hd : ds.length = fs.length + 1) (hd2 : ds.length ≤ 64) (hq : ds.getD fs.length 0 = q.fin) (hOk : ∀ a : Nat, facB a = true → OkV base kind ds (fs ++ [a])) (p : Option Addr) (b off c bd cd b2 cf : Nat) (w : World) (hs : RSrc w p b off rs) (hx : VSrc w (some ⟨bd, 0, none⟩) bd 0 ds.length (xV ds)) (hy : VSrc w (some ⟨b2, 0, none⟩) b2 0 (fs.length + 1) (flV (fs ++ [4607182418800017408]))) (hf : ∀ i < fs.length, fs.getD i 0 < 18446744073709551616) (hz : w.frozen? ⟨b2, 0 + fs.length, none⟩ = false) (hne : bd ≠ b2) :
    Calls Tryz.prog 11 #[.agg #[.int .i64 base, .int .i64 kind, .slice (some ⟨bd, 0, none⟩) (fs.length + 1 : Nat) cd, .slice (some ⟨b2, 0, none⟩) (fs.length + 1 : Nat) cf], .agg #[.int .i64 W, .slice p rs.length c], .agg #[.int .i64 q.kind, .int .i64 q.fin, .int .i64 q.count, .int .i64 q.n, .float .f32 q.rate]] w fun e w' => e = .returned (.int .i64 E) ∧ ∃ Y, Below w.heap.size (w.setCell ⟨b2, 0 + fs.length, none⟩ (.float .f64 Y)) w' ∧ (E = 0 → Y = X) := by
  have ht : TFl w (some ⟨bd, 0, none⟩) (some ⟨b2, 0, none⟩) bd 0 b2 0 ds (fs ++ [4607182418800017408]) := ⟨hx, by rw [len_last]; exact hy, fun i hi => by
    rw [len_last] at hi
    by_cases c : i < fs.length
    · rw [last_lt _ _ c]; exact hf i c
    · obtain rfl : i = fs.length := by omega
      rw [last_at]; decide⟩
  cases hm with
  | cut E L h hE =>
    refine (bMeet_cut ok h hE _ _ _ w).mono fun e w' ⟨h1, h2⟩ => ⟨h1, 4607182418800017408, ?_, fun c => absurd c hE⟩
    have nc : w.cell? ⟨b2, 0 + fs.length, none⟩ = some (.float .f64 4607182418800017408) := by
      rw [hy.cell fs.length (by omega)]
      show some (Value.float .f64 ((fs ++ [4607182418800017408]).getD fs.length 0)) = _
      rw [last_at]
    exact (below_same (p := ⟨b2, 0 + fs.length, none⟩) rfl nc _).1.trans h2
  | root L n M X N E hc hF hM hV =>
    have := bMeet_root ok hC hc hF hM hV hd hd2 hq hOk p b off c bd 0 cd b2 0 cf w hs ht hz hne
    rw [hd] at this
    exact this.mono fun e w' ⟨h1, h2⟩ => ⟨h1, X, h2, fun _ => rfl⟩

set_option maxRecDepth 20000 in
set_option maxHeartbeats 12800000 in
theorem bBuild_go (base kind W : Int) (p : Option Addr) (b off c bq oq cq N : Nat) (rs : List Rul) (qs : List Quo) (w : World) (hC : OkC W rs) (hs : RSrc w p b off rs) (hq : QSrc w (some ⟨bq, oq, none⟩) bq oq qs) (hN : qs.length = N) (hi : N ≤ 64) (b0 : 0 ≤ base) (b1 : base ≤ 109572) (k1 : 1 ≤ kind) (k4 : kind ≤ 4) (hfit : ∀ i < N, fitQ (qs.getD i quo0) (prvQ base qs i) = 0)
    (HCk : Hid (∀ wx, Below w.heap.size w wx → Calls Tryz.prog 10 #[.int .i64 base, .int .i64 kind, .agg #[.int .i64 W, .slice p rs.length c], .slice (some ⟨bq, oq, none⟩) N cq] wx fun e w' => e = .returned (.tuple #[.int .i64 0, .int .i64 0]) ∧ Below wx.heap.size wx w')) :
    Calls Tryz.prog 6 #[.int .i64 base, .int .i64 kind, .agg #[.int .i64 W, .slice p rs.length c], .slice (some ⟨bq, oq, none⟩) N cq] w fun e w' => BldO w base kind (endL qs N) ((bldV base kind W rs qs N).1, (bldV base kind W rs qs N).2.1, ((bldV base kind W rs qs N).2.2 : Nat)) e w' ∧ Below w.heap.size w w' := by
  have HB := hideS (bdB_at w W (.slice p rs.length c))
  have HQ := hideS hq
  have HN := hideS hN
  have HP := hideS (And.intro hC (And.intro hs (And.intro b0 (And.intro b1 (And.intro k1 (And.intro k4 hfit))))))
  clear hq hN hC hs b0 b1 k1 k4 hfit
  go_enter Tryz.func6, Tryz.ntmps6
  go_wp2_with fail
  refine (HCk.out _ HB.out.bl).mono ?_
  rintro e w2 ⟨rfl, hb2⟩
  have HB2 := hideS (HB.out.stay (hb2.mono HB.out.sz))
  have hlt : w.heap.size < w2.heap.size := by have := HB2.out.sz; omega
  have hne : w.heap.size ≠ w2.heap.size := Nat.ne_of_lt hlt
  have HL0 : Hid (BdW w w2.heap.size base kind W (.slice p rs.length c) (endL qs 0) 0 (.slice none 0 0) (.slice none 0 0) (bldV base kind W rs qs 0).1 (w2.alloc (.cells #[.int .i64 base, .int .i64 kind, .slice none 0 0, .slice none 0 0] 34))) :=
    ⟨bdL_at HB2.out, ⟨rfl, Or.inl ⟨rfl, rfl⟩⟩, ⟨rfl, Or.inl ⟨rfl, rfl⟩⟩, rfl, rfl⟩
  clear hb2 HB HCk HB2
  go_wp2_with fail
  clear hlt hne
  generalize w2.heap.size = B at *
  go_loopw [35] (fun i wr => ∃ (k : Nat) (vX vY : Value), k ≤ N ∧ i = .int .i64 k ∧ Hid (BdW w B base kind W (.slice p rs.length c) (endL qs k) k vX vY (bldV base kind W rs qs k).1 wr) ∧ Hid ((bldV base kind W rs qs k).2.1 = 0)) (fun i _ => N - (intOf i).toNat)
  case atStart => exact ⟨0, _, _, Nat.zero_le _, rfl, HL0, rfl⟩
  case round =>
    clear HL0
    obtain ⟨k, vX, vY, hk, rfl, HW, HE⟩ := hrel
    by_cases hlt : k < N
    · obtain ⟨c0, c1, c2, c3, c4⟩ := (HQ.out.below HW.out.l.b.bl).cell k (by rw [HN.out]; exact hlt)
      have HQB := hideS (setQ_box wr (qs.getD k quo0))
      obtain ⟨⟨z0, z1, z2, z3, z4⟩, fz⟩ := zeroQ_cells wr
      have y0 := fz 0
      have y1 := fz 1
      have y2 := fz 2
      have y3 := fz 3
      have y4 := fz 4
      clear fz
      have HIv := hideS (bld_inv (W := W) (rs := rs) HP.out.2.2.1 HP.out.2.2.2.1 HP.out.2.2.2.2.1 HP.out.2.2.2.2.2.1 hi HP.out.2.2.2.2.2.2 k hk HE.out)
      have HOv : Hid (∀ a : Nat, facB a = true → OkV base kind (endL qs (k + 1)) ((bldV base kind W rs qs k).1 ++ [a])) := fun a ha => okV_bld HP.out.2.2.1 HP.out.2.2.2.1 HP.out.2.2.2.2.1 HP.out.2.2.2.2.2.1 hi HP.out.2.2.2.2.2.2 hlt HIv.out.1 (fun i hi => (HIv.out.2 i hi).1) ha
      have HOq := hideS (okQ_bld HP.out.2.2.1 HP.out.2.2.2.2.2.2 hlt)
      have HMv := hideS (metV_is (W := W) (rs := rs) (fs := (bldV base kind W rs qs k).1) HOq.out (set_lt (HOv.out 4607182418800017408 (by decide))))
      have HSu := hideS (endL_succ qs k)
      have HBad := hideS (bld_bad (base := base) (kind := kind) (W := W) (rs := rs) (qs := qs) (k := k) HE.out)
      have HFin := hideS (bld_ok (base := base) (kind := kind) (W := W) (rs := rs) (qs := qs) (k := k) HE.out)
      have HSt := hideS (fun d => bld_err (base := base) (kind := kind) (W := W) (rs := rs) (qs := qs) (k := k + 1) d)
      have HEn : Hid ((endL qs (k + 1)).getD k 0 = (qs.getD k quo0).fin) := endL_at qs (by omega)
      generalize hfe : (bldV base kind W rs qs k).1 = fs at HW HIv HOv HMv HBad HFin
      generalize hMe : metV base kind W rs (endL qs (k + 1)) fs (qs.getD k quo0) = mv at HMv HBad HFin
      clear hfe hMe
      obtain ⟨ME, MX⟩ := mv
      dsimp only at HMv HBad HFin
      obtain ⟨q, hqe⟩ : ∃ q, qs.getD k quo0 = q := ⟨_, rfl⟩
      rw [hqe] at HQB c0 c1 c2 c3 c4 HOq HMv HSu HEn
      clear hqe
      obtain ⟨wq, hwq⟩ : ∃ wq, wr.alloc zeroQ = wq := ⟨_, rfl⟩
      rw [hwq] at z0 z1 z2 z3 z4 y0 y1 y2 y3 y4 HQB
      unfold zeroQ at hwq
      obtain ⟨w1, hw1⟩ : ∃ w1, setQ wq wr.heap.size q = w1 := ⟨_, rfl⟩
      rw [hw1] at HQB
      unfold setQ at hw1
      have hst := store_f32
      have HW1 := hideS (HW.out.below HQB.out.bl)
      have HQ5 : Hid (Q5 wr.heap.size q w1) := ⟨HQB.out.t0, HQB.out.t1, HQB.out.t2, HQB.out.t3, HQB.out.t4⟩
      have HNx : Hid (∀ g, vX.ownBlock = some g → g < wr.heap.size) := fun g hg => own_inB HW.out.x hg
      have HNy : Hid (∀ g, vY.ownBlock = some g → g < wr.heap.size) := fun g hg => own_inB HW.out.y hg
      have HBQ : Hid (B < wr.heap.size) := HW.out.l.sz
      have HQl := hideS HQB.out.lt
      obtain ⟨qx, cx, rfl⟩ := kown_shape HW1.out.x
      obtain ⟨qy, cy, rfl⟩ := kown_shape HW1.out.y
      have s2 := HW1.out.l.s2
      have s3 := HW1.out.l.s3
      have f2 := HW1.out.l.fz 2
      have f3 := HW1.out.l.fz 3
      have t1 := HQ5.out.t1
      have bw : ∀ o, Below w1.heap.size w1 (w1.alloc o) := fun o => (Below.refl _ w1).alloc (Nat.le_refl _) o
      have bww : ∀ o o', Below w1.heap.size w1 ((w1.alloc o).alloc o') := fun o o' => (bw o).alloc (bw o).size o'
      generalize hDe : q.fin = D at t1
      have HDe := hideS hDe
      clear hDe
      have HAp : Hid (∀ wa, Below w1.heap.size w1 wa → BdL w B base kind W (.slice p rs.length c) (.slice qx k cx) (.slice qy k cy) wa ∧ wa.ownsRow (B + 1) 3 1 (.slice qx k cx) k ((endL qs k).map kV) ∧ wa.ownsRow (B + 1) 42 1 (.slice qy k cy) k (fs.map fV) ∧ Q5 wr.heap.size q wa ∧ B + 1 ≤ wa.heap.size) := fun wa hb => ⟨HW1.out.l.stay (hb.mono HW1.out.l.sz), kown_below HW1.out.x hb, kown_below HW1.out.y hb, HQ5.out.below hb, Nat.le_trans HW1.out.l.sz hb.size⟩
      have Ha := hideS (HAp.out _ (bw (.cells #[.int .i64 D] 3)).drew)
      have Hab := hideS (HAp.out _ (bww (.cells #[.int .i64 D] 3) (.cells #[.float .f64 4607182418800017408] 42)).drew)
      have Hba := hideS (HAp.out _ (bww (.cells #[.float .f64 4607182418800017408] 42) (.cells #[.int .i64 D] 3)).drew)
      have zz1 : (w1.alloc (.cells #[.int .i64 D] 3)).heap.size = w1.heap.size + 1 := by simp
      have zz2 : (w1.alloc (.cells #[.float .f64 4607182418800017408] 42)).heap.size = w1.heap.size + 1 := by simp
      have Ca : Hid (∀ j < 1, (w1.alloc (.cells #[.int .i64 D] 3)).drew.cell? ⟨w1.heap.size, 0 + j, none⟩ = some (xV [D] j)) := one_int w1 D 3
      have Cab : Hid (∀ j < 1, ((w1.alloc (.cells #[.int .i64 D] 3)).alloc (.cells #[.float .f64 4607182418800017408] 42)).drew.cell? ⟨w1.heap.size, 0 + j, none⟩ = some (xV [D] j)) := fun j hj => (((Below.refl _ (w1.alloc (.cells #[.int .i64 D] 3))).alloc (Nat.le_refl _) (.cells #[.float .f64 4607182418800017408] 42)).cell (p := ⟨w1.heap.size, 0 + j, none⟩) (by rw [zz1]; exact Nat.lt_succ_self _)).trans (one_int w1 D 3 j hj)
      have Cba : Hid (∀ j < 1, ((w1.alloc (.cells #[.float .f64 4607182418800017408] 42)).alloc (.cells #[.int .i64 D] 3)).drew.cell? ⟨w1.heap.size + 1, 0 + j, none⟩ = some (xV [D] j)) := by
        have := one_int (w1.alloc (.cells #[.float .f64 4607182418800017408] 42)) D 3
        rw [zz2] at this; exact this
      have Xab : Hid (∀ j < 1, ((w1.alloc (.cells #[.int .i64 D] 3)).alloc (.cells #[.float .f64 4607182418800017408] 42)).drew.cell? ⟨w1.heap.size + 1, 0 + j, none⟩ = some (flV [4607182418800017408] j)) := by
        have := one_flt (w1.alloc (.cells #[.int .i64 D] 3)) 4607182418800017408 42
        rw [zz1] at this; exact this
      have Xba : Hid (∀ j < 1, ((w1.alloc (.cells #[.float .f64 4607182418800017408] 42)).alloc (.cells #[.int .i64 D] 3)).drew.cell? ⟨w1.heap.size, 0 + j, none⟩ = some (flV [4607182418800017408] j)) := fun j hj => (((Below.refl _ (w1.alloc (.cells #[.float .f64 4607182418800017408] 42))).alloc (Nat.le_refl _) (.cells #[.int .i64 D] 3)).cell (p := ⟨w1.heap.size, 0 + j, none⟩) (by rw [zz2]; exact Nat.lt_succ_self _)).trans (one_flt w1 4607182418800017408 42 j hj)
      have HNo : Hid (∀ g, (Value.slice qx k cx).ownBlock = some g → g < w1.heap.size) := fun g hg => own_inB HW1.out.x hg
      have HLen := hideS (And.intro HW1.out.dn HW1.out.fn)
      have HLw : Hid (∀ wa, Below w1.heap.size w1 wa → wa.cell? ⟨B, 2, none⟩ = some (.slice qx k cx) ∧ wa.cell? ⟨B, 3, none⟩ = some (.slice qy k cy) ∧ wa.cell? ⟨wr.heap.size, 1, none⟩ = some (.int .i64 D)) := fun wa hb => ⟨(HAp.out wa hb).1.s2, (HAp.out wa hb).1.s3, by rw [← HDe.out]; exact (HAp.out wa hb).2.2.2.1.t1⟩
      have e1 : ∀ o, (w1.alloc o).cell? ⟨B, 2, none⟩ = some (.slice qx k cx) := fun o => (HLw.out _ (bw o)).1
      have e2 : ∀ o, (w1.alloc o).cell? ⟨B, 3, none⟩ = some (.slice qy k cy) := fun o => (HLw.out _ (bw o)).2.1
      have e5 : ∀ o, (w1.alloc o).drew.cell? ⟨B, 2, none⟩ = some (.slice qx k cx) := e1
      have e6 : ∀ o, (w1.alloc o).drew.cell? ⟨B, 3, none⟩ = some (.slice qy k cy) := e2
      have i1 : ∀ o o', ((w1.alloc o).alloc o').cell? ⟨B, 2, none⟩ = some (.slice qx k cx) := fun o o' => (HLw.out _ (bww o o')).1
      have i2 : ∀ o o', ((w1.alloc o).alloc o').cell? ⟨B, 3, none⟩ = some (.slice qy k cy) := fun o o' => (HLw.out _ (bww o o')).2.1
      have i3 : ∀ o o', ((w1.alloc o).alloc o').drew.cell? ⟨B, 2, none⟩ = some (.slice qx k cx) := i1
      have i4 : ∀ o o', ((w1.alloc o).alloc o').drew.cell? ⟨B, 3, none⟩ = some (.slice qy k cy) := i2
      clear zz1 zz2
      go_wp2_with fail
      clear hst hwq hw1 z0 z1 z2 z3 z4 y0 y1 y2 y3 y4 c0 c1 c2 c3 c4
      refine wp_region_late (fun xw => xw.cell? ⟨B, 2, none⟩ = some (.slice qx k cx) ∧ xw.cell? ⟨B, 3, none⟩ = some (.slice qy k cy) ∧ xw.cell? ⟨wr.heap.size, 1, none⟩ = some (.int .i64 D)) (fun i => i == 11 || i == 12 || i == 13) (by kernel_rfl) ?_
      have hS0 : w1.drew.cell? ⟨B, 2, none⟩ = some (.slice qx k cx) ∧ w1.drew.cell? ⟨B, 3, none⟩ = some (.slice qy k cy) ∧ w1.drew.cell? ⟨wr.heap.size, 1, none⟩ = some (.int .i64 D) := ⟨s2, s3, t1⟩
      refine anyL_take 0 (.pointer (some ⟨B, 2, none⟩)) rfl (by kernel_rfl) (by kernel_rfl) (by kernel_rfl) (by kernel_rfl) (by kernel_rfl) (fun _ _ _ h => h) (by rfl) hS0 (fun wx hS => by obtain ⟨x1, x2, x3⟩ := hS; go_simp) ?_
      simp only [Act.put, List.setIfInBounds_toArray]
      refine anyL_take 1 (.slice qx k cx) rfl (by kernel_rfl) (by kernel_rfl) (by kernel_rfl) (by kernel_rfl) (by kernel_rfl) (fun _ _ _ h => h) (by rfl) hS0 (fun wx hS => by obtain ⟨x1, x2, x3⟩ := hS; go_simp) ?_
      simp only [Act.put]
      refine anyL_take 2 (.pointer (some ⟨wr.heap.size, 1, none⟩)) rfl (by kernel_rfl) (by kernel_rfl) (by kernel_rfl) (by kernel_rfl) (by kernel_rfl) (fun _ _ _ h => h) (by rfl) hS0 (fun wx hS => by obtain ⟨x1, x2, x3⟩ := hS; go_simp) ?_
      simp only [Act.put]
      refine anyL_take 3 (.int .i64 D) rfl (by kernel_rfl) (by kernel_rfl) (by kernel_rfl) (by kernel_rfl) (by kernel_rfl) (fun _ _ _ h => h) (by rfl) hS0 (fun wx hS => by obtain ⟨x1, x2, x3⟩ := hS; go_simp) ?_
      simp only [Act.put]
      refine anyL_take 6 (.pointer (some ⟨B, 3, none⟩)) rfl (by kernel_rfl) (by kernel_rfl) (by kernel_rfl) (by kernel_rfl) (by kernel_rfl) (fun _ _ _ h => h) (by rfl) hS0 (fun wx hS => by obtain ⟨x1, x2, x3⟩ := hS; go_simp) ?_
      simp only [Act.put]
      refine anyL_take 7 (.slice qy k cy) rfl (by kernel_rfl) (by kernel_rfl) (by kernel_rfl) (by kernel_rfl) (by kernel_rfl) (fun _ _ _ h => h) (by rfl) hS0 (fun wx hS => by obtain ⟨x1, x2, x3⟩ := hS; go_simp) ?_
      simp only [Act.put]
      refine anyL_two (i := 4) (j := 8) (by kernel_rfl) ?_ ?_
      · refine wpOp_step rfl (fun K1 hK1 => ?_)
        go_simp
        refine hK1 _ _ ⟨fun _ => HLw.out _ (bw (.cells #[.int .i64 D] 3)).drew, ?_⟩
        refine anyL_two (i := 5) (j := 8) (by kernel_rfl) ?_ ?_
        · refine wpOp_step rfl (fun K2 hK2 => ?_)
          refine step_append_ik rfl (.tmp 41) (.tmp 44) rfl (B + 1) (.slice qx k cx) k (endL qs k) rfl Ha.out.2.1 (w1.heap.size) 0 1 1 [D] rfl rfl Ca.out (by omega) (by omega) Ha.out.2.2.2.2 ?_
          intro v3 w3 ho3 hg3
          have HT3 := hideS (bdT_of Ha.out.1 Ha.out.2.1 Ha.out.2.2.1 Ha.out.2.2.2.1 (fun g hg => Nat.ne_of_lt (HNx.out g hg)) ho3 hg3)
          have HG3 := hideS hg3
          obtain ⟨q3, c3, rfl⟩ := kown_shape ho3
          clear ho3 hg3
          have hS3 : w3.cell? ⟨B, 2, none⟩ = some (.slice qx k cx) ∧ w3.cell? ⟨B, 3, none⟩ = some (.slice qy k cy) ∧ w3.cell? ⟨wr.heap.size, 1, none⟩ = some (.int .i64 D) := ⟨HT3.out.l.s2, HT3.out.l.s3, by rw [← HDe.out]; exact HT3.out.q5.t1⟩
          refine hK2 _ _ ⟨fun _ => hS3, ?_⟩
          simp only [Act.put]
          refine anyL_take 10 (.pointer (some ⟨B, 2, none⟩)) rfl (by kernel_rfl) (by kernel_rfl) (by kernel_rfl) (by kernel_rfl) (by kernel_rfl) (fun _ _ _ h => h) (by rfl) hS3 (fun wx hS => by obtain ⟨x1, x2, x3⟩ := hS; go_simp) ?_
          simp only [Act.put]
          have ba3 : ∀ o, Below w3.heap.size w3 (w3.alloc o) := fun o => (Below.refl _ w3).alloc (Nat.le_refl _) o
          have HT4 := hideS (HT3.out.below (ba3 (.cells #[.float .f64 4607182418800017408] 42)))
          have X1 := hideS (one_flt w3 4607182418800017408 42)
          refine anyL_one (i := 8) (by kernel_rfl) ?_
          refine wpOp_step rfl (fun K3 hK3 => ?_)
          go_simp
          refine hK3 _ _ ⟨fun _ => ⟨HT4.out.l.s2, HT4.out.l.s3, by rw [← HDe.out]; exact HT4.out.q5.t1⟩, ?_⟩
          refine anyL_one (i := 9) (by kernel_rfl) ?_
          refine wpOp_step rfl (fun K5 hK5 => ?_)
          refine step_append_fk rfl (.tmp 47) (.tmp 48) rfl (B + 1) (.slice qy k cy) k fs rfl HT4.out.y (w3.heap.size) 0 1 1 [4607182418800017408] rfl rfl X1.out (by omega) (by omega) HT4.out.l.sz ?_
          intro v5 w5 ho5 hg5
          obtain ⟨hl5, hq5, hw5, hq6⟩ := bdW_of HT4.out (Nat.ne_of_lt HBQ.out) (by simp [HLen.out.1]) HLen.out.2 (fun g hg => Nat.ne_of_lt (HNy.out g hg)) ho5 hg5
          obtain ⟨q5, c5, rfl⟩ := kown_shape ho5
          have r2 := hl5.s2
          have r3 := hl5.s3
          have y2 := hl5.fz 2
          have y3 := hl5.fz 3
          have HW5 := hideS hw5
          have HQ6 := hideS hq6
          refine hK5 _ _ ⟨fun _ => ⟨hl5.s2, hl5.s3, by rw [← HDe.out]; exact hq5.t1⟩, ?_⟩
          simp only [Act.put]
          clear ho5 hg5 hl5 hw5 hq5 hq6
          refine anyL_one (i := 11) (by kernel_rfl) ?_
          refine wpOp_step rfl (fun K6 hK6 => ?_)
          go_simp
          refine hK6 _ _ ⟨fun h => absurd h (by decide), ?_⟩
          refine anyL_one (i := 12) (by kernel_rfl) ?_
          refine wpOp_step rfl (fun K7 hK7 => ?_)
          go_simp
          refine hK7 _ _ ⟨fun h => absurd h (by decide), ?_⟩
          refine anyL_one (i := 13) (by kernel_rfl) ?_
          refine wpOp_step rfl (fun K8 hK8 => ?_)
          go_simp
          refine hK8 _ _ ⟨fun h => absurd h (by decide), ?_⟩
          refine anyL_done (by kernel_rfl) ?_
          clear hK1 hK2 hK3 hK6 hK7 hK8 hK5
          obtain ⟨w6, hw6⟩ : ∃ w6, (w5.setCell ⟨B, 2, none⟩ (.slice q3 (k + 1) c3)).setCell ⟨B, 3, none⟩ (.slice q5 (k + 1) c5) = w6 := ⟨_, rfl⟩
          rw [hw6] at HW5 HQ6 ⊢
          have HW6 : Hid (BdW w B base kind W (.slice p rs.length c) (endL qs (k + 1)) (k + 1) (.slice q3 (k + 1) c3) (.slice q5 (k + 1) c5) (fs ++ [4607182418800017408]) w6) := by show BdW _ _ _ _ _ _ _ _ _ _ _ _; rw [HSu.out, HDe.out]; exact HW5.out
          clear hw6 HW5 r2 r3 y2 y3 hS3 s2 s3 f2 f3 t1
          obtain ⟨g3, d3, he3, hs3, _⟩ := kown_src (xs := endL qs (k + 1)) HW6.out.x (endL_len _ _) (by omega)
          obtain ⟨g5, d5, he5, hs5, _⟩ := kfown_src (xs := fs ++ [4607182418800017408]) HW6.out.y (by rw [len_last, HLen.out.2]) (by omega)
          injection he3 with he3 _ hd3
          injection he5 with he5 _ hd5
          subst he3 hd3 he5 hd5
          have hmt := bMeet_any HMv.out HOq.out HP.out.1 (by rw [endL_len, HLen.out.2]) (by rw [endL_len]; omega) (by rw [HLen.out.2, HEn.out]) HOv.out p b off c g3 c3 g5 c5 w6 (HP.out.2.1.below HW6.out.l.b.bl) (by rw [endL_len]; exact hs3) (by rw [HLen.out.2]; exact hs5) (fun i hi => (HIv.out.2 i (by rw [HLen.out.2] at hi; exact hi)).2) (own_frz HW6.out.y _) (kown_ne HW6.out.x HW6.out.y (by decide))
          have HFl := hideS HLen.out.2
          rw [HLen.out.2] at hmt
          have HMt := hideS hmt
          have q0 := HQ6.out.t0
          have q1 := HQ6.out.t1
          have q2 := HQ6.out.t2
          have q3' := HQ6.out.t3
          have q4 := HQ6.out.t4
          have u0 := HW6.out.l.s0
          have u1 := HW6.out.l.s1
          have u2 := HW6.out.l.s2
          have u3 := HW6.out.l.s3
          have k0 := HW6.out.l.b.k0
          have k1 := HW6.out.l.b.k1
          clear hmt hs3 hs5
          go_wp2_with fail
          refine HMt.out.mono ?_
          rintro e w7 ⟨rfl, Y, hb7, hY⟩
          have HW7 := hideS (bdW_met HW6.out (by rw [HFl.out]; exact hb7))
          clear hb7 HMt q0 q1 q2 q3' q4 u0 u1 u2 u3 k0 k1
          by_cases hz : ME = 0
          · have HE7 := hideS (HFin.out hz)
            have hYX := hY hz
            subst hz hYX
            have HW8 : Hid (BdW w B base kind W (.slice p rs.length c) (endL qs (k + 1)) (k + 1) (.slice (some ⟨g3, 0, none⟩) (k + 1) c3) (.slice (some ⟨g5, 0, none⟩) (k + 1) c5) (bldV base kind W rs qs (k + 1)).1 w7) := by show BdW _ _ _ _ _ _ _ _ _ _ _ _; rw [HE7.out]; exact HW7.out
            have HE8 : Hid ((bldV base kind W rs qs (k + 1)).2.1 = 0) := by show _ = _; rw [HE7.out]
            go_wp2_with fail
            go_roundw
            case rel => exact ⟨k + 1, _, _, by omega, by simp, HW8, HE8⟩
            case measure => simp [intOf]; omega
          · have HE7 := hideS (HBad.out hz)
            have HEN : Hid (bldV base kind W rs qs N = ([], ME, k)) := by
              show _ = _
              obtain ⟨dd, hdd⟩ : ∃ dd, N = k + 1 + dd := ⟨N - (k + 1), by omega⟩
              rw [hdd, HSt.out (by rw [HE7.out]; exact hz) dd, HE7.out]
            have HZ := hideS hz
            have d1 : (ME != 0) = true := bne_iff_ne.2 hz
            have d0 := HW7.out.l.b.d0
            have d1' := HW7.out.l.b.d1
            have d2 := HW7.out.l.b.d2
            have d3 := HW7.out.l.b.d3
            have z0 := HW7.out.l.b.fz 0
            have z1 := HW7.out.l.b.fz 1
            have z2 := HW7.out.l.b.fz 2
            have z3 := HW7.out.l.b.fz 3
            clear hz hY
            go_wp2_with fail
            have hsb : ∀ j, w.heap.size ≤ (⟨w.heap.size + 1, j, none⟩ : Addr).block := fun j => by show w.heap.size ≤ w.heap.size + 1; omega
            refine bodyPost_ret (v := .tuple #[.agg #[.int .i64 0, .int .i64 0, .slice none 0 0, .slice none 0 0], .int .i64 ME, .int .i64 k]) (by simp [results, Tryz.results6, go_sem, d0, d1', d2, d3]) rfl ?_
            refine ⟨Or.inl ?_, (((HW7.out.l.b.bl.setCell (hsb 0) _).setCell (hsb 1) _).setCell (hsb 2) _).setCell (hsb 3) _⟩
            rw [HEN.out]
            exact ⟨HZ.out, rfl⟩
        · refine wpOp_step rfl (fun K2 hK2 => ?_)
          go_simp
          refine hK2 _ _ ⟨fun _ => HLw.out _ (bww (.cells #[.int .i64 D] 3) (.cells #[.float .f64 4607182418800017408] 42)).drew, ?_⟩
          refine anyL_one (i := 5) (by kernel_rfl) ?_
          refine wpOp_step rfl (fun K3 hK3 => ?_)
          refine step_append_ik rfl (.tmp 41) (.tmp 44) rfl (B + 1) (.slice qx k cx) k (endL qs k) rfl Hab.out.2.1 (w1.heap.size) 0 1 1 [D] rfl rfl Cab.out (by omega) (by omega) Hab.out.2.2.2.2 ?_
          intro v3 w3 ho3 hg3
          have HT3 := hideS (bdT_of Hab.out.1 Hab.out.2.1 Hab.out.2.2.1 Hab.out.2.2.2.1 (fun g hg => Nat.ne_of_lt (HNx.out g hg)) ho3 hg3)
          have HG3 := hideS hg3
          obtain ⟨q3, c3, rfl⟩ := kown_shape ho3
          clear ho3 hg3
          have hS3 : w3.cell? ⟨B, 2, none⟩ = some (.slice qx k cx) ∧ w3.cell? ⟨B, 3, none⟩ = some (.slice qy k cy) ∧ w3.cell? ⟨wr.heap.size, 1, none⟩ = some (.int .i64 D) := ⟨HT3.out.l.s2, HT3.out.l.s3, by rw [← HDe.out]; exact HT3.out.q5.t1⟩
          refine hK3 _ _ ⟨fun _ => hS3, ?_⟩
          simp only [Act.put]
          refine anyL_take 10 (.pointer (some ⟨B, 2, none⟩)) rfl (by kernel_rfl) (by kernel_rfl) (by kernel_rfl) (by kernel_rfl) (by kernel_rfl) (fun _ _ _ h => h) (by rfl) hS3 (fun wx hS => by obtain ⟨x1, x2, x3⟩ := hS; go_simp) ?_
          simp only [Act.put]
          have X2 : Hid (∀ j < 1, w3.cell? ⟨w1.heap.size + 1, 0 + j, none⟩ = some (flV [4607182418800017408] j)) := fun j hj => (grown_cellB HG3.out (by simp <;> omega) (fun g hg => by have := HNo.out g hg; omega)).trans (Xab.out j hj)
          refine anyL_one (i := 9) (by kernel_rfl) ?_
          refine wpOp_step rfl (fun K5 hK5 => ?_)
          refine step_append_fk rfl (.tmp 47) (.tmp 48) rfl (B + 1) (.slice qy k cy) k fs rfl HT3.out.y (w1.heap.size + 1) 0 1 1 [4607182418800017408] rfl rfl X2.out (by omega) (by omega) HT3.out.l.sz ?_
          intro v5 w5 ho5 hg5
          obtain ⟨hl5, hq5, hw5, hq6⟩ := bdW_of HT3.out (Nat.ne_of_lt HBQ.out) (by simp [HLen.out.1]) HLen.out.2 (fun g hg => Nat.ne_of_lt (HNy.out g hg)) ho5 hg5
          obtain ⟨q5, c5, rfl⟩ := kown_shape ho5
          have r2 := hl5.s2
          have r3 := hl5.s3
          have y2 := hl5.fz 2
          have y3 := hl5.fz 3
          have HW5 := hideS hw5
          have HQ6 := hideS hq6
          refine hK5 _ _ ⟨fun _ => ⟨hl5.s2, hl5.s3, by rw [← HDe.out]; exact hq5.t1⟩, ?_⟩
          simp only [Act.put]
          clear ho5 hg5 hl5 hw5 hq5 hq6
          refine anyL_one (i := 11) (by kernel_rfl) ?_
          refine wpOp_step rfl (fun K6 hK6 => ?_)
          go_simp
          refine hK6 _ _ ⟨fun h => absurd h (by decide), ?_⟩
          refine anyL_one (i := 12) (by kernel_rfl) ?_
          refine wpOp_step rfl (fun K7 hK7 => ?_)
          go_simp
          refine hK7 _ _ ⟨fun h => absurd h (by decide), ?_⟩
          refine anyL_one (i := 13) (by kernel_rfl) ?_
          refine wpOp_step rfl (fun K8 hK8 => ?_)
          go_simp
          refine hK8 _ _ ⟨fun h => absurd h (by decide), ?_⟩
          refine anyL_done (by kernel_rfl) ?_
          clear hK1 hK2 hK3 hK6 hK7 hK8 hK5
          obtain ⟨w6, hw6⟩ : ∃ w6, (w5.setCell ⟨B, 2, none⟩ (.slice q3 (k + 1) c3)).setCell ⟨B, 3, none⟩ (.slice q5 (k + 1) c5) = w6 := ⟨_, rfl⟩
          rw [hw6] at HW5 HQ6 ⊢
          have HW6 : Hid (BdW w B base kind W (.slice p rs.length c) (endL qs (k + 1)) (k + 1) (.slice q3 (k + 1) c3) (.slice q5 (k + 1) c5) (fs ++ [4607182418800017408]) w6) := by show BdW _ _ _ _ _ _ _ _ _ _ _ _; rw [HSu.out, HDe.out]; exact HW5.out
          clear hw6 HW5 r2 r3 y2 y3 hS3 s2 s3 f2 f3 t1
          obtain ⟨g3, d3, he3, hs3, _⟩ := kown_src (xs := endL qs (k + 1)) HW6.out.x (endL_len _ _) (by omega)
          obtain ⟨g5, d5, he5, hs5, _⟩ := kfown_src (xs := fs ++ [4607182418800017408]) HW6.out.y (by rw [len_last, HLen.out.2]) (by omega)
          injection he3 with he3 _ hd3
          injection he5 with he5 _ hd5
          subst he3 hd3 he5 hd5
          have hmt := bMeet_any HMv.out HOq.out HP.out.1 (by rw [endL_len, HLen.out.2]) (by rw [endL_len]; omega) (by rw [HLen.out.2, HEn.out]) HOv.out p b off c g3 c3 g5 c5 w6 (HP.out.2.1.below HW6.out.l.b.bl) (by rw [endL_len]; exact hs3) (by rw [HLen.out.2]; exact hs5) (fun i hi => (HIv.out.2 i (by rw [HLen.out.2] at hi; exact hi)).2) (own_frz HW6.out.y _) (kown_ne HW6.out.x HW6.out.y (by decide))
          have HFl := hideS HLen.out.2
          rw [HLen.out.2] at hmt
          have HMt := hideS hmt
          have q0 := HQ6.out.t0
          have q1 := HQ6.out.t1
          have q2 := HQ6.out.t2
          have q3' := HQ6.out.t3
          have q4 := HQ6.out.t4
          have u0 := HW6.out.l.s0
          have u1 := HW6.out.l.s1
          have u2 := HW6.out.l.s2
          have u3 := HW6.out.l.s3
          have k0 := HW6.out.l.b.k0
          have k1 := HW6.out.l.b.k1
          clear hmt hs3 hs5
          go_wp2_with fail
          refine HMt.out.mono ?_
          rintro e w7 ⟨rfl, Y, hb7, hY⟩
          have HW7 := hideS (bdW_met HW6.out (by rw [HFl.out]; exact hb7))
          clear hb7 HMt q0 q1 q2 q3' q4 u0 u1 u2 u3 k0 k1
          by_cases hz : ME = 0
          · have HE7 := hideS (HFin.out hz)
            have hYX := hY hz
            subst hz hYX
            have HW8 : Hid (BdW w B base kind W (.slice p rs.length c) (endL qs (k + 1)) (k + 1) (.slice (some ⟨g3, 0, none⟩) (k + 1) c3) (.slice (some ⟨g5, 0, none⟩) (k + 1) c5) (bldV base kind W rs qs (k + 1)).1 w7) := by show BdW _ _ _ _ _ _ _ _ _ _ _ _; rw [HE7.out]; exact HW7.out
            have HE8 : Hid ((bldV base kind W rs qs (k + 1)).2.1 = 0) := by show _ = _; rw [HE7.out]
            go_wp2_with fail
            go_roundw
            case rel => exact ⟨k + 1, _, _, by omega, by simp, HW8, HE8⟩
            case measure => simp [intOf]; omega
          · have HE7 := hideS (HBad.out hz)
            have HEN : Hid (bldV base kind W rs qs N = ([], ME, k)) := by
              show _ = _
              obtain ⟨dd, hdd⟩ : ∃ dd, N = k + 1 + dd := ⟨N - (k + 1), by omega⟩
              rw [hdd, HSt.out (by rw [HE7.out]; exact hz) dd, HE7.out]
            have HZ := hideS hz
            have d1 : (ME != 0) = true := bne_iff_ne.2 hz
            have d0 := HW7.out.l.b.d0
            have d1' := HW7.out.l.b.d1
            have d2 := HW7.out.l.b.d2
            have d3 := HW7.out.l.b.d3
            have z0 := HW7.out.l.b.fz 0
            have z1 := HW7.out.l.b.fz 1
            have z2 := HW7.out.l.b.fz 2
            have z3 := HW7.out.l.b.fz 3
            clear hz hY
            go_wp2_with fail
            have hsb : ∀ j, w.heap.size ≤ (⟨w.heap.size + 1, j, none⟩ : Addr).block := fun j => by show w.heap.size ≤ w.heap.size + 1; omega
            refine bodyPost_ret (v := .tuple #[.agg #[.int .i64 0, .int .i64 0, .slice none 0 0, .slice none 0 0], .int .i64 ME, .int .i64 k]) (by simp [results, Tryz.results6, go_sem, d0, d1', d2, d3]) rfl ?_
            refine ⟨Or.inl ?_, (((HW7.out.l.b.bl.setCell (hsb 0) _).setCell (hsb 1) _).setCell (hsb 2) _).setCell (hsb 3) _⟩
            rw [HEN.out]
            exact ⟨HZ.out, rfl⟩
      · refine wpOp_step rfl (fun K1 hK1 => ?_)
        go_simp
        refine hK1 _ _ ⟨fun _ => HLw.out _ (bw (.cells #[.float .f64 4607182418800017408] 42)).drew, ?_⟩
        refine anyL_one (i := 4) (by kernel_rfl) ?_
        refine wpOp_step rfl (fun K2 hK2 => ?_)
        go_simp
        refine hK2 _ _ ⟨fun _ => HLw.out _ (bww (.cells #[.float .f64 4607182418800017408] 42) (.cells #[.int .i64 D] 3)).drew, ?_⟩
        refine anyL_one (i := 5) (by kernel_rfl) ?_
        refine wpOp_step rfl (fun K3 hK3 => ?_)
        refine step_append_ik rfl (.tmp 41) (.tmp 44) rfl (B + 1) (.slice qx k cx) k (endL qs k) rfl Hba.out.2.1 (w1.heap.size + 1) 0 1 1 [D] rfl rfl Cba.out (by omega) (by omega) Hba.out.2.2.2.2 ?_
        intro v3 w3 ho3 hg3
        have HT3 := hideS (bdT_of Hba.out.1 Hba.out.2.1 Hba.out.2.2.1 Hba.out.2.2.2.1 (fun g hg => Nat.ne_of_lt (HNx.out g hg)) ho3 hg3)
        have HG3 := hideS hg3
        obtain ⟨q3, c3, rfl⟩ := kown_shape ho3
        clear ho3 hg3
        have hS3 : w3.cell? ⟨B, 2, none⟩ = some (.slice qx k cx) ∧ w3.cell? ⟨B, 3, none⟩ = some (.slice qy k cy) ∧ w3.cell? ⟨wr.heap.size, 1, none⟩ = some (.int .i64 D) := ⟨HT3.out.l.s2, HT3.out.l.s3, by rw [← HDe.out]; exact HT3.out.q5.t1⟩
        refine hK3 _ _ ⟨fun _ => hS3, ?_⟩
        simp only [Act.put]
        refine anyL_take 10 (.pointer (some ⟨B, 2, none⟩)) rfl (by kernel_rfl) (by kernel_rfl) (by kernel_rfl) (by kernel_rfl) (by kernel_rfl) (fun _ _ _ h => h) (by rfl) hS3 (fun wx hS => by obtain ⟨x1, x2, x3⟩ := hS; go_simp) ?_
        simp only [Act.put]
        have X3 : Hid (∀ j < 1, w3.cell? ⟨w1.heap.size, 0 + j, none⟩ = some (flV [4607182418800017408] j)) := fun j hj => (grown_cellB HG3.out (by simp <;> omega) (fun g hg => by have := HNo.out g hg; omega)).trans (Xba.out j hj)
        refine anyL_one (i := 9) (by kernel_rfl) ?_
        refine wpOp_step rfl (fun K5 hK5 => ?_)
        refine step_append_fk rfl (.tmp 47) (.tmp 48) rfl (B + 1) (.slice qy k cy) k fs rfl HT3.out.y (w1.heap.size) 0 1 1 [4607182418800017408] rfl rfl X3.out (by omega) (by omega) HT3.out.l.sz ?_
        intro v5 w5 ho5 hg5
        obtain ⟨hl5, hq5, hw5, hq6⟩ := bdW_of HT3.out (Nat.ne_of_lt HBQ.out) (by simp [HLen.out.1]) HLen.out.2 (fun g hg => Nat.ne_of_lt (HNy.out g hg)) ho5 hg5
        obtain ⟨q5, c5, rfl⟩ := kown_shape ho5
        have r2 := hl5.s2
        have r3 := hl5.s3
        have y2 := hl5.fz 2
        have y3 := hl5.fz 3
        have HW5 := hideS hw5
        have HQ6 := hideS hq6
        refine hK5 _ _ ⟨fun _ => ⟨hl5.s2, hl5.s3, by rw [← HDe.out]; exact hq5.t1⟩, ?_⟩
        simp only [Act.put]
        clear ho5 hg5 hl5 hw5 hq5 hq6
        refine anyL_one (i := 11) (by kernel_rfl) ?_
        refine wpOp_step rfl (fun K6 hK6 => ?_)
        go_simp
        refine hK6 _ _ ⟨fun h => absurd h (by decide), ?_⟩
        refine anyL_one (i := 12) (by kernel_rfl) ?_
        refine wpOp_step rfl (fun K7 hK7 => ?_)
        go_simp
        refine hK7 _ _ ⟨fun h => absurd h (by decide), ?_⟩
        refine anyL_one (i := 13) (by kernel_rfl) ?_
        refine wpOp_step rfl (fun K8 hK8 => ?_)
        go_simp
        refine hK8 _ _ ⟨fun h => absurd h (by decide), ?_⟩
        refine anyL_done (by kernel_rfl) ?_
        clear hK1 hK2 hK3 hK6 hK7 hK8 hK5
        obtain ⟨w6, hw6⟩ : ∃ w6, (w5.setCell ⟨B, 2, none⟩ (.slice q3 (k + 1) c3)).setCell ⟨B, 3, none⟩ (.slice q5 (k + 1) c5) = w6 := ⟨_, rfl⟩
        rw [hw6] at HW5 HQ6 ⊢
        have HW6 : Hid (BdW w B base kind W (.slice p rs.length c) (endL qs (k + 1)) (k + 1) (.slice q3 (k + 1) c3) (.slice q5 (k + 1) c5) (fs ++ [4607182418800017408]) w6) := by show BdW _ _ _ _ _ _ _ _ _ _ _ _; rw [HSu.out, HDe.out]; exact HW5.out
        clear hw6 HW5 r2 r3 y2 y3 hS3 s2 s3 f2 f3 t1
        obtain ⟨g3, d3, he3, hs3, _⟩ := kown_src (xs := endL qs (k + 1)) HW6.out.x (endL_len _ _) (by omega)
        obtain ⟨g5, d5, he5, hs5, _⟩ := kfown_src (xs := fs ++ [4607182418800017408]) HW6.out.y (by rw [len_last, HLen.out.2]) (by omega)
        injection he3 with he3 _ hd3
        injection he5 with he5 _ hd5
        subst he3 hd3 he5 hd5
        have hmt := bMeet_any HMv.out HOq.out HP.out.1 (by rw [endL_len, HLen.out.2]) (by rw [endL_len]; omega) (by rw [HLen.out.2, HEn.out]) HOv.out p b off c g3 c3 g5 c5 w6 (HP.out.2.1.below HW6.out.l.b.bl) (by rw [endL_len]; exact hs3) (by rw [HLen.out.2]; exact hs5) (fun i hi => (HIv.out.2 i (by rw [HLen.out.2] at hi; exact hi)).2) (own_frz HW6.out.y _) (kown_ne HW6.out.x HW6.out.y (by decide))
        have HFl := hideS HLen.out.2
        rw [HLen.out.2] at hmt
        have HMt := hideS hmt
        have q0 := HQ6.out.t0
        have q1 := HQ6.out.t1
        have q2 := HQ6.out.t2
        have q3' := HQ6.out.t3
        have q4 := HQ6.out.t4
        have u0 := HW6.out.l.s0
        have u1 := HW6.out.l.s1
        have u2 := HW6.out.l.s2
        have u3 := HW6.out.l.s3
        have k0 := HW6.out.l.b.k0
        have k1 := HW6.out.l.b.k1
        clear hmt hs3 hs5
        go_wp2_with fail
        refine HMt.out.mono ?_
        rintro e w7 ⟨rfl, Y, hb7, hY⟩
        have HW7 := hideS (bdW_met HW6.out (by rw [HFl.out]; exact hb7))
        clear hb7 HMt q0 q1 q2 q3' q4 u0 u1 u2 u3 k0 k1
        by_cases hz : ME = 0
        · have HE7 := hideS (HFin.out hz)
          have hYX := hY hz
          subst hz hYX
          have HW8 : Hid (BdW w B base kind W (.slice p rs.length c) (endL qs (k + 1)) (k + 1) (.slice (some ⟨g3, 0, none⟩) (k + 1) c3) (.slice (some ⟨g5, 0, none⟩) (k + 1) c5) (bldV base kind W rs qs (k + 1)).1 w7) := by show BdW _ _ _ _ _ _ _ _ _ _ _ _; rw [HE7.out]; exact HW7.out
          have HE8 : Hid ((bldV base kind W rs qs (k + 1)).2.1 = 0) := by show _ = _; rw [HE7.out]
          go_wp2_with fail
          go_roundw
          case rel => exact ⟨k + 1, _, _, by omega, by simp, HW8, HE8⟩
          case measure => simp [intOf]; omega
        · have HE7 := hideS (HBad.out hz)
          have HEN : Hid (bldV base kind W rs qs N = ([], ME, k)) := by
            show _ = _
            obtain ⟨dd, hdd⟩ : ∃ dd, N = k + 1 + dd := ⟨N - (k + 1), by omega⟩
            rw [hdd, HSt.out (by rw [HE7.out]; exact hz) dd, HE7.out]
          have HZ := hideS hz
          have d1 : (ME != 0) = true := bne_iff_ne.2 hz
          have d0 := HW7.out.l.b.d0
          have d1' := HW7.out.l.b.d1
          have d2 := HW7.out.l.b.d2
          have d3 := HW7.out.l.b.d3
          have z0 := HW7.out.l.b.fz 0
          have z1 := HW7.out.l.b.fz 1
          have z2 := HW7.out.l.b.fz 2
          have z3 := HW7.out.l.b.fz 3
          clear hz hY
          go_wp2_with fail
          have hsb : ∀ j, w.heap.size ≤ (⟨w.heap.size + 1, j, none⟩ : Addr).block := fun j => by show w.heap.size ≤ w.heap.size + 1; omega
          refine bodyPost_ret (v := .tuple #[.agg #[.int .i64 0, .int .i64 0, .slice none 0 0, .slice none 0 0], .int .i64 ME, .int .i64 k]) (by simp [results, Tryz.results6, go_sem, d0, d1', d2, d3]) rfl ?_
          refine ⟨Or.inl ?_, (((HW7.out.l.b.bl.setCell (hsb 0) _).setCell (hsb 1) _).setCell (hsb 2) _).setCell (hsb 3) _⟩
          rw [HEN.out]
          exact ⟨HZ.out, rfl⟩
    · obtain rfl : k = N := by omega
      obtain ⟨qx, cx, rfl⟩ := kown_shape HW.out.x
      obtain ⟨qy, cy, rfl⟩ := kown_shape HW.out.y
      have u0 := HW.out.l.s0
      have u1 := HW.out.l.s1
      have u2 := HW.out.l.s2
      have u3 := HW.out.l.s3
      have d0 := HW.out.l.b.d0
      have d1 := HW.out.l.b.d1
      have d2 := HW.out.l.b.d2
      have d3 := HW.out.l.b.d3
      have z0 := HW.out.l.b.fz 0
      have z1 := HW.out.l.b.fz 1
      have z2 := HW.out.l.b.fz 2
      have z3 := HW.out.l.b.fz 3
      go_wp2_with fail
      have hsb : ∀ j, w.heap.size ≤ (⟨w.heap.size + 1, j, none⟩ : Addr).block := fun j => by show w.heap.size ≤ w.heap.size + 1; omega
      have hlo : w.heap.size + 1 < B + 1 := by have := HW.out.l.lo; omega
      refine bodyPost_ret (v := .tuple #[.agg #[.int .i64 base, .int .i64 kind, .slice qx k cx, .slice qy k cy], .int .i64 0, .int .i64 0]) (by simp [results, Tryz.results6, go_sem, d0, d1, d2, d3]) rfl ?_
      refine ⟨Or.inr ⟨HE.out, _, _, rfl, ?_, ?_, by rw [endL_len]; exact HW.out.fn⟩, (((HW.out.l.b.bl.setCell (hsb 0) _).setCell (hsb 1) _).setCell (hsb 2) _).setCell (hsb 3) _⟩
      · rw [endL_len]; exact kown_mono (kown_put (kown_put (kown_put (kown_put HW.out.x hlo _) hlo _) hlo _) hlo _) (by omega)
      · rw [endL_len]; exact kown_mono (kown_put (kown_put (kown_put (kown_put HW.out.y hlo _) hlo _) hlo _) hlo _) (by omega)
end Go.Proofs.YtphnainibdepbaaGreat
namespace Go.Proofs.YtphnainibdepbaaGreat
open Go.RowKit

set_option maxRecDepth 20000 in
set_option maxHeartbeats 1600000 in
theorem bBuild_bad (base kind W E K : Int) (v vq : Value) (w : World) (hE : E ≠ 0)
    (HCk : Hid (∀ wx, Below w.heap.size w wx → Calls Tryz.prog 10 #[.int .i64 base, .int .i64 kind, .agg #[.int .i64 W, v], vq] wx fun e w' => e = .returned (.tuple #[.int .i64 E, .int .i64 K]) ∧ Below wx.heap.size wx w')) :
    Calls Tryz.prog 6 #[.int .i64 base, .int .i64 kind, .agg #[.int .i64 W, v], vq] w fun e w' => e = .returned (.tuple #[.agg #[.int .i64 0, .int .i64 0, .slice none 0 0, .slice none 0 0], .int .i64 E, .int .i64 K]) ∧ Below w.heap.size w w' := by
  have HB := hideS (bdB_at w W v)
  have d9 : (E != 0) = true := bne_iff_ne.2 hE
  clear hE
  go_enter Tryz.func6, Tryz.ntmps6
  go_wp2_with fail
  refine (HCk.out _ HB.out.bl).mono ?_
  rintro e w2 ⟨rfl, hb2⟩
  have HB2 := hideS (HB.out.stay (hb2.mono HB.out.sz))
  have d0 := HB2.out.d0
  have d1 := HB2.out.d1
  have d2 := HB2.out.d2
  have d3 := HB2.out.d3
  have z0 := HB2.out.fz 0
  have z1 := HB2.out.fz 1
  have z2 := HB2.out.fz 2
  have z3 := HB2.out.fz 3
  clear hb2 HCk HB
  go_wp2_with fail
  have hsb : ∀ j, w.heap.size ≤ (⟨w.heap.size + 1, j, none⟩ : Addr).block := fun j => by show w.heap.size ≤ w.heap.size + 1; omega
  refine bodyPost_ret (v := .tuple #[.agg #[.int .i64 0, .int .i64 0, .slice none 0 0, .slice none 0 0], .int .i64 E, .int .i64 K]) (by simp [results, Tryz.results6, go_sem, d0, d1, d2, d3]) rfl ?_
  exact ⟨rfl, (((HB2.out.bl.setCell (hsb 0) _).setCell (hsb 1) _).setCell (hsb 2) _).setCell (hsb 3) _⟩
inductive BuiR (base kind W A : Int) (rs : List Rul) (qs : List Quo) : List Nat × Int × Int → Prop
  | bad (E K : Int) (h : Chk13 base kind A qs E K) (hE : E ≠ 0) : BuiR base kind W A rs qs ([], E, K)
  | go (h : Chk13 base kind A qs 0 0) : BuiR base kind W A rs qs ((bldV base kind W rs qs qs.length).1, (bldV base kind W rs qs qs.length).2.1, ((bldV base kind W rs qs qs.length).2.2 : Nat))
theorem buiR_ex (base kind W A : Int) (rs : List Rul) (qs : List Quo) : ∃ R, BuiR base kind W A rs qs R := by
  obtain ⟨E, K, h⟩ := chk13_ex base kind A qs
  by_cases hE : E = 0
  · subst hE
    have hK : K = 0 := by
      obtain ⟨F, hF, ⟨h0, h1, _⟩ | ⟨_, _, _, _, _, _, _, _, hQ⟩⟩ := chk13_frm h
      · exact absurd h1.symm h0
      · generalize hz : (0 : Int) = z at hQ
        cases hQ with
        | fine => rfl
        | bad k hk e he h0 => exact absurd hz.symm h0
    subst hK
    exact ⟨_, .go h⟩
  · exact ⟨_, .bad E K h hE⟩
theorem chk13_ok {base kind A : Int} {qs : List Quo} (h : Chk13 base kind A qs 0 0) : (∀ i < qs.length, fitQ (qs.getD i quo0) (prvQ base qs i) = 0) ∧ 0 ≤ base ∧ base ≤ 109572 ∧ 1 ≤ kind ∧ kind ≤ 4 ∧ A = 0 ∧ 1 ≤ qs.length ∧ qs.length ≤ 64 := by
  obtain ⟨F, hF, ⟨h0, h1, _⟩ | ⟨_, a, b, c, d, e, f, g, hQ⟩⟩ := chk13_frm h
  · exact absurd h1.symm h0
  · refine ⟨?_, a, b, c, d, e, f, g⟩
    generalize hz : (0 : Int) = z at hQ
    cases hQ with
    | fine h => exact h
    | bad k hk e he h0 => exact absurd hz.symm h0
theorem chk_zero {W B : Int} {rs : List Rul} (h : ChkR W rs 0 B) : OkC W rs := by
  generalize hz : (0 : Int) = z at h
  cases h with
  | long => cases hz
  | week => cases hz
  | rule => cases hz
  | ok h => exact h
theorem bBuild_any (base kind W A B : Int) (p pq : Option Addr) (b off c bq oq cq : Nat) (rs : List Rul) (qs : List Quo) (w : World) (hA : ChkR W rs A B) (hs : RSrc w p b off rs) (hl : rs.length ≤ 9223372036854775807) (hq : QSrc w pq bq oq qs) {R : List Nat × Int × Int} (hR : BuiR base kind W A rs qs R) :
    Calls Tryz.prog 6 #[.int .i64 base, .int .i64 kind, .agg #[.int .i64 W, .slice p rs.length c], .slice pq qs.length cq] w fun e w' => BldO w base kind (endL qs qs.length) R e w' ∧ Below w.heap.size w w' := by
  cases hR with
  | bad E K h hE =>
    exact (bBuild_bad base kind W E K _ _ w hE (fun wx hb => bCheck_any base kind W A B E K p pq b off c bq oq cq rs qs wx hA (hs.below hb) hl (hq.below hb) h)).mono fun e w' ⟨h1, h2⟩ => ⟨Or.inl ⟨hE, h1⟩, h2⟩
  | go h =>
    obtain ⟨hf, b0, b1, k1, k4, rfl, lo, hi⟩ := chk13_ok h
    obtain rfl := hq.at_ (by omega)
    exact bBuild_go base kind W p b off c bq oq cq qs.length rs qs w (chk_zero hA) hs hq rfl hi b0 b1 k1 k4 hf (fun wx hb => bCheck_any base kind W 0 B 0 0 p _ b off c bq oq cq rs qs wx hA (hs.below hb) hl (hq.below hb) h)
end Go.Proofs.YtphnainibdepbaaGreat
namespace Go.Proofs.YtphnainibdepbaaGreat
open Go.RowKit

structure RnB (A Z : Nat) (w w' : World) : Prop where
  os : w'.os = w.os
  tape : w'.tape = w.tape
  output : w'.output = w.output
  size : w'.heap.size = w.heap.size
  out : ∀ k, k < A ∨ Z ≤ k → w'.heap[k]? = w.heap[k]?
theorem RnB.refl (A Z : Nat) (w : World) : RnB A Z w w := ⟨rfl, rfl, rfl, rfl, fun _ _ => rfl⟩
theorem RnB.trans {A Z : Nat} {w w' w'' : World} (h : RnB A Z w w') (k : RnB A Z w' w'') : RnB A Z w w'' := ⟨k.os.trans h.os, k.tape.trans h.tape, k.output.trans h.output, k.size.trans h.size, fun b hb => (k.out b hb).trans (h.out b hb)⟩
theorem RnB.below {A Z B : Nat} {w w' : World} (h : RnB A Z w w') (hB : B ≤ A) : Below B w w' := ⟨h.os, h.tape, h.output, Nat.le_of_eq h.size.symm, fun k hk => h.out k (Or.inl (by omega))⟩
theorem RnB.cell {A Z : Nat} {w w' : World} (h : RnB A Z w w') {p : Addr} (hp : p.block < A ∨ Z ≤ p.block) : w'.cell? p = w.cell? p := World.cell?_of_block (w := w) (h.out p.block hp)
theorem blkB_far (w : World) (a : Addr) (u : Value) (k : Nat) (h : k ≠ a.block) : (w.setCell a u).heap[k]? = w.heap[k]? := by
  simp only [World.setCell, Array.getElem?_modify]
  rw [if_neg (by omega)]
structure WrR (g n : Nat) (w : World) : Prop where
  cell : ∀ k < n, ∃ u, w.cell? ⟨g, k, none⟩ = some u
  fz : 0 < n → ∀ k, w.frozen? ⟨g, k, none⟩ = false
  lt : 0 < n → g < w.heap.size
theorem WrR.of_own {t : TypeId} {w : World} {B n g c : Nat} {xs : List Value} (h : w.ownsRow B t 1 (.slice (some ⟨g, 0, none⟩) n c) n xs) : WrR g n w := by
  refine ⟨fun k hk => ?_, fun _ k => World.ownsRow.frozenAt h k, fun hn => ?_⟩
  · have h1 := World.ownsRow.cellAt h k (by omega)
    have hx : k < xs.length := by have := h.1; omega
    rw [List.getElem?_eq_getElem hx] at h1
    exact ⟨_, h1⟩
  · rcases h.2 with ⟨e, _⟩ | ⟨k, cap, cur, e, hk, hgg, _⟩
    · cases e
    · injection e with e _ _
      injection e with e
      injection e with e _ _
      subst e
      exact (Array.getElem?_eq_some_iff.1 hgg).1
theorem WrR.same {g n : Nat} {w w' : World} (h : WrR g n w) (hb : w'.heap[g]? = w.heap[g]?) (hs : w.heap.size ≤ w'.heap.size) : WrR g n w' :=
  ⟨fun k hk => by rw [World.cell?_of_block (w := w) (a := ⟨g, k, none⟩) hb]; exact h.cell k hk, fun hn k => by rw [World.frozen?_of_block (w := w) (a := ⟨g, k, none⟩) hb]; exact h.fz hn k, fun hn => Nat.lt_of_lt_of_le (h.lt hn) hs⟩
theorem WrR.put {g n k A Z : Nat} {w : World} (h : WrR g n w) (x : Value) (hA : A ≤ g) (hZ : g < Z) : WrR g n (w.setCell ⟨g, k, none⟩ x) ∧ RnB A Z w (w.setCell ⟨g, k, none⟩ x) := by
  have hb := (Below.refl 0 w).setCell (p := ⟨g, k, none⟩) (Nat.zero_le _) x
  refine ⟨⟨fun j hj => ?_, fun hn j => by rw [World.frozen?_setCell]; exact h.fz hn j, fun hn => by rw [World.size_setCell]; exact h.lt hn⟩, ⟨hb.os, hb.tape, hb.output, by rw [World.size_setCell], fun b hb => blkB_far w ⟨g, k, none⟩ x b (by show b ≠ g; omega)⟩⟩
  obtain ⟨u, hu⟩ := h.cell j hj
  by_cases e : j = k
  · subst e; exact ⟨x, World.cell?_setCell_same w _ _ hu⟩
  · exact ⟨u, (World.cell?_setCell_other w _ _ _ (fun h => e (by injection h with _ h _; exact h.symm))).trans hu⟩
structure BlT (lo n : Nat) (px py : Option Addr) (gx gy : Nat) (ds : List Int) (fs : List Nat) (w : World) : Prop where
  lx : ds.length = n
  ly : fs.length = n
  src : TFl w px py gx 0 gy 0 ds fs
  wx : WrR gx n w
  wy : WrR gy n w
  px : 0 < n → px = some ⟨gx, 0, none⟩
  py : 0 < n → py = some ⟨gy, 0, none⟩
  lo : 0 < n → lo ≤ gx ∧ lo ≤ gy
  hi : 0 < n → gx < w.heap.size ∧ gy < w.heap.size
  ne : 0 < n → gx ≠ gy
theorem BlT.same {lo lo' n gx gy : Nat} {px py : Option Addr} {ds : List Int} {fs : List Nat} {w w' : World} (h : BlT lo n px py gx gy ds fs w) (e1 : 0 < n → w'.heap[gx]? = w.heap[gx]?) (e2 : 0 < n → w'.heap[gy]? = w.heap[gy]?) (hs : w.heap.size ≤ w'.heap.size) (hlo : lo' ≤ lo) : BlT lo' n px py gx gy ds fs w' := by
  have a1 := h.lx
  have a2 := h.ly
  refine ⟨h.lx, h.ly, ⟨⟨h.src.x.at_, fun a => Nat.lt_of_lt_of_le (h.src.x.lt a) hs, fun j hj => (World.cell?_of_block (w := w) (a := ⟨gx, 0 + j, none⟩) (e1 (by omega))).trans (h.src.x.cell j hj)⟩, ⟨h.src.y.at_, fun a => Nat.lt_of_lt_of_le (h.src.y.lt a) hs, fun j hj => (World.cell?_of_block (w := w) (a := ⟨gy, 0 + j, none⟩) (e2 (by omega))).trans (h.src.y.cell j hj)⟩, h.src.f⟩, ?_, ?_, h.px, h.py, fun hn => ⟨Nat.le_trans hlo (h.lo hn).1, Nat.le_trans hlo (h.lo hn).2⟩, fun hn => ⟨Nat.lt_of_lt_of_le (h.hi hn).1 hs, Nat.lt_of_lt_of_le (h.hi hn).2 hs⟩, h.ne⟩
  · by_cases hn : 0 < n
    · exact h.wx.same (e1 hn) hs
    · exact ⟨fun k hk => by omega, fun a => absurd a hn, fun a => absurd a hn⟩
  · by_cases hn : 0 < n
    · exact h.wy.same (e2 hn) hs
    · exact ⟨fun k hk => by omega, fun a => absurd a hn, fun a => absurd a hn⟩
theorem BlT.below {lo n gx gy : Nat} {px py : Option Addr} {ds : List Int} {fs : List Nat} {w w' : World} (h : BlT lo n px py gx gy ds fs w) (hb : Below w.heap.size w w') : BlT lo n px py gx gy ds fs w' :=
  h.same (fun hn => hb.block gx (h.hi hn).1) (fun hn => hb.block gy (h.hi hn).2) hb.size (Nat.le_refl _)
theorem blT_nil (lo : Nat) (w : World) : BlT lo 0 none none 0 0 [] [] w := ⟨rfl, rfl, ⟨⟨fun a => by simp at a, fun a => by simp at a, fun j hj => by simp at hj⟩, ⟨fun a => by simp at a, fun a => by simp at a, fun j hj => by simp at hj⟩, fun i hi => by simp at hi⟩, ⟨fun k hk => by omega, fun a => by omega, fun a => by omega⟩, ⟨fun k hk => by omega, fun a => by omega, fun a => by omega⟩, fun a => by omega, fun a => by omega, fun a => by omega, fun a => by omega, fun a => by omega⟩
theorem wpList_append_quoN (w : World) {ops : Array Oper} {rest : List Oper} {o : Oper} {a : Act} {Q : Exit → Act → World → Prop} (hgd : o.guard = none) (s x : Operand)
    (ho : o.op = .call { callee := .builtin .append, args := #[s, x], argTypes := #[25, 25] })
    (base : Nat) (v : Value) (n : Nat) (xs : List Quo) (hs : a.eval s = v) (hown : w.ownsRow base 30 5 v n (rowQ xs))
    (p : Option Addr) (b off c m : Nat) (ys : List Quo) (hx : a.eval x = .slice p m c) (hm : ys.length = m) (hsrc : QSrc w p b off ys) (hnil : p = none → m = 0 ∧ c = 0) (hn : n ≤ 100000) (hmb : m ≤ 100000) (hbase : base ≤ w.heap.size)
    (h : ∀ v' w', w'.ownsRow base 30 5 v' (n + m) (rowQ (xs ++ ys)) → w.grownBy w' v.ownBlock → wpList Tryz.prog ops Q rest (a.put o.dst v') w') : wpList Tryz.prog ops Q (o :: rest) a w := by
  obtain ⟨i0, hi, hz0, hz1, hz2⟩ := info_parts info_quo
  subst hm
  cases p with
  | none =>
    obtain ⟨h0, rfl⟩ := hnil rfl
    rw [h0] at hx h
    refine wpList_append_own_none hgd s x 25 ho base 30 i0 5 Tryz.underlying25 hi v n (rowQ xs) hs hown hx (h v w ?_ ⟨rfl, rfl, rfl, Nat.le_refl _, fun _ _ _ => rfl⟩)
    rw [List.length_eq_zero_iff.1 h0, List.append_nil]; exact hown
  | some ad =>
    by_cases h0 : ys.length = 0
    · rw [h0] at hx h
      have e := List.length_eq_zero_iff.1 h0
      subst e
      refine wpList_append_own w hgd s x 25 ho base 30 i0 (.agg #[.int .i64 0, .int .i64 0, .int .i64 0, .int .i64 0, .float .f32 0]) 5 40 Tryz.underlying25 hi hz0 hz1 hz2 rfl (by decide) v n (rowQ xs) hs hown ad 0 c (rowQ []) hx rfl (fun j u hj => by simp [rowQ] at hj) (rowQ_one []) (by unfold maxLen; omega) (by omega) hbase ?_
      intro v' w' h1 h2 _
      refine h v' w' ?_ h2
      rw [rowQ_append]; exact h1
    · obtain rfl := Option.some.inj (hsrc.at_ (by omega))
      exact wpList_append_quo w hgd s x ho base v n xs hs hown b off c ys hx hsrc.cell hn hmb hbase h
end Go.Proofs.YtphnainibdepbaaGreat
