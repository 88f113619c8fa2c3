/- The contract of package boot's meet. Build: its boxes and rows. Building, in plain words: what the nodes found so far keep. -/
import Derived.Test.YtphnainibdepbaaGreatHbs
import Derived.Test.YtphnainibdepbaaGreatHbt
import Derived.Test.YtphnainibdepbaaGreatHbq
import Derived.Test.YtphnainibdepbaaGreatHbo
import Derived.Test.YtphnainibdepbaaGreatHbb
import Derived.Test.YtphnainibdepbaaGreatHbr
import Derived.Test.YtphnainibdepbaaGreatHbn
import Derived.Test.YtphnainibdepbaaGreatHay
namespace Go.Proofs.YtphnainibdepbaaGreat
open Go.RowKit

theorem amt_lt (W : Int) (rs : List Rul) {q : Quo} {a b : Int} (hq : finB (dblW q.rate : Nat) = true) (ha : isDayP a) (hb : isDayP b) : amtV W rs q a b < 18446744073709551616 := by
  obtain ⟨r, _, hg⟩ := op_prog .mul (by simp) 42 (agU_some (dblW_fit q.rate)) (agU_some (yea_num W rs q ha hb).1) default
  have e : opO .mul (some (dblW q.rate)) (some (yeaV W rs q a b)) = some (amtV W rs q a b) := amt_is W rs hq ha hb
  rw [e] at hg
  have : r = amtV W rs q a b := hg.1
  rw [← this]; exact hg.2
theorem nbox (w : World) (z v : Value) (t : TypeId) : Below w.heap.size w ((w.alloc (.cells #[z] t)).setCell ⟨w.heap.size, 0, none⟩ v) ∧ ((w.alloc (.cells #[z] t)).setCell ⟨w.heap.size, 0, none⟩ v).cell? ⟨w.heap.size, 0, none⟩ = some v ∧ ((w.alloc (.cells #[z] t)).setCell ⟨w.heap.size, 0, none⟩ v).heap.size = w.heap.size + 1 ∧ ((w.alloc (.cells #[z] t)).setCell ⟨w.heap.size, 0, none⟩ v).frozen? ⟨w.heap.size, 0, none⟩ = false := by
  have h := heap_alloc_new w (.cells #[z] t)
  have h0 : (w.alloc (.cells #[z] t)).cell? ⟨w.heap.size, 0, none⟩ = some z := by simp
  refine ⟨((Below.refl _ w).alloc (Nat.le_refl _) _).setCell (p := ⟨w.heap.size, 0, none⟩) (Nat.le_refl _) _, World.cell?_setCell_same _ _ _ h0, by rw [put_size]; simp, ?_⟩
  rw [World.frozen?_setCell]
  exact frozen_of_row _ _ 0 _ _ h
theorem abox (w : World) (v : Value) (t : TypeId) : Below w.heap.size w (w.alloc (.cells #[v] t)) ∧ (w.alloc (.cells #[v] t)).cell? ⟨w.heap.size, 0, none⟩ = some v ∧ (w.alloc (.cells #[v] t)).heap.size = w.heap.size + 1 ∧ (w.alloc (.cells #[v] t)).frozen? ⟨w.heap.size, 0, none⟩ = false := by
  have h := heap_alloc_new w (.cells #[v] t)
  exact ⟨(Below.refl _ w).alloc (Nat.le_refl _) _, by simp, by simp, frozen_of_row _ _ 0 _ _ h⟩
structure MetB (w : World) (base kind W : Int) (vd vf v : Value) (q : Quo) (wr : World) : Prop where
  c0 : wr.cell? ⟨w.heap.size, 0, none⟩ = some (.int .i64 base)
  c1 : wr.cell? ⟨w.heap.size, 1, none⟩ = some (.int .i64 kind)
  c2 : wr.cell? ⟨w.heap.size, 2, none⟩ = some vd
  c3 : wr.cell? ⟨w.heap.size, 3, none⟩ = some vf
  k0 : wr.cell? ⟨w.heap.size + 1, 0, none⟩ = some (.int .i64 W)
  k1 : wr.cell? ⟨w.heap.size + 1, 1, none⟩ = some v
  t0 : wr.cell? ⟨w.heap.size + 1 + 1, 0, none⟩ = some (.int .i64 q.kind)
  t1 : wr.cell? ⟨w.heap.size + 1 + 1, 1, none⟩ = some (.int .i64 q.fin)
  t2 : wr.cell? ⟨w.heap.size + 1 + 1, 2, none⟩ = some (.int .i64 q.count)
  t3 : wr.cell? ⟨w.heap.size + 1 + 1, 3, none⟩ = some (.int .i64 q.n)
  t4 : wr.cell? ⟨w.heap.size + 1 + 1, 4, none⟩ = some (.float .f32 q.rate)
  bl : Below w.heap.size w wr
  lt : w.heap.size + 1 + 1 < wr.heap.size
theorem metB_at (w : World) (base kind W : Int) (vd vf v : Value) (q : Quo) : MetB w base kind W vd vf v q (((w.alloc (.cells #[.int .i64 base, .int .i64 kind, vd, vf] 34)).alloc (.cells #[.int .i64 W, v] 24)).alloc (.cells #[.int .i64 q.kind, .int .i64 q.fin, .int .i64 q.count, .int .i64 q.n, .float .f32 q.rate] 30)) := by
  have h1 := vboxA_at w base kind vd vf
  have hz : (w.alloc (.cells #[.int .i64 base, .int .i64 kind, vd, vf] 34)).heap.size = w.heap.size + 1 := by simp
  generalize w.alloc (.cells #[.int .i64 base, .int .i64 kind, vd, vf] 34) = w1 at *
  have h2 := intB_at w1 W v q
  have h3 := h1.step h2.bl
  obtain ⟨a0, a1, a2, a3, a4, a5, a6, _, a8⟩ := h2
  rw [hz] at a0 a1 a2 a3 a4 a5 a6 a8
  exact ⟨h3.t0, h3.t1, h3.t2, h3.t3, a0, a1, a2, a3, a4, a5, a6, h3.bl, a8⟩
theorem MetB.stay {w wr w' : World} {base kind W : Int} {vd vf v : Value} {q : Quo} {B : Nat} (h : MetB w base kind W vd vf v q wr) (hb : Below B wr w') (hB : w.heap.size + 1 + 1 < B) : MetB w base kind W vd vf v q w' := by
  have g : ∀ {k j : Nat} {u : Value}, k ≤ w.heap.size + 1 + 1 → wr.cell? ⟨k, j, none⟩ = some u → w'.cell? ⟨k, j, none⟩ = some u := fun {k j u} hk hc => (hb.cell (p := ⟨k, j, none⟩) (show k < B by omega)).trans hc
  exact ⟨g (by omega) h.c0, g (by omega) h.c1, g (by omega) h.c2, g (by omega) h.c3, g (by omega) h.k0, g (by omega) h.k1, g (by omega) h.t0, g (by omega) h.t1, g (by omega) h.t2, g (by omega) h.t3, g (by omega) h.t4, h.bl.trans (hb.mono (by omega)), Nat.lt_of_lt_of_le h.lt hb.size⟩

set_option maxRecDepth 20000 in
set_option maxHeartbeats 3200000 in
theorem bMeet_cut {base kind W E : Int} {q : Quo} {L : List Int} (ok : OkQ base q) (h : CutR base q E L) (hE : E ≠ 0) (vd vf v : Value) (w : World) :
    Calls Tryz.prog 11 #[.agg #[.int .i64 base, .int .i64 kind, vd, vf], .agg #[.int .i64 W, v], .agg #[.int .i64 q.kind, .int .i64 q.fin, .int .i64 q.count, .int .i64 q.n, .float .f32 q.rate]] w fun e w' => e = .returned (.int .i64 E) ∧ Below w.heap.size w w' := by
  have H0 := hideS (metB_at w base kind W vd vf v q)
  have HC := hideS fun wx => bInts_bad (W := W) ok h hE v wx
  have d1 : (E != 0) = true := bne_iff_ne.2 hE
  clear ok h hE
  obtain ⟨qk, qf, qc, qn, qr⟩ := q
  dsimp only at *
  go_enter Tryz.func11, Tryz.ntmps11
  go_wp2_with fail
  refine (HC.out _).mono ?_
  rintro e w1 ⟨rfl, hb⟩
  have H1 := hideS (H0.out.stay hb H0.out.lt)
  clear hb
  go_wp2_with fail
  go_ret
  exact ⟨rfl, H1.out.bl.alloc H1.out.bl.size _⟩

theorem enter_met (args : Array Value) (w : World) : (callFunc 19 args).run Tryz.prog w = .ok (.enter 19 args) w := by
  simp [callFunc, Tryz.func19, Tryz.f19]
theorem gd_fac {a : Nat} {r : Int} (g : Gd a r) (h0 : 0 < r) (h1 : r < 9218868437227405312) : (a : Int) = r ∧ facB a = true := by
  have hu := g.u
  have he := g.e
  unfold U64 at hu
  unfold rankI at he
  rw [g.n, if_neg (by simp)] at he
  unfold sgB szI at he
  by_cases c : 9223372036854775808 ≤ (a : Int)
  · rw [decide_eq_true c, if_pos rfl] at he; omega
  · rw [decide_eq_false c, if_neg (by simp)] at he
    have ha : (a : Int) = r := by omega
    refine ⟨ha, ?_⟩
    unfold facB
    rw [Bool.and_eq_true]
    constructor
    · unfold finB szI; exact decide_eq_true (by omega)
    · have hn := g.n
      have h2 := g.e
      unfold ltB
      rw [h2, hn]
      simp only [Bool.not_false, Bool.and_true]
      have : rankI 0 = 0 := by decide
      rw [this, decide_eq_true h0]
      rfl
theorem met_root {base kind W E : Int} {q : Quo} {rs : List Rul} {ds : List Int} {fs : List Nat} {L : List Int} {n M X N : Nat} {bd od cd b2 o2 cf g ol cl B s : Nat} {v : Value} {X3 X5 X7 X9 X10 X11 : Nat} {w7 : World} (h : MetA base kind q.kind ds fs bd od cd b2 o2 cf g ol cl (n - M) B s 2000 v (accG ⟨0, 0⟩ (fun j => (intF W rs q L j).am) (fun j => facV base kind ds (fs ++ [4607182418800017408]) (intF W rs q L j).day) M) (fun j => intF W rs q L (M + j)) X3 X5 X7 X9 X10 X11 4607182418800017408 w7) (ok : OkQ base q) (hF : CutF base q n L) (hM : M < n) (hV : rootV (fun a => (metF base kind W rs ds fs q L n M a).bind rkO) 4472074429978902528 4652218415073722368 = (X, N, E)) (hOk : ∀ a : Nat, facB a = true → OkV base kind ds (fs ++ [a])) (hd : ds.length = fs.length + 1) (hq : ds.getD fs.length 0 = q.fin) :
    Calls Tryz.prog 18 #[.func (.func 19) #[] #[.pointer (some ⟨X10, 0, none⟩), .pointer (some ⟨X3, 0, none⟩), .pointer (some ⟨X5, 0, none⟩), .pointer (some ⟨X9, 0, none⟩), .pointer (some ⟨X7, 0, none⟩), .pointer (some ⟨X11, 0, none⟩)], .float .f64 4472074429978902528, .float .f64 4652218415073722368] w7 fun e w' => e = .returned (.tuple #[.float .f64 X, .int .i64 N, .int .i64 E]) ∧ ∃ x, x < 18446744073709551616 ∧ Below w7.heap.size (w7.setCell ⟨b2, o2 + fs.length, none⟩ (.float .f64 x)) w' := by
  have nc : w7.cell? ⟨b2, o2 + fs.length, none⟩ = some (.float .f64 4607182418800017408) := by
    have := h.tf.y.cell fs.length (by rw [len_last]; omega)
    rw [this]
    show some (Value.float .f64 ((fs ++ [4607182418800017408]).getD fs.length 0)) = _
    rw [last_at]
  have hn2 := hF.hi
  refine root_ok 19 _ (fun a => (metF base kind W rs ds fs q L n M a).bind rkO) (fun _ wr => ∃ x, x < 18446744073709551616 ∧ Below w7.heap.size (w7.setCell ⟨b2, o2 + fs.length, none⟩ (.float .f64 x)) wr) 4472074429978902528 4652218415073722368 X N 0 E w7 (by omega) enter_met (by unfold U64; omega) (by unfold U64; omega) (by decide) ?_ ⟨4607182418800017408, by decide, (below_same (p := ⟨b2, o2 + fs.length, none⟩) rfl nc _).1⟩ hV
  intro a r k wr hk hg hR hS ⟨x, hx, hb⟩
  have hA := (h.put x hx).below (by rw [put_size]; exact hb)
  have r1 : rankI ((4472074429978902528 : Nat) : Int) = 4472074429978902528 := by decide
  have r2 : rankI ((4652218415073722368 : Nat) : Int) = 4652218415073722368 := by decide
  rw [r1] at hR
  rw [r2] at hS
  obtain ⟨ha, hfa⟩ := gd_fac hg (by omega) (by omega)
  have ha2 : a < 18446744073709551616 := by omega
  have okv := hOk a hfa
  have hfu : ∀ i < (fs ++ [a]).length, (fs ++ [a]).getD i 0 < 18446744073709551616 := (hA.put a ha2).tf.f
  have hin : ∀ j < n - M, facE base kind ds (fs ++ [a]) (intF W rs q L (M + j)).day = 0 := fun j hj => by
    obtain ⟨i1, i2⟩ := hF.in_ (i := M + j + 1) (by omega)
    exact fac_in okv i1 (by rw [hd, Nat.add_sub_cancel, hq]; exact i2)
  have hfo : ∀ j < n - M, FacO base kind ds (fs ++ [a]) (intF W rs q L (M + j)).day (facV base kind ds (fs ++ [a]) (intF W rs q L (M + j)).day) 0 := fun j hj => by
    have := facV_is base kind ds (fs ++ [a]) (intF W rs q L (M + j)).day
    rw [hin j hj] at this
    exact this
  have hfu2 : ∀ j < n - M, facV base kind ds (fs ++ [a]) (intF W rs q L (M + j)).day < 18446744073709551616 ∧ (intF W rs q L (M + j)).am < 18446744073709551616 := fun j hj => ⟨(facV_pos okv hfu (hin j hj)).1, amt_lt W rs ok.fn (hF.day (M + j) (by omega)) (hF.day (M + j + 1) (by omega))⟩
  have hmf : metF base kind W rs ds fs q L n M a = worO q.kind (accG ⟨0, 0⟩ (fun j => (intF W rs q L j).am) (fun j => facV base kind ds (fs ++ [4607182418800017408]) (intF W rs q L j).day) M) (fun j => (intF W rs q L (M + j)).am) (fun j => facV base kind ds (fs ++ [a]) (intF W rs q L (M + j)).day) (n - M) (facV base kind ds (fs ++ [a]) q.fin) := rfl
  obtain ⟨m, hm⟩ : ∃ m, n - M = m + 1 := ⟨n - M - 1, by omega⟩
  rw [hm] at hA hfo hfu2 hmf
  have hlast : (intF W rs q L (M + m)).day = q.fin := by
    show L.getD (M + m + 1) 0 = q.fin
    rw [show M + m + 1 = n by omega, hF.lst]
  refine (met_call hA a ha2 (by omega) (by omega) (fun j => facV base kind ds (fs ++ [a]) (intF W rs q L (M + j)).day) (facV base kind ds (fs ++ [a]) q.fin) hfo (by rw [← hlast]; exact hfo m (by omega)) hfu2 (by rw [← hlast]; exact (hfu2 m (by omega)).1)).mono ?_
  rintro e w' ⟨y, rfl, hy, hb'⟩
  refine ⟨y, rfl, ?_, ?_, a, ha2, ?_⟩
  · have := hy.2; unfold U64; omega
  · show rkO y = (metF base kind W rs ds fs q L n M a).bind rkO
    rw [hmf]; exact agU_rk hy
  · exact (below_put (p := ⟨b2, o2 + fs.length, none⟩) rfl hb).trans (hb'.mono (by have := hb.size; rw [put_size] at this; exact this))

set_option maxRecDepth 20000 in
set_option maxHeartbeats 6400000 in
theorem bMeet_root {base kind W E : Int} {q : Quo} {rs : List Rul} {ds : List Int} {fs : List Nat} {L : List Int} {n M X N : Nat} (ok : OkQ base q) (hC : OkC W rs) (hc : CutR base q 0 L) (hF : CutF base q n L) (hM : SetM (setY base kind ds) (fun j => L.getD (j + 1) 0) n M) (hV : rootV (fun a => (metF base kind W rs ds fs q L n M a).bind rkO) 4472074429978902528 4652218415073722368 = (X, N, E)) (hd : ds.length = fs.length + 1) (hd2 : ds.length ≤ 64) (hq : ds.getD fs.length 0 = q.fin) (hOk : ∀ a : Nat, facB a = true → OkV base kind ds (fs ++ [a])) (p : Option Addr) (b off c bd od cd b2 o2 cf : Nat) (w : World) (hs : RSrc w p b off rs) (ht : TFl w (some ⟨bd, od, none⟩) (some ⟨b2, o2, none⟩) bd od b2 o2 ds (fs ++ [4607182418800017408])) (hz : w.frozen? ⟨b2, o2 + fs.length, none⟩ = false) (hne : bd ≠ b2) :
    Calls Tryz.prog 11 #[.agg #[.int .i64 base, .int .i64 kind, .slice (some ⟨bd, od, none⟩) ds.length cd, .slice (some ⟨b2, o2, none⟩) (fs.length + 1) cf], .agg #[.int .i64 W, .slice p rs.length c], .agg #[.int .i64 q.kind, .int .i64 q.fin, .int .i64 q.count, .int .i64 q.n, .float .f32 q.rate]] w fun e w' => e = .returned (.int .i64 E) ∧ Below w.heap.size (w.setCell ⟨b2, o2 + fs.length, none⟩ (.float .f64 X)) w' := by
  have H0 := hideS (metB_at w base kind W (.slice (some ⟨bd, od, none⟩) ds.length cd) (.slice (some ⟨b2, o2, none⟩) (fs.length + 1) cf) (.slice p rs.length c) q)
  have HI := hideS fun wx hb => bInts_ok ok hc hF p b off c rs wx hC (hs.below (hb : Below w.heap.size w wx))
  have HP := hideS (And.intro ok (And.intro hF (And.intro hM (And.intro hV (And.intro hOk (And.intro hd (And.intro hq hne)))))))
  have HT := hideS (And.intro ht hz)
  have hn1 := hF.lo
  have hn2 := hF.hi
  have hM1 := hM.lt
  have HD2 := hideS hd2
  clear ok hC hc hF hM hV hOk hs ht hz hq hne hd hd2
  go_enter Tryz.func11, Tryz.ntmps11
  go_wp2_with fail
  refine (HI.out _ H0.out.bl).mono ?_
  rintro e w1 ⟨g, cl, rfl, hti, hcl, hcm, hg, hb1⟩
  have H1 := hideS (H0.out.stay hb1 H0.out.lt)
  have HTI := hideS hti
  have hgl : g < w1.heap.size := hti.lt (by omega)
  have HN7 := hideS (nbox w1 (.slice none 0 0) (.slice (some ⟨g, 0, none⟩) n cl) 53)
  obtain ⟨w3, hw3⟩ : ∃ w3, (w1.alloc (.cells #[.slice none 0 0] 53)).setCell ⟨w1.heap.size, 0, none⟩ (.slice (some ⟨g, 0, none⟩) n cl) = w3 := ⟨_, rfl⟩
  rw [hw3] at HN7
  have H3 := hideS (H1.out.stay HN7.out.1 H1.out.lt)
  have l7 := HN7.out.2.1
  have c0 := H3.out.c0
  have c1 := H3.out.c1
  have c2 := H3.out.c2
  have c3 := H3.out.c3
  clear hti hb1 HI H0
  have HSt : Hid (Calls Tryz.prog 17 #[.agg #[.int .i64 base, .int .i64 kind, .slice (some ⟨bd, od, none⟩) ds.length cd, .slice (some ⟨b2, o2, none⟩) (fs.length + 1) cf], .slice (some ⟨g, 0, none⟩) n cl] w3 fun e w' => ∃ s v, e = .returned (.tuple #[.pointer (some ⟨s, 0, none⟩), .slice (some ⟨g, M * 2, none⟩) ((n - M : Nat)) (cl - M), .int .i64 0]) ∧ A.Run w3 w' s v 2000 (accG ⟨0, 0⟩ (fun j => (intF W rs q L j).am) (fun j => facV base kind ds (fs ++ [4607182418800017408]) (intF W rs q L j).day) M)) := by
    obtain ⟨ok, hF, hM, hV, hOk, hd, hq, hne⟩ := HP.out
    have okv := hOk 4607182418800017408 (by decide)
    have hx : ∀ j < M, facE base kind ds (fs ++ [4607182418800017408]) (intF W rs q L j).day = 0 := fun j hj => by
      obtain ⟨i1, i2⟩ := hF.in_ (i := j + 1) (by omega)
      exact fac_in okv i1 (by rw [hd, Nat.add_sub_cancel, hq]; exact i2)
    have := bSettle_ok base kind bd od cd b2 o2 cf g 0 cl n M ds (fs ++ [4607182418800017408]) (intF W rs q L) (fun j => facV base kind ds (fs ++ [4607182418800017408]) (intF W rs q L j).day) w3 (HT.out.1.below H3.out.bl) (HTI.out.below HN7.out.1) (by omega) hcl (by have := HD2.out; omega) hM (fun j hj => by have := facV_is base kind ds (fs ++ [4607182418800017408]) (intF W rs q L j).day; rw [hx j hj] at this; exact this) (fun j hj => ⟨(facV_pos okv HT.out.1.f (hx j hj)).1, amt_lt W rs ok.fn (hF.day j (by omega)) (hF.day (j + 1) (by omega))⟩)
    rw [len_last, Nat.zero_add] at this
    exact this
  go_wp2_with fail
  refine HSt.out.mono ?_
  rintro e w4 ⟨s, v, rfl, hr4⟩
  have HR4 := hideS hr4
  clear hr4 HSt c0 c1 c2 c3 l7 hw3
  have H4 := hideS (H3.out.stay HR4.out.bl H3.out.lt)
  have l4 : w4.cell? ⟨w1.heap.size, 0, none⟩ = some (.slice (some ⟨g, 0, none⟩) n cl) := (HR4.out.bl.cell (p := ⟨w1.heap.size, 0, none⟩) (by have := HN7.out.2.2.1; show w1.heap.size < w3.heap.size; omega)).trans HN7.out.2.1
  have hz4 : w4.frozen? ⟨w1.heap.size, 0, none⟩ = false := by
    have h1 := HN7.out.2.2.2
    have h2 := HR4.out.bl.block w1.heap.size (by have := HN7.out.2.2.1; omega)
    simp only [World.frozen?] at h1 ⊢
    rw [h2]; exact h1
  have HN9 := hideS (nbox w4 (.pointer none) (.pointer (some ⟨s, 0, none⟩)) 56)
  obtain ⟨wa, hwa⟩ : ∃ wa, (w4.alloc (.cells #[.pointer none] 56)).setCell ⟨w4.heap.size, 0, none⟩ (.pointer (some ⟨s, 0, none⟩)) = wa := ⟨_, rfl⟩
  rw [hwa] at HN9
  have la : wa.cell? ⟨w1.heap.size, 0, none⟩ = some (.slice (some ⟨g, 0, none⟩) n cl) := (HN9.out.1.cell (p := ⟨w1.heap.size, 0, none⟩) (cell_lt l4)).trans l4
  have za : wa.frozen? ⟨w1.heap.size, 0, none⟩ = false := by
    have h2 := HN9.out.1.block w1.heap.size (cell_lt l4)
    simp only [World.frozen?] at hz4 ⊢
    rw [h2]; exact hz4
  obtain ⟨w5, hw5⟩ : ∃ w5, wa.setCell ⟨w1.heap.size, 0, none⟩ (.slice (some ⟨g, M * 2, none⟩) ((n - M : Nat)) (cl - M)) = w5 := ⟨_, rfl⟩
  have HBa : Hid (Below w1.heap.size wa w5) := by show Below _ _ _; rw [← hw5]; exact (Below.refl _ _).setCell (p := ⟨w1.heap.size, 0, none⟩) (Nat.le_refl _) _
  have H5 := hideS ((H4.out.stay HN9.out.1 H4.out.lt).stay HBa.out H1.out.lt)
  have HB15 : Hid (Below w1.heap.size w1 w5) := (HN7.out.1.trans ((HR4.out.bl.mono (HN7.out.1.size)).trans ((HN9.out.1.mono (Nat.le_trans HN7.out.1.size HR4.out.bl.size)).trans HBa.out)))
  have l5 : w5.cell? ⟨w1.heap.size, 0, none⟩ = some (.slice (some ⟨g, M * 2, none⟩) ((n - M : Nat)) (cl - M)) := by rw [← hw5]; exact World.cell?_setCell_same _ _ _ la
  have hx14 : w1.heap.size ≠ w4.heap.size := by have := cell_lt l4; omega
  have s5 : w5.cell? ⟨w4.heap.size, 0, none⟩ = some (.pointer (some ⟨s, 0, none⟩)) := by
    rw [← hw5, World.cell?_setCell_far wa ⟨w1.heap.size, 0, none⟩ ⟨w4.heap.size, 0, none⟩ _ hx14]
    exact HN9.out.2.1
  have HA5 : Hid (A.AccAt w5 w3.heap.size s v 2000 (accG ⟨0, 0⟩ (fun j => (intF W rs q L j).am) (fun j => facV base kind ds (fs ++ [4607182418800017408]) (intF W rs q L j).day) M)) := by
    show A.AccAt _ _ _ _ _ _
    rw [← hw5]
    exact (HR4.out.acc.below HN9.out.1).wrote (wrote_put wa _ _) (fun k hk c => by
      have h1 := (HR4.out.acc.base k hk).1
      have h2 := HN7.out.2.2.1
      have h3 : k = w1.heap.size := c
      omega)
  have c3 := H5.out.c3
  have hwr : wrap64 (fs.length : Int) = (fs.length : Int) := by
    have h1 := HD2.out
    have h2 := HP.out.2.2.2.2.2.1
    clear hcm
    unfold wrap64
    omega
  have hm2 : fs.length < fs.length + 1 := Nat.lt_succ_self _
  have hm3 : (0 : Int) ≤ (fs.length : Int) := Int.natCast_nonneg _
  have hm4 : (fs.length : Int) < (fs.length : Int) + 1 := Int.lt_succ _
  go_wp2_with fail
  clear hwr hm2 hm3 hm4 c3 hw5 hwa
  have HN10 := hideS (abox w5 (.pointer (some ⟨b2, o2 + fs.length, none⟩)) 59)
  obtain ⟨w6, hw6⟩ : ∃ w6, w5.alloc (.cells #[.pointer (some ⟨b2, o2 + fs.length, none⟩)] 59) = w6 := ⟨_, rfl⟩
  rw [hw6] at HN10 ⊢
  have HN11 := hideS (abox w6 (.int .i64 0) 35)
  obtain ⟨w7, hw7⟩ : ∃ w7, w6.alloc (.cells #[.int .i64 0] 35) = w7 := ⟨_, rfl⟩
  rw [hw7] at HN11 ⊢
  have hsz6 : w6.heap.size = w5.heap.size + 1 := HN10.out.2.2.1
  rw [hsz6] at HN11
  have HB57 : Hid (Below w5.heap.size w5 w7) := HN10.out.1.trans ((show Below (w5.heap.size + 1) w6 w7 from HN11.out.1).mono (Nat.le_succ _))
  have H7 := hideS (H5.out.stay HB57.out H5.out.lt)
  have HMA : Hid (MetA base kind q.kind ds fs bd od cd b2 o2 cf g (M * 2) (cl - M) (n - M) w3.heap.size s 2000 v (accG ⟨0, 0⟩ (fun j => (intF W rs q L j).am) (fun j => facV base kind ds (fs ++ [4607182418800017408]) (intF W rs q L j).day) M) (fun j => intF W rs q L (M + j)) w.heap.size (w.heap.size + 1 + 1) w1.heap.size w4.heap.size w5.heap.size (w5.heap.size + 1) 4607182418800017408 w7) := by
    have g5 : ∀ {k j : Nat} {u : Value}, w5.cell? ⟨k, j, none⟩ = some u → w7.cell? ⟨k, j, none⟩ = some u := fun {k j u} hc => (HB57.out.cell (p := ⟨k, j, none⟩) (cell_lt hc)).trans hc
    have hlt2 : b2 < w.heap.size := HT.out.1.y.lt (by rw [len_last]; omega)
    have nz : w7.frozen? ⟨b2, o2 + fs.length, none⟩ = false := by
      have h2 := H7.out.bl.block b2 hlt2
      have h3 := HT.out.2
      simp only [World.frozen?] at h3 ⊢
      rw [h2]; exact h3
    have hti := (HTI.out.below HB15.out).below HB57.out
    have htl := hti.tail (M := M) (by omega)
    rw [Nat.zero_add] at htl
    refine ⟨(((show Below (w5.heap.size + 1) w6 w7 from HN11.out.1).cell (p := ⟨w5.heap.size, 0, none⟩) (Nat.lt_succ_self _)).trans HN10.out.2.1), H7.out.c0, H7.out.c1, H7.out.c2, H7.out.c3, H7.out.t0, g5 s5, g5 l5, HN11.out.2.1, HN11.out.2.2.2, nz, HT.out.1.below H7.out.bl, htl, HA5.out.below HB57.out, ?_, fun k hk => ?_⟩
    · have h1 := HR4.out.bl.size
      have h2 := HN9.out.1.size
      have h3 := HBa.out.size
      have h4 := HB57.out.size
      omega
    · have h1 := H1.out.bl.size
      have h2 := HN7.out.2.2.1
      have h3 := HR4.out.bl.size
      have h4 := HN9.out.1.size
      have h5 := HBa.out.size
      rcases hk with hk | hk | hk | hk | hk | hk | hk | hk | hk
      · omega
      · omega
      · omega
      · omega
      · omega
      · omega
      · rw [hk]; exact HP.out.2.2.2.2.2.2.2
      · have := hg; simp at this; omega
      · have := (HR4.out.acc.base k hk).1; omega
  have HRt := hideS (met_root HMA.out HP.out.1 HP.out.2.1 hM1 HP.out.2.2.2.1 HP.out.2.2.2.2.1 HP.out.2.2.2.2.2.1 HP.out.2.2.2.2.2.2.1)
  refine HRt.out.mono ?_
  rintro e w8 ⟨rfl, x, hx, hb8⟩
  have hA8 := (HMA.out.put x hx).below (by rw [put_size]; exact hb8)
  have e8 := hA8.e0
  have n8 := hA8.n0
  have z8 := hA8.nz
  have y8 : w8.cell? ⟨b2, o2 + fs.length, none⟩ = some (.float .f64 x) := by
    have := hA8.tf.y.cell fs.length (by rw [len_last]; omega)
    rw [this]
    show some (Value.float .f64 ((fs ++ [x]).getD fs.length 0)) = _
    rw [last_at]
  have HW8 : Hid (Below w.heap.size (w.setCell ⟨b2, o2 + fs.length, none⟩ (.float .f64 X)) (w8.setCell ⟨b2, o2 + fs.length, none⟩ (.float .f64 X))) := by
    have nc : w.cell? ⟨b2, o2 + fs.length, none⟩ = some (.float .f64 4607182418800017408) := by
      have := HT.out.1.y.cell fs.length (by rw [len_last]; omega)
      rw [this]
      show some (Value.float .f64 ((fs ++ [4607182418800017408]).getD fs.length 0)) = _
      rw [last_at]
    have h1 : Below w.heap.size (w.setCell ⟨b2, o2 + fs.length, none⟩ (.float .f64 4607182418800017408)) w7 := (below_same (p := ⟨b2, o2 + fs.length, none⟩) rfl nc _).1.trans H7.out.bl
    have h2 := below_put (p := ⟨b2, o2 + fs.length, none⟩) (y := .float .f64 x) rfl h1
    have h3 := h2.trans (hb8.mono H7.out.bl.size)
    exact below_put (p := ⟨b2, o2 + fs.length, none⟩) rfl h3
  have hst := store_flt
  clear hA8 hb8 HRt HMA
  go_wp2_with fail
  go_ret
  exact ⟨rfl, HW8.out⟩
end Go.Proofs.YtphnainibdepbaaGreat
namespace Go.Proofs.YtphnainibdepbaaGreat
open Go.RowKit

theorem own_inB {t : TypeId} {w : World} {b n : Nat} {v : Value} {xs : List Value} (h : w.ownsRow b t 1 v n xs) {g : Nat} (e : v.ownBlock = some g) : g < w.heap.size := by
  rcases h.2 with ⟨rfl, _⟩ | ⟨k, cap, cur, rfl, hk, hgg, _⟩
  · cases e
  · have e1 : k = g := by simpa [Value.ownBlock] using e
    subst e1
    exact (Array.getElem?_eq_some_iff.1 hgg).1
theorem grown_cellB {w w' : World} {r : Option Nat} (h : w.grownBy w' r) {g i : Nat} (hg : g < w.heap.size) (hr : ∀ k, r = some k → k ≠ g) : w'.cell? ⟨g, i, none⟩ = w.cell? ⟨g, i, none⟩ := World.cell?_of_block (h.block g hg (fun e => hr g e.symm rfl))
structure BdB (w : World) (W : Int) (v : Value) (wr : World) : Prop where
  k0 : wr.cell? ⟨w.heap.size, 0, none⟩ = some (.int .i64 W)
  k1 : wr.cell? ⟨w.heap.size, 1, none⟩ = some v
  d0 : wr.cell? ⟨w.heap.size + 1, 0, none⟩ = some (.int .i64 0)
  d1 : wr.cell? ⟨w.heap.size + 1, 1, none⟩ = some (.int .i64 0)
  d2 : wr.cell? ⟨w.heap.size + 1, 2, none⟩ = some (.slice none 0 0)
  d3 : wr.cell? ⟨w.heap.size + 1, 3, none⟩ = some (.slice none 0 0)
  fz : ∀ i, wr.frozen? ⟨w.heap.size + 1, i, none⟩ = false
  bl : Below w.heap.size w wr
  sz : w.heap.size + 2 ≤ wr.heap.size
theorem BdB.stay {w wr w' : World} {W : Int} {v : Value} (h : BdB w W v wr) (hb : Below (w.heap.size + 2) wr w') : BdB w W v w' := by
  have c : ∀ k < 2, ∀ j, w'.cell? ⟨w.heap.size + k, j, none⟩ = wr.cell? ⟨w.heap.size + k, j, none⟩ := fun k hk j => hb.cell (p := ⟨w.heap.size + k, j, none⟩) (by show w.heap.size + k < _; omega)
  have g : ∀ k < 2, ∀ j, w'.frozen? ⟨w.heap.size + k, j, none⟩ = wr.frozen? ⟨w.heap.size + k, j, none⟩ := fun k hk j => hb.frozen (p := ⟨w.heap.size + k, j, none⟩) (by show w.heap.size + k < _; omega)
  exact ⟨(c 0 (by omega) 0).trans h.k0, (c 0 (by omega) 1).trans h.k1, (c 1 (by omega) 0).trans h.d0, (c 1 (by omega) 1).trans h.d1, (c 1 (by omega) 2).trans h.d2, (c 1 (by omega) 3).trans h.d3, fun i => (g 1 (by omega) i).trans (h.fz i), h.bl.trans (hb.mono (by omega)), Nat.le_trans h.sz hb.size⟩
theorem bdB_at (w : World) (W : Int) (v : Value) : BdB w W v ((w.alloc (.cells #[.int .i64 W, v] 24)).alloc (.cells #[.int .i64 0, .int .i64 0, .slice none 0 0, .slice none 0 0] 34)) := by
  have hA : ∀ (w : World) o, Below w.heap.size w (w.alloc o) := fun w o => (Below.refl _ _).alloc (Nat.le_refl _) _
  generalize hw1 : w.alloc (.cells #[.int .i64 W, v] 24) = w1
  have z1 : w1.heap.size = w.heap.size + 1 := by rw [← hw1]; simp
  have c1 : ∀ j, w1.cell? ⟨w.heap.size, j, none⟩ = (#[.int .i64 W, v] : Array Value)[j]? := fun j => by rw [← hw1]; exact newC0 w _ _ j
  have c2 : ∀ j, (w1.alloc (.cells #[.int .i64 0, .int .i64 0, .slice none 0 0, .slice none 0 0] 34)).cell? ⟨w.heap.size + 1, j, none⟩ = (#[.int .i64 0, .int .i64 0, .slice none 0 0, .slice none 0 0] : Array Value)[j]? := fun j => by rw [← z1]; exact newC0 w1 _ _ j
  have k2 : ∀ j o, (w1.alloc o).cell? ⟨w.heap.size, j, none⟩ = w1.cell? ⟨w.heap.size, j, none⟩ := fun j o => (hA w1 _).cell (p := ⟨w.heap.size, j, none⟩) (by show w.heap.size < w1.heap.size; omega)
  have g2 : ∀ j o t, (w1.alloc (.cells o t)).frozen? ⟨w.heap.size + 1, j, none⟩ = false := fun j o t => by rw [← z1]; exact World.frozen?_alloc_new _ _ _ _
  have b1 : Below w.heap.size w w1 := by rw [← hw1]; exact hA w _
  exact ⟨(k2 0 _).trans (c1 0), (k2 1 _).trans (c1 1), c2 0, c2 1, c2 2, c2 3, fun i => g2 i _ _, b1.alloc b1.size _, by simp; omega⟩
structure BdL (w : World) (B : Nat) (base kind W : Int) (v vX vY : Value) (wr : World) : Prop where
  b : BdB w W v wr
  s0 : wr.cell? ⟨B, 0, none⟩ = some (.int .i64 base)
  s1 : wr.cell? ⟨B, 1, none⟩ = some (.int .i64 kind)
  s2 : wr.cell? ⟨B, 2, none⟩ = some vX
  s3 : wr.cell? ⟨B, 3, none⟩ = some vY
  fz : ∀ i, wr.frozen? ⟨B, i, none⟩ = false
  lo : w.heap.size + 2 ≤ B
  sz : B + 1 ≤ wr.heap.size
theorem BdL.stay {w wr w' : World} {B : Nat} {base kind W : Int} {v vX vY : Value} (h : BdL w B base kind W v vX vY wr) (hb : Below (B + 1) wr w') : BdL w B base kind W v vX vY w' := by
  have c : ∀ j, w'.cell? ⟨B, j, none⟩ = wr.cell? ⟨B, j, none⟩ := fun j => hb.cell (p := ⟨B, j, none⟩) (by show B < _; omega)
  have g : ∀ j, w'.frozen? ⟨B, j, none⟩ = wr.frozen? ⟨B, j, none⟩ := fun j => hb.frozen (p := ⟨B, j, none⟩) (by show B < _; omega)
  exact ⟨h.b.stay (hb.mono (by have := h.lo; omega)), (c 0).trans h.s0, (c 1).trans h.s1, (c 2).trans h.s2, (c 3).trans h.s3, fun i => (g i).trans (h.fz i), h.lo, Nat.le_trans h.sz hb.size⟩
theorem BdL.put {w wr : World} {B : Nat} {base kind W : Int} {v vX vY : Value} (h : BdL w B base kind W v vX vY wr) (x y : Value) : BdL w B base kind W v x y ((wr.setCell ⟨B, 2, none⟩ x).setCell ⟨B, 3, none⟩ y) := by
  have hb : Below B wr ((wr.setCell ⟨B, 2, none⟩ x).setCell ⟨B, 3, none⟩ y) := ((Below.refl _ wr).setCell (p := ⟨B, 2, none⟩) (Nat.le_refl _) x).setCell (p := ⟨B, 3, none⟩) (Nat.le_refl _) y
  refine ⟨h.b.stay (hb.mono h.lo), ?_, ?_, ?_, ?_, fun i => ?_, h.lo, by simpa using h.sz⟩
  · simp [h.s0, go_sem]
  · simp [h.s1, go_sem]
  · simp [h.s2, go_sem]
  · simp [h.s3, go_sem]
  · simp [h.fz]
theorem bdL_at {w w2 : World} {base kind W : Int} {v : Value} (h : BdB w W v w2) : BdL w w2.heap.size base kind W v (.slice none 0 0) (.slice none 0 0) (w2.alloc (.cells #[.int .i64 base, .int .i64 kind, .slice none 0 0, .slice none 0 0] 34)) :=
  ⟨h.stay ((Below.refl _ _).alloc h.sz _), newC0 w2 _ _ 0, newC0 w2 _ _ 1, newC0 w2 _ _ 2, newC0 w2 _ _ 3, fun i => World.frozen?_alloc_new _ _ _ _, h.sz, by simp⟩
structure Q5 (Q : Nat) (q : Quo) (w : World) : Prop where
  t0 : w.cell? ⟨Q, 0, none⟩ = some (.int .i64 q.kind)
  t1 : w.cell? ⟨Q, 1, none⟩ = some (.int .i64 q.fin)
  t2 : w.cell? ⟨Q, 2, none⟩ = some (.int .i64 q.count)
  t3 : w.cell? ⟨Q, 3, none⟩ = some (.int .i64 q.n)
  t4 : w.cell? ⟨Q, 4, none⟩ = some (.float .f32 q.rate)
theorem Q5.via {Q : Nat} {q : Quo} {w w' : World} (h : Q5 Q q w) (hc : ∀ j, w'.cell? ⟨Q, j, none⟩ = w.cell? ⟨Q, j, none⟩) : Q5 Q q w' := ⟨(hc 0).trans h.t0, (hc 1).trans h.t1, (hc 2).trans h.t2, (hc 3).trans h.t3, (hc 4).trans h.t4⟩
theorem Q5.below {Q : Nat} {q : Quo} {w w' : World} (h : Q5 Q q w) (hb : Below w.heap.size w w') : Q5 Q q w' := h.via (fun j => hb.cell (p := ⟨Q, j, none⟩) (cell_lt h.t0))
theorem Q5.grown {Q : Nat} {q : Quo} {w w' : World} {r : Option Nat} (h : Q5 Q q w) (hg : w.grownBy w' r) (hr : ∀ k, r = some k → k ≠ Q) : Q5 Q q w' := h.via (fun _ => grown_cellB hg (cell_lt h.t0) hr)
theorem Q5.put {Q : Nat} {q : Quo} {w : World} (h : Q5 Q q w) {a : Addr} (v : Value) (ha : a.block ≠ Q) : Q5 Q q (w.setCell a v) := h.via (fun j => World.cell?_setCell_far w a ⟨Q, j, none⟩ v ha)
structure BdW (w : World) (B : Nat) (base kind W : Int) (v : Value) (ds : List Int) (i : Nat) (vX vY : Value) (fs : List Nat) (wr : World) : Prop where
  l : BdL w B base kind W v vX vY wr
  x : wr.ownsRow (B + 1) 3 1 vX i (ds.map kV)
  y : wr.ownsRow (B + 1) 42 1 vY i (fs.map fV)
  dn : ds.length = i
  fn : fs.length = i
theorem BdW.below {w : World} {B : Nat} {base kind W : Int} {v : Value} {ds : List Int} {i : Nat} {vX vY : Value} {fs : List Nat} {wr w' : World} (h : BdW w B base kind W v ds i vX vY fs wr) (hb : Below wr.heap.size wr w') : BdW w B base kind W v ds i vX vY fs w' :=
  ⟨h.l.stay (hb.mono h.l.sz), kown_below h.x hb, kown_below h.y hb, h.dn, h.fn⟩
structure BdT (w : World) (B : Nat) (base kind W : Int) (v vX vY : Value) (i : Nat) (xs : List Int) (fs : List Nat) (Q : Nat) (q : Quo) (v3 : Value) (w3 : World) : Prop where
  l : BdL w B base kind W v vX vY w3
  x : w3.ownsRow (B + 1) 3 1 v3 (i + 1) (xs.map kV)
  y : w3.ownsRow (B + 1) 42 1 vY i (fs.map fV)
  q5 : Q5 Q q w3
theorem BdT.below {w : World} {B : Nat} {base kind W : Int} {v vX vY : Value} {i : Nat} {xs : List Int} {fs : List Nat} {Q : Nat} {q : Quo} {v3 : Value} {w3 w4 : World} (h : BdT w B base kind W v vX vY i xs fs Q q v3 w3) (hb : Below w3.heap.size w3 w4) : BdT w B base kind W v vX vY i xs fs Q q v3 w4 :=
  ⟨h.l.stay (hb.mono h.l.sz), kown_below h.x hb, kown_below h.y hb, h.q5.below hb⟩
theorem bdT_of {w : World} {B : Nat} {base kind W : Int} {v vX vY : Value} {i : Nat} {xs : List Int} {fs : List Nat} {Q : Nat} {q : Quo} {D : Int} {v3 : Value} {w1 w3 : World} (hl : BdL w B base kind W v vX vY w1) (hx : w1.ownsRow (B + 1) 3 1 vX i (xs.map kV)) (hy : w1.ownsRow (B + 1) 42 1 vY i (fs.map fV)) (hq : Q5 Q q w1) (hQ : ∀ g, vX.ownBlock = some g → g ≠ Q) (h3 : w3.ownsRow (B + 1) 3 1 v3 (i + 1) ((xs ++ [D]).map kV)) (hg : w1.grownBy w3 vX.ownBlock) : BdT w B base kind W v vX vY i (xs ++ [D]) fs Q q v3 w3 :=
  ⟨hl.stay (kgrown_below hx hg hl.sz), h3, own_far hy hg (fun g e c => own_apart hy hx (by decide) g e c), hq.grown hg hQ⟩
theorem bdW_of {w : World} {B : Nat} {base kind W : Int} {v vX vY : Value} {i : Nat} {xs : List Int} {fs : List Nat} {Q : Nat} {q : Quo} {X : Nat} {v3 v5 : Value} {w4 w5 : World} (h : BdT w B base kind W v vX vY i xs fs Q q v3 w4) (hB : B ≠ Q) (hxn : xs.length = i + 1) (hn : fs.length = i) (hQ : ∀ g, vY.ownBlock = some g → g ≠ Q) (h5 : w5.ownsRow (B + 1) 42 1 v5 (i + 1) ((fs ++ [X]).map fV)) (hw : w4.grownBy w5 vY.ownBlock) :
    BdL w B base kind W v vX vY w5 ∧ Q5 Q q w5 ∧ BdW w B base kind W v xs (i + 1) v3 v5 (fs ++ [X]) ((w5.setCell ⟨B, 2, none⟩ v3).setCell ⟨B, 3, none⟩ v5) ∧ Q5 Q q ((w5.setCell ⟨B, 2, none⟩ v3).setCell ⟨B, 3, none⟩ v5) := by
  have l5 := h.l.stay (kgrown_below h.y hw h.l.sz)
  have x5 := own_far h.x hw (fun g e c => own_apart h.x h.y (by decide) g e c)
  have q5 := h.q5.grown hw hQ
  exact ⟨l5, q5, ⟨l5.put v3 v5, kown_put (kown_put x5 (Nat.lt_succ_self B) _) (Nat.lt_succ_self B) _, kown_put (kown_put h5 (Nat.lt_succ_self B) _) (Nat.lt_succ_self B) _, hxn, by simp [hn]⟩, (q5.put _ hB).put _ hB⟩
theorem bdW_met {w : World} {B : Nat} {base kind W : Int} {v : Value} {ds : List Int} {i : Nat} {vX : Value} {g c : Nat} {fs : List Nat} {Y X : Nat} {w6 w7 : World} (h : BdW w B base kind W v ds (i + 1) vX (.slice (some ⟨g, 0, none⟩) (i + 1) c) (fs ++ [Y]) w6) (hb : Below w6.heap.size (w6.setCell ⟨g, 0 + fs.length, none⟩ (.float .f64 X)) w7) : BdW w B base kind W v ds (i + 1) vX (.slice (some ⟨g, 0, none⟩) (i + 1) c) (fs ++ [X]) w7 := by
  rw [Nat.zero_add] at hb
  have hg : B + 1 ≤ g := by
    rcases h.y.2 with ⟨c, _⟩ | ⟨k, cap, cur, e, hk, _⟩
    · cases c
    · injection e with e _ _
      injection e with e
      injection e with e _ _
      omega
  have hgl : g < w6.heap.size := own_inB h.y (g := g) rfl
  have h1 := World.ownsRow.stored h.y fs.length (.float .f64 X)
  have hsz := put_size w6 ⟨g, fs.length, none⟩ (.float .f64 X)
  have hb' : Below (w6.setCell ⟨g, fs.length, none⟩ (.float .f64 X)).heap.size (w6.setCell ⟨g, fs.length, none⟩ (.float .f64 X)) w7 := by rw [hsz]; exact hb
  have hx : (w6.setCell ⟨g, fs.length, none⟩ (.float .f64 X)).ownsRow (B + 1) 3 1 vX (i + 1) (ds.map kV) := ownsRow_setCell_other h.x (fun c => own_apart h.x h.y (by decide) g c rfl) _
  have hl : BdL w B base kind W v vX (.slice (some ⟨g, 0, none⟩) (i + 1) c) (w6.setCell ⟨g, fs.length, none⟩ (.float .f64 X)) := h.l.stay ((Below.refl _ _).setCell (p := ⟨g, fs.length, none⟩) hg _)
  have e : ((fs ++ [Y]).map fV).set fs.length (.float .f64 X) = (fs ++ [X]).map fV := by
    rw [List.map_append, List.map_append, List.set_append_right _ _ (by simp)]
    simp [fV]
  rw [e] at h1
  exact ⟨hl.stay (hb.mono h.l.sz), kown_below hx hb', kown_below h1.1 hb', h.dn, by have := h.fn; rw [len_last] at this ⊢; exact this⟩
end Go.Proofs.YtphnainibdepbaaGreat
namespace Go.Proofs.YtphnainibdepbaaGreat
open Go.RowKit

theorem fit_up {q : Quo} {last : Int} (h : fitQ q last = 0) : last < q.fin ∧ q.fin ≤ 109572 := by
  unfold fitQ at h
  split at h
  · omega
  split at h
  · omega
  split at h
  · omega
  · omega
theorem prv_ge {base : Int} {qs : List Quo} {N : Nat} (h : ∀ i < N, fitQ (qs.getD i quo0) (prvQ base qs i) = 0) : ∀ k ≤ N, base ≤ prvQ base qs k
  | 0, _ => Int.le_refl _
  | k + 1, hk => by
    have h1 := prv_ge h k (by omega)
    have h2 := (fit_up (h k (by omega))).1
    show base ≤ (qs.getD k quo0).fin
    omega
theorem prv_end (base : Int) (qs : List Quo) {K : Nat} : ∀ i ≤ K, prvC base (endL qs K) i = prvQ base qs i
  | 0, _ => rfl
  | i + 1, h => endL_at qs (by omega)
theorem okQ_bld {base : Int} {qs : List Quo} {N k : Nat} (b0 : 0 ≤ base) (h : ∀ i < N, fitQ (qs.getD i quo0) (prvQ base qs i) = 0) (hk : k < N) : OkQ base (qs.getD k quo0) := fitQ_ok (h k hk) b0 (prv_ge h k (by omega))
theorem okV_bld {base kind : Int} {qs : List Quo} {N k : Nat} {fs : List Nat} {a : Nat} (b0 : 0 ≤ base) (b1 : base ≤ 109572) (k1 : 1 ≤ kind) (k4 : kind ≤ 4) (hN : N ≤ 64) (h : ∀ i < N, fitQ (qs.getD i quo0) (prvQ base qs i) = 0) (hk : k < N) (hl : fs.length = k) (hf : ∀ i < k, facB (fs.getD i 0) = true) (ha : facB a = true) : OkV base kind (endL qs (k + 1)) (fs ++ [a]) := by
  refine ⟨b0, b1, k1, k4, by rw [endL_len]; omega, by rw [endL_len]; omega, by rw [endL_len, len_last, hl], fun i hi => ?_⟩
  rw [endL_len] at hi
  obtain ⟨u1, u2⟩ := fit_up (h i (by omega))
  have hfi : facB ((fs ++ [a]).getD i 0) = true := by
    by_cases c : i < k
    · rw [last_lt fs a (by omega)]; exact hf i c
    · obtain rfl : i = fs.length := by omega
      rw [last_at]; exact ha
  unfold facB at hfi
  rw [Bool.and_eq_true] at hfi
  unfold nodC
  rw [prv_end base qs i (by omega), endL_at qs hi, decide_eq_false (by omega), decide_eq_false (by omega), hfi.1, hfi.2]
  rfl
theorem set_lt {base kind : Int} {qs : List Quo} {k : Nat} {fs : List Nat} {a : Nat} (ok : OkV base kind (endL qs (k + 1)) (fs ++ [a])) : setY base kind (endL qs (k + 1)) < (qs.getD k quo0).fin := by
  rw [setY_node base kind _ (endL_len qs (k + 1))]
  have ht : setT kind k ≤ k := by unfold setT; split <;> omega
  have := ok.table.rise (i := setT kind k) (j := k + 1) (by omega) (by rw [ctX_len, endL_len]; omega)
  rw [ctX_at, ctX_at] at this
  have e : prvC base (endL qs (k + 1)) (k + 1) = (qs.getD k quo0).fin := endL_at qs (by omega)
  rw [e] at this
  exact this
theorem root_in {F : Nat → Option Int} {X N : Nat} (h : rootV F 4472074429978902528 4652218415073722368 = (X, N, 0)) : ∃ x : Int, Gd X x ∧ 4472074429978902528 ≤ x ∧ x ≤ 4652218415073722368 := by
  have r1 : rankI ((4472074429978902528 : Nat) : Int) = 4472074429978902528 := by decide
  have r2 : rankI ((4652218415073722368 : Nat) : Int) = 4652218415073722368 := by decide
  have gl : Gd 4472074429978902528 4472074429978902528 := ⟨by unfold U64; omega, by decide, r1⟩
  have gh : Gd 4652218415073722368 4652218415073722368 := ⟨by unfold U64; omega, by decide, r2⟩
  cases ha : F 4472074429978902528 with
  | none => rw [rootV_n ha] at h; injection h with _ h; injection h with _ h; cases h
  | some a =>
    cases hb : F 4652218415073722368 with
    | none => rw [rootV_n2 ha hb] at h; injection h with _ h; injection h with _ h; cases h
    | some b =>
      rw [rootV_two ha hb] at h
      by_cases a0 : a = 0
      · rw [if_pos a0] at h; injection h with h _; subst h; exact ⟨_, gl, by omega, by omega⟩
      rw [if_neg a0] at h
      by_cases c0 : b = 0
      · rw [if_pos c0] at h; injection h with h _; subst h; exact ⟨_, gh, by omega, by omega⟩
      rw [if_neg c0] at h
      by_cases hu : upB a = upB b
      · rw [if_pos hu] at h; injection h with _ h; injection h with _ h; cases h
      · rw [if_neg hu] at h
        injection h with e1 e2
        injection e2 with e2 e3
        have hz := bis_finds F (upB a) 64 4472074429978902528 4652218415073722368 _ _ gl gh (by omega) (by decide) ⟨a, ha, a0, rfl⟩ ⟨b, hb, c0, fun c => hu c.symm⟩
        rw [e1, e3] at hz
        rcases hz.2 with ⟨z1, _⟩ | ⟨_, x, gx, x1, x2, _⟩
        · cases z1
        · exact ⟨x, gx, x1, x2⟩
theorem met_fac {base kind W : Int} {rs : List Rul} {ds : List Int} {fs : List Nat} {q : Quo} {X : Nat} (h : MetR base kind W rs ds fs q 0 X) : facB X = true ∧ X < 18446744073709551616 := by
  generalize hz : (0 : Int) = z at h
  cases h with
  | cut E L h hE => exact absurd hz.symm hE
  | root L n M X N E hc hF hM hV =>
    subst hz
    obtain ⟨x, g, h1, h2⟩ := root_in hV
    obtain ⟨e, hf⟩ := gd_fac g (by omega) (by omega)
    exact ⟨hf, by omega⟩
theorem bld_inv {base kind W : Int} {rs : List Rul} {qs : List Quo} {N : Nat} (b0 : 0 ≤ base) (b1 : base ≤ 109572) (k1 : 1 ≤ kind) (k4 : kind ≤ 4) (hN : N ≤ 64) (h : ∀ i < N, fitQ (qs.getD i quo0) (prvQ base qs i) = 0) : ∀ k ≤ N, (bldV base kind W rs qs k).2.1 = 0 → (bldV base kind W rs qs k).1.length = k ∧ ∀ i < k, facB ((bldV base kind W rs qs k).1.getD i 0) = true ∧ (bldV base kind W rs qs k).1.getD i 0 < 18446744073709551616
  | 0, _, _ => ⟨rfl, fun i hi => by omega⟩
  | k + 1, hk, hE => by
    have ih := bld_inv (rs := rs) (W := W) b0 b1 k1 k4 hN h k (by omega)
    have e : bldV base kind W rs qs (k + 1) = if (bldV base kind W rs qs k).2.1 ≠ 0 then bldV base kind W rs qs k else
      if (metV base kind W rs (endL qs (k + 1)) (bldV base kind W rs qs k).1 (qs.getD k quo0)).1 ≠ 0 then ([], (metV base kind W rs (endL qs (k + 1)) (bldV base kind W rs qs k).1 (qs.getD k quo0)).1, k)
      else ((bldV base kind W rs qs k).1 ++ [(metV base kind W rs (endL qs (k + 1)) (bldV base kind W rs qs k).1 (qs.getD k quo0)).2], 0, 0) := rfl
    rw [e] at hE ⊢
    by_cases c : (bldV base kind W rs qs k).2.1 = 0
    · rw [if_neg (fun z => z c)] at hE ⊢
      obtain ⟨i1, i2⟩ := ih c
      by_cases d : (metV base kind W rs (endL qs (k + 1)) (bldV base kind W rs qs k).1 (qs.getD k quo0)).1 = 0
      · rw [if_neg (fun z => z d)] at hE ⊢
        have okv := okV_bld (a := 4607182418800017408) b0 b1 k1 k4 hN h (show k < N by omega) i1 (fun i hi => (i2 i hi).1) (by decide)
        have hm := metV_is (W := W) (rs := rs) (fs := (bldV base kind W rs qs k).1) (okQ_bld b0 h (show k < N by omega)) (set_lt okv)
        rw [d] at hm
        have hx := met_fac hm
        refine ⟨by dsimp only; rw [len_last, i1], fun i hi => ?_⟩
        dsimp only
        by_cases c2 : i < k
        · rw [last_lt _ _ (by omega)]; exact i2 i c2
        · obtain rfl : i = (bldV base kind W rs qs k).1.length := by omega
          rw [last_at]; exact hx
      · rw [if_pos d] at hE
        exact absurd hE d
    · rw [if_pos c] at hE
      exact absurd hE c
theorem bld_err {base kind W : Int} {rs : List Rul} {qs : List Quo} {k : Nat} (h : (bldV base kind W rs qs k).2.1 ≠ 0) : ∀ d, bldV base kind W rs qs (k + d) = bldV base kind W rs qs k
  | 0 => rfl
  | d + 1 => by
    have ih := bld_err h d
    show (if (bldV base kind W rs qs (k + d)).2.1 ≠ 0 then bldV base kind W rs qs (k + d) else _) = _
    rw [ih, if_pos h]
theorem bld_bad {base kind W : Int} {rs : List Rul} {qs : List Quo} {k : Nat} (h : (bldV base kind W rs qs k).2.1 = 0) (hm : (metV base kind W rs (endL qs (k + 1)) (bldV base kind W rs qs k).1 (qs.getD k quo0)).1 ≠ 0) : bldV base kind W rs qs (k + 1) = ([], (metV base kind W rs (endL qs (k + 1)) (bldV base kind W rs qs k).1 (qs.getD k quo0)).1, k) := by
  show (if (bldV base kind W rs qs k).2.1 ≠ 0 then bldV base kind W rs qs k else _) = _
  rw [if_neg (fun z => z h), if_pos hm]
theorem bld_ok {base kind W : Int} {rs : List Rul} {qs : List Quo} {k : Nat} (h : (bldV base kind W rs qs k).2.1 = 0) (hm : (metV base kind W rs (endL qs (k + 1)) (bldV base kind W rs qs k).1 (qs.getD k quo0)).1 = 0) : bldV base kind W rs qs (k + 1) = ((bldV base kind W rs qs k).1 ++ [(metV base kind W rs (endL qs (k + 1)) (bldV base kind W rs qs k).1 (qs.getD k quo0)).2], 0, 0) := by
  show (if (bldV base kind W rs qs k).2.1 ≠ 0 then bldV base kind W rs qs k else _) = _
  rw [if_neg (fun z => z h), if_neg (fun z => z hm)]
end Go.Proofs.YtphnainibdepbaaGreat
