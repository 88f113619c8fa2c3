/- The almanac in memory. The contract of mark. The contracts of the almanac's holiday and open. The contracts of the almanac's walk, nearest, nearestOfMonth and count. -/
import Derived.Test.YtphnainibdepbaaGreatHam
import Derived.Deep.OwnRows
namespace Go.Proofs.YtphnainibdepbaaGreat
open Go.RowKit

def almF (W : Int) (v : Value) (f l : Int) (m : Value) : Nat → Value
  | 0 => .int .i64 W
  | 1 => v
  | 2 => .int .i64 f
  | 3 => .int .i64 l
  | _ => m
theorem five {i : Nat} (h : i < 5) : i = 0 ∨ i = 1 ∨ i = 2 ∨ i = 3 ∨ i = 4 := by omega
structure AlmC (w : World) (A : Nat) (W : Int) (v : Value) (f l : Int) (m : Value) : Prop where
  row : w.rowIs A 185 5 (almF W v f l m)
theorem AlmC.c0 {w : World} {A : Nat} {W : Int} {v : Value} {f l : Int} {m : Value} (h : AlmC w A W v f l m) : w.cell? ⟨A, 0, none⟩ = some (.int .i64 W) := h.row.cell (i := 0) (by omega)
theorem AlmC.c1 {w : World} {A : Nat} {W : Int} {v : Value} {f l : Int} {m : Value} (h : AlmC w A W v f l m) : w.cell? ⟨A, 1, none⟩ = some v := h.row.cell (i := 1) (by omega)
theorem AlmC.c2 {w : World} {A : Nat} {W : Int} {v : Value} {f l : Int} {m : Value} (h : AlmC w A W v f l m) : w.cell? ⟨A, 2, none⟩ = some (.int .i64 f) := h.row.cell (i := 2) (by omega)
theorem AlmC.c3 {w : World} {A : Nat} {W : Int} {v : Value} {f l : Int} {m : Value} (h : AlmC w A W v f l m) : w.cell? ⟨A, 3, none⟩ = some (.int .i64 l) := h.row.cell (i := 3) (by omega)
theorem AlmC.c4 {w : World} {A : Nat} {W : Int} {v : Value} {f l : Int} {m : Value} (h : AlmC w A W v f l m) : w.cell? ⟨A, 4, none⟩ = some m := h.row.cell (i := 4) (by omega)
theorem AlmC.fz {w : World} {A : Nat} {W : Int} {v : Value} {f l : Int} {m : Value} (h : AlmC w A W v f l m) (i : Nat) : w.frozen? ⟨A, i, none⟩ = false := h.row.frozen i
theorem AlmC.lt {w : World} {A : Nat} {W : Int} {v : Value} {f l : Int} {m : Value} (h : AlmC w A W v f l m) : A < w.heap.size := h.row.lt
theorem AlmC.set2 {w : World} {A : Nat} {W : Int} {v : Value} {f l : Int} {m : Value} (h : AlmC w A W v f l m) (x : Int) : AlmC (w.setCell ⟨A, 2, none⟩ (.int .i64 x)) A W v x l m :=
  ⟨(h.row.set 2 (.int .i64 x)).congr fun i hi => by rcases five hi with rfl | rfl | rfl | rfl | rfl <;> rfl⟩
theorem AlmC.set3 {w : World} {A : Nat} {W : Int} {v : Value} {f l : Int} {m : Value} (h : AlmC w A W v f l m) (x : Int) : AlmC (w.setCell ⟨A, 3, none⟩ (.int .i64 x)) A W v f x m :=
  ⟨(h.row.set 3 (.int .i64 x)).congr fun i hi => by rcases five hi with rfl | rfl | rfl | rfl | rfl <;> rfl⟩
theorem AlmC.set4 {w : World} {A : Nat} {W : Int} {v : Value} {f l : Int} {m : Value} (h : AlmC w A W v f l m) (x : Value) : AlmC (w.setCell ⟨A, 4, none⟩ x) A W v f l x :=
  ⟨(h.row.set 4 x).congr fun i hi => by rcases five hi with rfl | rfl | rfl | rfl | rfl <;> rfl⟩
theorem AlmC.below {w w' : World} {A B : Nat} {W : Int} {v : Value} {f l : Int} {m : Value} (h : AlmC w A W v f l m) (hb : Below B w w') (hB : A < B) : AlmC w' A W v f l m := ⟨h.row.of_block (hb.block A hB)⟩
theorem AlmC.alloc {w : World} {A : Nat} {W : Int} {v : Value} {f l : Int} {m : Value} (h : AlmC w A W v f l m) (o : Obj) : AlmC (w.alloc o) A W v f l m := ⟨h.row.alloc o⟩
theorem AlmC.other {w : World} {A : Nat} {W : Int} {v : Value} {f l : Int} {m : Value} (h : AlmC w A W v f l m) {a : Addr} (ha : A ≠ a.block) (u : Value) : AlmC (w.setCell a u) A W v f l m := ⟨h.row.setOther ha u⟩

structure MK (w : World) (A : Nat) (W : Int) (v : Value) (f l : Int) (bm L : Nat) (F : Nat → Bool) (wr : World) : Prop where
  alm : AlmC wr A W v f l (.slice (some ⟨bm, 0, none⟩) L L)
  row : wr.rowIs bm 4 L (fun i => .bool (F i))
  low : Below A w wr
  lt : A < bm
theorem MK.step {w wr w' : World} {A : Nat} {W : Int} {v : Value} {f l : Int} {bm L : Nat} {F : Nat → Bool} (h : MK w A W v f l bm L F wr) (hb : Below wr.heap.size wr w') : MK w A W v f l bm L F w' :=
  ⟨h.alm.below hb h.alm.lt, h.row.of_block (hb.block bm h.row.lt), h.low.trans (hb.mono (Nat.le_of_lt h.alm.lt)), h.lt⟩
theorem MK.congr {w wr : World} {A : Nat} {W : Int} {v : Value} {f l : Int} {bm L : Nat} {F G : Nat → Bool} (h : MK w A W v f l bm L F wr) (e : ∀ i < L, F i = G i) : MK w A W v f l bm L G wr :=
  ⟨h.alm, h.row.congr (fun i hi => by rw [e i hi]), h.low, h.lt⟩
theorem MK.set {w wr : World} {A : Nat} {W : Int} {v : Value} {f l : Int} {bm L : Nat} {F : Nat → Bool} (h : MK w A W v f l bm L F wr) (i : Nat) : MK w A W v f l bm L (fun j => F j || decide (j = i)) (wr.setCell ⟨bm, i, none⟩ (.bool true)) :=
  ⟨h.alm.other (a := ⟨bm, i, none⟩) (by have := h.lt; show A ≠ bm; omega) _, (h.row.set i (.bool true)).congr (fun j _ => by
    by_cases e : j = i
    · rw [if_pos e, decide_eq_true e, Bool.or_true]
    · rw [if_neg e, decide_eq_false e, Bool.or_false]), h.low.setCell (p := ⟨bm, i, none⟩) (Nat.le_of_lt h.lt) _, h.lt⟩
theorem MK.drewN {w wr : World} {A : Nat} {W : Int} {v : Value} {f l : Int} {bm L : Nat} {F : Nat → Bool} (h : MK w A W v f l bm L F wr) (n : Nat) : MK w A W v f l bm L F (wr.drewN n) :=
  ⟨⟨h.alm.row⟩, h.row, below_drewN' h.low, h.lt⟩
structure MK2 (w : World) (A : Nat) (W : Int) (v : Value) (f l : Int) (bm L : Nat) (F : Nat → Bool) (b9 : Nat) (mv : Int) (wr : World) : Prop where
  one : MK w A W v f l bm L F wr
  c8 : wr.cell? ⟨b9, 8, none⟩ = some (.int .i64 mv)
  lt9 : b9 < wr.heap.size
  ne9 : b9 ≠ bm
theorem MK2.step {w wr w' : World} {A : Nat} {W : Int} {v : Value} {f l : Int} {bm L : Nat} {F : Nat → Bool} {b9 : Nat} {mv : Int} (h : MK2 w A W v f l bm L F b9 mv wr) (hb : Below wr.heap.size wr w') : MK2 w A W v f l bm L F b9 mv w' :=
  ⟨h.one.step hb, (hb.cell (p := ⟨b9, 8, none⟩) h.lt9).trans h.c8, Nat.lt_of_lt_of_le h.lt9 hb.size, h.ne9⟩
theorem MK2.congr {w wr : World} {A : Nat} {W : Int} {v : Value} {f l : Int} {bm L : Nat} {F G : Nat → Bool} {b9 : Nat} {mv : Int} (h : MK2 w A W v f l bm L F b9 mv wr) (e : ∀ i < L, F i = G i) : MK2 w A W v f l bm L G b9 mv wr :=
  ⟨h.one.congr e, h.c8, h.lt9, h.ne9⟩
theorem MK2.set {w wr : World} {A : Nat} {W : Int} {v : Value} {f l : Int} {bm L : Nat} {F : Nat → Bool} {b9 : Nat} {mv : Int} (h : MK2 w A W v f l bm L F b9 mv wr) (i : Nat) : MK2 w A W v f l bm L (fun j => F j || decide (j = i)) b9 mv (wr.setCell ⟨bm, i, none⟩ (.bool true)) :=
  ⟨h.one.set i, by
    have e : (wr.setCell ⟨bm, i, none⟩ (.bool true)).cell? ⟨b9, 8, none⟩ = wr.cell? ⟨b9, 8, none⟩ := World.cell?_of_block (w := wr) (Below.heap_setCell wr ⟨bm, i, none⟩ _ b9 h.ne9)
    rw [e]; exact h.c8, by simpa using h.lt9, h.ne9⟩
theorem MK2.drewN {w wr : World} {A : Nat} {W : Int} {v : Value} {f l : Int} {bm L : Nat} {F : Nat → Bool} {b9 : Nat} {mv : Int} (h : MK2 w A W v f l bm L F b9 mv wr) (n : Nat) : MK2 w A W v f l bm L F b9 mv (wr.drewN n) :=
  ⟨h.one.drewN n, h.c8, h.lt9, h.ne9⟩
theorem MK2.first {w wr : World} {A : Nat} {W : Int} {v : Value} {f l : Int} {bm L : Nat} {F : Nat → Bool} {kind mon day nth wd off fr to mv : Int} (h : MK w A W v f l bm L F wr) :
    MK2 w A W v f l bm L F wr.heap.size mv (wr.alloc (.cells #[.int .i64 kind, .int .i64 mon, .int .i64 day, .int .i64 nth, .int .i64 wd, .int .i64 off, .int .i64 fr, .int .i64 to, .int .i64 mv] 88)) :=
  ⟨h.step ((Below.refl _ wr).alloc (Nat.le_refl _) _), by simp, by simp, by have := h.row.lt; omega⟩
end Go.Proofs.YtphnainibdepbaaGreat
namespace Go.Proofs.YtphnainibdepbaaGreat
open Go.RowKit

theorem turnedQ {P : Program} {f : Nat} {args : Array Value} {w : World} {Q : Ending → Prop} (h : Calls P f args w fun e w' => Q e ∧ w' = w) : Calls P f args w fun e w' => Q e ∧ w = w' :=
  h.mono fun _ _ ⟨a, b⟩ => ⟨a, b.symm⟩
theorem ea_lo {y : Int} (h0 : 1900 ≤ y) (h1 : y ≤ 2199) : 100 ≤ eaDay y := by
  by_cases e : y = 1900
  · subst e; decide
  · obtain ⟨a, b⟩ := (isD_of (ea_ok h0 h1).ok).year
    have c := ny_lo h0
    show 100 ≤ _
    unfold eaDay
    omega
theorem giv_rng {r : Rul} {y g : Int} (hf : fitB r = true) (h : givO r y = some g) : -1 ≤ g ∧ g ≤ 200000 := by
  unfold givO at h
  by_cases k4 : r.kind = 4
  · rw [if_pos k4] at h
    have hr : 0 ≤ r.day ∧ r.day ≤ 109572 := by
      rcases fit_cases hf with ⟨_, a, b, _⟩ | ⟨_, ⟨a, _⟩ | ⟨a, _⟩ | ⟨a, _⟩⟩
      · exact ⟨a, b⟩
      · omega
      · omega
      · omega
    by_cases e : yrI r.day = y
    · rw [if_pos e] at h
      have := Option.some.inj h
      omega
    · rw [if_neg e] at h; cases h
  · rw [if_neg k4] at h
    unfold baseO at h
    by_cases hr : y < r.fr ∨ r.to < y
    · rw [if_pos hr] at h; cases h
    · rw [if_neg hr] at h
      rcases fit_cases hf with ⟨a, _⟩ | ⟨⟨f0, f1, f2, v0, v1⟩, hkd⟩
      · exact absurd a k4
      · have y0 : 1900 ≤ y := by omega
        have y1 : y ≤ 2199 := by omega
        rcases hkd with ⟨k1, m0, m1, d0, d1⟩ | ⟨k2, m0, m1, w0, w1, c0, c1⟩ | ⟨k3, o0, o1⟩
        · rw [if_pos k1] at h
          by_cases ho : okD y r.mon r.day
          · rw [if_pos ho] at h
            have := (isD_of ho).range
            have := Option.some.inj h
            omega
          · rw [if_neg ho] at h; cases h
        · rw [if_neg (by omega), if_pos k2] at h
          have := nth_rng (y := y) ⟨y0, y1, m0, m1⟩ w0 w1 c0 c1
          have := Option.some.inj h
          omega
        · rw [if_neg (by omega), if_neg (by omega), if_pos k3] at h
          have := ea_lo y0 y1
          have := (isD_of (ea_ok y0 y1).ok).range
          have e := Option.some.inj h
          unfold eaDay at *
          omega
theorem mark_none {W : Int} {rs : List Rul} {r : Rul} {Y I f : Int} {t k : Nat} (h : givO r I = none) (hI : I = Y - 1 + t) (i : Nat) :
    (mkK W rs Y (f + i) k || mkT W r Y (f + i) t) = (mkK W rs Y (f + i) k || mkT W r Y (f + i) (t + 1)) := by
  show _ = (mkK W rs Y (f + i) k || (mkT W r Y (f + i) t || mkB W r (Y - 1 + t) (f + i)))
  rw [← hI, mkB_none h, Bool.or_false]
theorem mark_out {W : Int} {rs : List Rul} {r : Rul} {Y I f g x : Int} {t k L : Nat} (h : givO r I = some g) (hI : I = Y - 1 + t) (hx : mvI W g r.mv = x) (ho : ¬ (f ≤ x ∧ x ≤ f + L - 1)) (i : Nat) (hi : i < L) :
    (mkK W rs Y (f + i) k || mkT W r Y (f + i) t) = (mkK W rs Y (f + i) k || mkT W r Y (f + i) (t + 1)) := by
  show _ = (mkK W rs Y (f + i) k || (mkT W r Y (f + i) t || mkB W r (Y - 1 + t) (f + i)))
  rw [← hI, mkB_some h, hx, decide_eq_false (fun e => ho (by omega)), Bool.or_false]
theorem mark_in {W : Int} {rs : List Rul} {r : Rul} {Y I f g x : Int} {t k i0 : Nat} (h : givO r I = some g) (hI : I = Y - 1 + t) (hx : mvI W g r.mv = x) (h0 : x = f + i0) (i : Nat) :
    ((mkK W rs Y (f + i) k || mkT W r Y (f + i) t) || decide (i = i0)) = (mkK W rs Y (f + i) k || mkT W r Y (f + i) (t + 1)) := by
  show _ = (mkK W rs Y (f + i) k || (mkT W r Y (f + i) t || mkB W r (Y - 1 + t) (f + i)))
  rw [← hI, mkB_some h, hx, show decide (x = f + (i : Int)) = decide (i = i0) from decide_eq_decide.2 (by omega), Bool.or_assoc]

theorem infoB : (Tryz.prog.info? 4).map (fun i => (i.zero, i.size, i.bytes)) = some (some (.bool false), 1, 1) := by kernel_rfl

set_option maxRecDepth 10000 in
set_option maxHeartbeats 16000000 in
theorem mark_any (A : Nat) (W n Y m d : Int) (p : Option Addr) (b off c : Nat) (rs : List Rul) (f l : Int) (mm : Value) (w : World) (h : OkC W rs) (hs : RSrc w p b off rs) (hbA : 0 < rs.length → b < A) (hA : AlmC w A W (.slice p rs.length c) f l mm) (hd : IsD n Y m d) :
    Calls Tryz.prog 155 #[.pointer (some ⟨A, 0, none⟩), .int .i64 n] w fun e w' => e = .returned (.tuple #[]) ∧ ∃ (bm L : Nat), (L : Int) = nyI (Y + 1) - nyI Y ∧ MK w A W (.slice p rs.length c) (nyI Y) (nyI (Y + 1) - 1) bm L (fun i => holB W rs (nyI Y + i) Y) w' := by
  obtain ⟨y0, y1, _, _, _, _⟩ := hd.1
  have HC := hideS (fun wx => civil_ok n Y m d wx hd)
  have HO1 := hideS (fun wx => ofP_ok Y 1 1 wx (okD_first1 y0 y1))
  have HO2 := hideS (fun wx => ofP_ok Y 12 31 wx (okD_last y0 y1))
  rw [first_day] at HO1
  rw [last_day y0] at HO2
  have n1 : 0 ≤ nyI Y := by have := ny_lo y0; omega
  have n2 : nyI Y ≤ 110000 := by have := ny_hi y0; omega
  have n3 : nyI (Y + 1) = nyI Y + 365 + lpI Y := ny_succ y0
  have n4 := lp_lo Y
  have n5 := lp_hi Y
  obtain ⟨L, hL⟩ : ∃ L : Nat, (L : Int) = nyI (Y + 1) - nyI Y := ⟨(nyI (Y + 1) - nyI Y).toNat, by omega⟩
  have HH := hideS h
  have HS := hideS hs
  have HbA := hideS hbA
  obtain ⟨N, hN⟩ : ∃ N, rs.length = N := ⟨_, rfl⟩
  have HN := hideS hN
  have hN64 : N ≤ 64 := by rw [← hN]; exact h.len
  rw [hN] at hA ⊢
  obtain ⟨fst, hfst⟩ : ∃ fst, nyI Y = fst := ⟨_, rfl⟩
  obtain ⟨lst, hlst⟩ : ∃ lst, nyI (Y + 1) - 1 = lst := ⟨_, rfl⟩
  have HYr := hideS (show 1900 ≤ Y ∧ Y ≤ 2199 ∧ nyI Y = fst ∧ nyI (Y + 1) - 1 = lst from ⟨y0, y1, hfst, hlst⟩)
  have HL := hideS hL
  have l1 : (L : Int) = lst - fst + 1 := by omega
  have l2 : L ≤ 400 := by omega
  rw [hfst] at HO1 n1 n2 ⊢
  rw [hlst] at HO2 ⊢
  have c2 := hA.c2
  have f2 := hA.fz 2
  have hA2 := hA.set2 fst
  have d3 := hA2.c3
  have g3 := hA2.fz 3
  have HA3 := hideS (hA2.set3 lst)
  have HB3 : Hid (Below A w ((w.setCell ⟨A, 2, none⟩ (.int .i64 fst)).setCell ⟨A, 3, none⟩ (.int .i64 lst))) := ((Below.refl A w).setCell (p := ⟨A, 2, none⟩) (Nat.le_refl _) _).setCell (p := ⟨A, 3, none⟩) (Nat.le_refl _) _
  have hmk := fun w => run_make_row' (P := Tryz.prog) 183 4 (.bool false) 1 Tryz.underlying183 infoB rfl .i64 .i64 L (by omega) (by omega) w
  obtain ⟨wq, hwq⟩ : ∃ wq, (w.setCell ⟨A, 2, none⟩ (.int .i64 fst)).setCell ⟨A, 3, none⟩ (.int .i64 lst) = wq := ⟨_, rfl⟩
  rw [hwq] at HA3 HB3
  have HQ := hideS hwq
  clear hwq hd hN hs h hbA hA hA2 hfst hlst n3 n4 n5 hL
  go_enter Tryz.func155, Tryz.ntmps155
  go_wp2_with (first | (go_at_call 110; refine (turnedQ (HC.out _)).mono ?_; rintro e w1 ⟨rfl, rfl⟩) | (go_at_call_of 126 (Value.int IntKind.i64 12); refine (turnedQ (HO2.out _)).mono ?_; rintro e w1 ⟨rfl, rfl⟩) | (go_at_call 126; refine (turnedQ (HO1.out _)).mono ?_; rintro e w1 ⟨rfl, rfl⟩))
  rw [HQ.out]
  clear c2 f2 d3 g3 HC HO1 HO2 HQ
  have c2 := HA3.out.c2
  have c3 := HA3.out.c3
  have c4 := HA3.out.c4
  have f4 := HA3.out.fz 4
  have hsub : IntKind.i64.wrap (lst - fst) = lst - fst := by rw [IntKind.wrap_i64]; omega
  have hadd : IntKind.i64.wrap (lst - fst + 1) = lst - fst + 1 := by rw [IntKind.wrap_i64]; omega
  simp only [l1] at hmk
  have HA4 : Hid (AlmC (wq.alloc (.cells (madeCells #[.bool false] L) 4)) A W (.slice p N c) fst lst mm) := HA3.out.alloc _
  have e4 := HA4.out.c4
  have e4f := HA4.out.fz 4
  go_region
  have HM0 : Hid (MK w A W (.slice p N c) fst lst wq.heap.size L (fun _ => false) (((wq.alloc (.cells (madeCells #[.bool false] L) 4)).setCell ⟨A, 4, none⟩ (.slice (some ⟨wq.heap.size, 0, none⟩) L L)).drew)) :=
    ⟨⟨(HA4.out.set4 (.slice (some ⟨wq.heap.size, 0, none⟩) L L)).row⟩, World.rowIs.setOther (w := wq.alloc (.cells (madeCells #[.bool false] L) 4)) (World.rowIs_made wq (.bool false) L 4) (a := ⟨A, 4, none⟩) (by have := HA3.out.lt; show wq.heap.size ≠ A; omega) _, ((HB3.out.alloc (Nat.le_of_lt HA3.out.lt) _).setCell (p := ⟨A, 4, none⟩) (Nat.le_refl _) _).drew, HA3.out.lt⟩
  obtain ⟨w3, hw3⟩ : ∃ w3, ((wq.alloc (.cells (madeCells #[.bool false] L) 4)).setCell ⟨A, 4, none⟩ (.slice (some ⟨wq.heap.size, 0, none⟩) L L)).drew = w3 := ⟨_, rfl⟩
  rw [hw3] at HM0 ⊢
  generalize wq.heap.size = bm at *
  clear hw3 HA4 e4 e4f c2 c3 c4 f4 hsub hadd HA3 HB3 hmk
  have a1 := HM0.out.alm.c1
  go_wp2_with fail
  go_loopw [57] (fun i wr => ∃ (k : Nat), k ≤ N ∧ i = .int .i64 k ∧ Hid (MK w A W (.slice p N c) fst lst bm L (fun i => mkK W rs Y (fst + i) k) wr)) (fun i _ => N - (intOf i).toNat)
  case atStart => exact ⟨0, by omega, rfl, HM0⟩
  case round =>
    clear HM0 a1
    obtain ⟨k, hk, rfl, HMk⟩ := hrel
    by_cases hlt : k < N
    · have hx : k < rs.length := by rw [HN.out]; exact hlt
      obtain rfl := HS.out.at_ (by omega)
      have hrc := (HS.out.cell k hx).below HMk.out.low (HbA.out (by omega))
      have HF := hideS (HH.out.fit (rs.getD k rul0) (getD_mem hx))
      obtain ⟨r, hr⟩ : ∃ r, rs.getD k rul0 = r := ⟨_, rfl⟩
      rw [hr] at hrc HF
      have HRk := hideS hr
      clear hr hx
      obtain ⟨g0, g1, g2, g3, g4, g5, g6, g7, g8⟩ := hrc
      obtain ⟨r', hr'⟩ : ∃ r', r' = r := ⟨r, rfl⟩
      rw [← hr'] at HRk HF
      have HMr : Hid (r'.mv = r.mv) := by show _ = _; rw [hr']
      have hfc0 := fit_cases HF.out
      rw [hr'] at hfc0
      obtain ⟨kind, mon, day, nth, wd, offs, fr, to, mv⟩ := r
      dsimp only at *
      have HKb := hideS (MK2.first (kind := kind) (mon := mon) (day := day) (nth := nth) (wd := wd) (off := offs) (fr := fr) (to := to) (mv := mv) HMk.out)
      have hkd : (kind = 1) ∨ (kind = 2 ∧ 1 ≤ mon ∧ mon ≤ 12 ∧ 0 ≤ wd ∧ wd ≤ 6 ∧ 1 ≤ nth ∧ nth ≤ 5 ∧ 1900 ≤ fr ∧ to ≤ 2199) ∨ (kind = 3 ∧ -100 ≤ offs ∧ offs ≤ 100 ∧ 1900 ≤ fr ∧ to ≤ 2199) ∨ (kind = 4 ∧ 0 ≤ day ∧ day ≤ 109572) := by omega
      clear hfc0 HMk
      rcases hkd with rfl | ⟨rfl, hfc⟩ | ⟨rfl, hfc⟩ | ⟨rfl, hfc⟩
      · have HHo := hideS (fun wx => (holidayOf_any 1 mon day nth wd offs fr to mv wx (by omega) : Calls Tryz.prog 40 _ wx fun e w' => e = .returned (.iface 116 _) ∧ Below wx.heap.size wx w'))
        have HIn := hideS (fun (y : Int) (wx : World) => in1_any mon day nth wd offs fr to mv y wx )
        rw [← hr'] at HIn
        clear hr'
        go_wp2_with (go_at_call 40; refine (HHo.out _).mono ?_; rintro e w4 ⟨rfl, hb4⟩)
        have HM4 := hideS (HKb.out.step hb4)
        clear hb4 HKb HHo
        generalize wr.heap.size = b9 at *
        go_loopw [11] (fun y w2 => ∃ (t : Nat) (I : Int), t ≤ 3 ∧ 1899 ≤ I ∧ I ≤ 2201 ∧ y = .int .i64 I ∧ Hid (I = Y - 1 + t) ∧ Hid (MK2 w A W (.slice (some ⟨b, off, none⟩) N c) fst lst bm L (fun i => mkK W rs Y (fst + i) k || mkT W r' Y (fst + i) t) b9 mv w2)) (fun y _ => (Y + 2 - intOf y).toNat)
        case atStart => exact ⟨0, Y - 1, by omega, by omega, by omega, rfl, by show _ = _; omega, HM4.out.congr (fun i _ => (Bool.or_false _).symm)⟩
        case round =>
          clear HM4
          obtain ⟨t, I, ht, hI0, hI1, rfl, HI, HM⟩ := hrel
          by_cases ht3 : t < 3
          · have hIY : I ≤ Y + 1 := by have := HI.out; omega
            have HDy := hideS (fun wx => HIn.out I wx)
            obtain ⟨o, ho⟩ : ∃ o, givO r' I = o := ⟨_, rfl⟩
            rw [ho] at HDy
            have HOo := hideS ho
            clear ho
            rcases o with _ | g
            · have HEq := hideS (fun (i : Nat) => mark_none (W := W) (rs := rs) (f := fst) (k := k) HOo.out HI.out i)
              dsimp only [Option.isSome] at HDy
              go_wp2_with (go_at_call 185; refine (HDy.out _).mono ?_; rintro e w5 ⟨N5, rfl, _, hb5⟩; have HM5 := hideS (HM.out.step hb5); clear hb5)
              go_roundw
              case rel => exact ⟨t + 1, I + 1, by omega, by omega, by omega, rfl, by have := HI.out; show _ = _; omega, HM5.out.congr (fun i _ => HEq.out i)⟩
              case measure => simp [intOf]; omega
            · have HRg := giv_rng HF.out HOo.out
              obtain ⟨g0, g1⟩ := HRg
              obtain ⟨u, dd, hu⟩ := ups_ex HH.out.w0 HH.out.w1 g
              have HMv := hideS (fun wx => moved_any W g mv u dd wx g0 (by omega) hu)
              have HX : Hid (mvI W g r'.mv = movI W g mv u dd) := by show _ = _; rw [HMr.out, mv_eq hu]
              have hx0 : g - 6 ≤ movI W g mv u dd ∧ movI W g mv u dd ≤ g + 6 := by
                have := hu.ub; have := hu.db
                unfold movI; split
                · omega
                · split <;> omega
              obtain ⟨x, hx⟩ : ∃ x, movI W g mv u dd = x := ⟨_, rfl⟩
              rw [hx] at HMv HX hx0
              obtain ⟨x0, x1⟩ := hx0
              clear hx hu
              dsimp only [Option.isSome] at HDy
              have HBt := hideS (fun wx => betweenQ_any x fst lst wx)
              by_cases hin : fst ≤ x ∧ x ≤ lst
              · rw [decide_eq_true hin] at HBt
                obtain ⟨i0, hi0⟩ : ∃ i0 : Nat, x - fst = i0 := ⟨(x - fst).toNat, by omega⟩
                have hiL : i0 < L := by omega
                have HEq := hideS (fun (i : Nat) => mark_in (W := W) (rs := rs) (f := fst) (k := k) (i0 := i0) HOo.out HI.out HX.out (by omega) i)
                have hw0 : IntKind.i64.wrap (x - fst) = (i0 : Int) := by rw [IntKind.wrap_i64]; omega
                have hiL' : (i0 : Int) < (L : Int) := by omega
                clear hin
                go_wp2_with (go_at_call 185; refine (HDy.out _).mono ?_; rintro e w5 ⟨N5, rfl, hN5, hb5⟩; have HM5 := hideS (HM.out.step hb5); clear hb5; obtain rfl := hN5 _ rfl)
                have e0 := HM5.out.one.alm.c0
                have e8 := HM5.out.c8
                clear hN5
                go_quiet ((go_at_call 161; exact Calls.quiet_of_same (HMv.out _)))
                obtain ⟨w6, hw6⟩ : ∃ w6, w6 = w5.drewN nq := ⟨_, rfl⟩
                rw [← hw6]
                have HM6 : Hid (MK2 w A W (.slice (some ⟨b, off, none⟩) N c) fst lst bm L (fun i => mkK W rs Y (fst + i) k || mkT W r' Y (fst + i) t) b9 mv w6) := by rw [hw6]; exact HM5.out.drewN _
                clear hw6 e0 e8 HM5
                have e2 := HM6.out.one.alm.c2
                have e3 := HM6.out.one.alm.c3
                go_wp2_with fail
                go_quiet ((go_at_call 144; exact Calls.quiet_of_same (HBt.out _)))
                obtain ⟨w7, hw7⟩ : ∃ w7, w7 = w6.drewN nq := ⟨_, rfl⟩
                rw [← hw7]
                have HM7 : Hid (MK2 w A W (.slice (some ⟨b, off, none⟩) N c) fst lst bm L (fun i => mkK W rs Y (fst + i) k || mkT W r' Y (fst + i) t) b9 mv w7) := by rw [hw7]; exact HM6.out.drewN _
                clear hw7 e2 e3 HM6
                have e2 := HM7.out.one.alm.c2
                have e4 := HM7.out.one.alm.c4
                have em := HM7.out.one.row.cell (i := i0) hiL
                have ef := HM7.out.one.row.frozen i0
                go_wp2_with fail
                go_region
                have HM8 := hideS ((HM7.out.set i0).congr (fun i _ => HEq.out i))
                clear HM7 e2 e4 em ef
                go_wp2_with fail
                go_roundw
                case rel => exact ⟨t + 1, I + 1, by omega, by omega, by omega, rfl, by have := HI.out; show _ = _; omega, HM8.out.drewN 1⟩
                case measure => simp [intOf]; omega
              · rw [decide_eq_false hin] at HBt
                have HEq := hideS (fun (i : Nat) (hi : i < L) => mark_out (W := W) (rs := rs) (f := fst) (k := k) (L := L) HOo.out HI.out HX.out (by omega) i hi)
                clear hin
                go_wp2_with (go_at_call 185; refine (HDy.out _).mono ?_; rintro e w5 ⟨N5, rfl, hN5, hb5⟩; have HM5 := hideS (HM.out.step hb5); clear hb5; obtain rfl := hN5 _ rfl)
                have e0 := HM5.out.one.alm.c0
                have e8 := HM5.out.c8
                clear hN5
                go_quiet ((go_at_call 161; exact Calls.quiet_of_same (HMv.out _)))
                obtain ⟨w6, hw6⟩ : ∃ w6, w6 = w5.drewN nq := ⟨_, rfl⟩
                rw [← hw6]
                have HM6 : Hid (MK2 w A W (.slice (some ⟨b, off, none⟩) N c) fst lst bm L (fun i => mkK W rs Y (fst + i) k || mkT W r' Y (fst + i) t) b9 mv w6) := by rw [hw6]; exact HM5.out.drewN _
                clear hw6 e0 e8 HM5
                have e2 := HM6.out.one.alm.c2
                have e3 := HM6.out.one.alm.c3
                go_wp2_with fail
                go_quiet ((go_at_call 144; exact Calls.quiet_of_same (HBt.out _)))
                go_wp2_with fail
                go_roundw
                case rel => exact ⟨t + 1, I + 1, by omega, by omega, by omega, rfl, by have := HI.out; show _ = _; omega, (HM6.out.drewN _).congr (fun i hi => HEq.out i hi)⟩
                case measure => simp [intOf]; omega
          · have hIY : ¬ I ≤ Y + 1 := by have := HI.out; omega
            have HNk : Hid (MK w A W (.slice (some ⟨b, off, none⟩) N c) fst lst bm L (fun i => mkK W rs Y (fst + i) (k + 1)) wr) := by
              obtain rfl : t = 3 := by omega
              exact HM.out.one.congr (fun i _ => by show _ = (mkK W rs Y (fst + i) k || mkT W (rs.getD k rul0) Y (fst + i) 3); rw [HRk.out])
            go_wp2_with fail
            go_roundw
            case rel => exact ⟨k + 1, by omega, by go_num, HNk⟩
            case measure => simp [intOf]; omega
      · have HHo := hideS (fun wx => (holidayOf_any 2 mon day nth wd offs fr to mv wx (by omega) : Calls Tryz.prog 40 _ wx fun e w' => e = .returned (.iface 117 _) ∧ Below wx.heap.size wx w'))
        have HIn := hideS (fun (y : Int) (wx : World) => in2_any mon day nth wd offs fr to mv y wx hfc.1 hfc.2.1 hfc.2.2.1 hfc.2.2.2.1 hfc.2.2.2.2.1 hfc.2.2.2.2.2.1 hfc.2.2.2.2.2.2.1 hfc.2.2.2.2.2.2.2)
        rw [← hr'] at HIn
        clear hr' hfc
        go_wp2_with (go_at_call 40; refine (HHo.out _).mono ?_; rintro e w4 ⟨rfl, hb4⟩)
        have HM4 := hideS (HKb.out.step hb4)
        clear hb4 HKb HHo
        generalize wr.heap.size = b9 at *
        go_loopw [11] (fun y w2 => ∃ (t : Nat) (I : Int), t ≤ 3 ∧ 1899 ≤ I ∧ I ≤ 2201 ∧ y = .int .i64 I ∧ Hid (I = Y - 1 + t) ∧ Hid (MK2 w A W (.slice (some ⟨b, off, none⟩) N c) fst lst bm L (fun i => mkK W rs Y (fst + i) k || mkT W r' Y (fst + i) t) b9 mv w2)) (fun y _ => (Y + 2 - intOf y).toNat)
        case atStart => exact ⟨0, Y - 1, by omega, by omega, by omega, rfl, by show _ = _; omega, HM4.out.congr (fun i _ => (Bool.or_false _).symm)⟩
        case round =>
          clear HM4
          obtain ⟨t, I, ht, hI0, hI1, rfl, HI, HM⟩ := hrel
          by_cases ht3 : t < 3
          · have hIY : I ≤ Y + 1 := by have := HI.out; omega
            have HDy := hideS (fun wx => HIn.out I wx)
            obtain ⟨o, ho⟩ : ∃ o, givO r' I = o := ⟨_, rfl⟩
            rw [ho] at HDy
            have HOo := hideS ho
            clear ho
            rcases o with _ | g
            · have HEq := hideS (fun (i : Nat) => mark_none (W := W) (rs := rs) (f := fst) (k := k) HOo.out HI.out i)
              dsimp only [Option.isSome] at HDy
              go_wp2_with (go_at_call 188; refine (HDy.out _).mono ?_; rintro e w5 ⟨N5, rfl, _, hb5⟩; have HM5 := hideS (HM.out.step hb5); clear hb5)
              go_roundw
              case rel => exact ⟨t + 1, I + 1, by omega, by omega, by omega, rfl, by have := HI.out; show _ = _; omega, HM5.out.congr (fun i _ => HEq.out i)⟩
              case measure => simp [intOf]; omega
            · have HRg := giv_rng HF.out HOo.out
              obtain ⟨g0, g1⟩ := HRg
              obtain ⟨u, dd, hu⟩ := ups_ex HH.out.w0 HH.out.w1 g
              have HMv := hideS (fun wx => moved_any W g mv u dd wx g0 (by omega) hu)
              have HX : Hid (mvI W g r'.mv = movI W g mv u dd) := by show _ = _; rw [HMr.out, mv_eq hu]
              have hx0 : g - 6 ≤ movI W g mv u dd ∧ movI W g mv u dd ≤ g + 6 := by
                have := hu.ub; have := hu.db
                unfold movI; split
                · omega
                · split <;> omega
              obtain ⟨x, hx⟩ : ∃ x, movI W g mv u dd = x := ⟨_, rfl⟩
              rw [hx] at HMv HX hx0
              obtain ⟨x0, x1⟩ := hx0
              clear hx hu
              dsimp only [Option.isSome] at HDy
              have HBt := hideS (fun wx => betweenQ_any x fst lst wx)
              by_cases hin : fst ≤ x ∧ x ≤ lst
              · rw [decide_eq_true hin] at HBt
                obtain ⟨i0, hi0⟩ : ∃ i0 : Nat, x - fst = i0 := ⟨(x - fst).toNat, by omega⟩
                have hiL : i0 < L := by omega
                have HEq := hideS (fun (i : Nat) => mark_in (W := W) (rs := rs) (f := fst) (k := k) (i0 := i0) HOo.out HI.out HX.out (by omega) i)
                have hw0 : IntKind.i64.wrap (x - fst) = (i0 : Int) := by rw [IntKind.wrap_i64]; omega
                have hiL' : (i0 : Int) < (L : Int) := by omega
                clear hin
                go_wp2_with (go_at_call 188; refine (HDy.out _).mono ?_; rintro e w5 ⟨N5, rfl, hN5, hb5⟩; have HM5 := hideS (HM.out.step hb5); clear hb5; obtain rfl := hN5 _ rfl)
                have e0 := HM5.out.one.alm.c0
                have e8 := HM5.out.c8
                clear hN5
                go_quiet ((go_at_call 161; exact Calls.quiet_of_same (HMv.out _)))
                obtain ⟨w6, hw6⟩ : ∃ w6, w6 = w5.drewN nq := ⟨_, rfl⟩
                rw [← hw6]
                have HM6 : Hid (MK2 w A W (.slice (some ⟨b, off, none⟩) N c) fst lst bm L (fun i => mkK W rs Y (fst + i) k || mkT W r' Y (fst + i) t) b9 mv w6) := by rw [hw6]; exact HM5.out.drewN _
                clear hw6 e0 e8 HM5
                have e2 := HM6.out.one.alm.c2
                have e3 := HM6.out.one.alm.c3
                go_wp2_with fail
                go_quiet ((go_at_call 144; exact Calls.quiet_of_same (HBt.out _)))
                obtain ⟨w7, hw7⟩ : ∃ w7, w7 = w6.drewN nq := ⟨_, rfl⟩
                rw [← hw7]
                have HM7 : Hid (MK2 w A W (.slice (some ⟨b, off, none⟩) N c) fst lst bm L (fun i => mkK W rs Y (fst + i) k || mkT W r' Y (fst + i) t) b9 mv w7) := by rw [hw7]; exact HM6.out.drewN _
                clear hw7 e2 e3 HM6
                have e2 := HM7.out.one.alm.c2
                have e4 := HM7.out.one.alm.c4
                have em := HM7.out.one.row.cell (i := i0) hiL
                have ef := HM7.out.one.row.frozen i0
                go_wp2_with fail
                go_region
                have HM8 := hideS ((HM7.out.set i0).congr (fun i _ => HEq.out i))
                clear HM7 e2 e4 em ef
                go_wp2_with fail
                go_roundw
                case rel => exact ⟨t + 1, I + 1, by omega, by omega, by omega, rfl, by have := HI.out; show _ = _; omega, HM8.out.drewN 1⟩
                case measure => simp [intOf]; omega
              · rw [decide_eq_false hin] at HBt
                have HEq := hideS (fun (i : Nat) (hi : i < L) => mark_out (W := W) (rs := rs) (f := fst) (k := k) (L := L) HOo.out HI.out HX.out (by omega) i hi)
                clear hin
                go_wp2_with (go_at_call 188; refine (HDy.out _).mono ?_; rintro e w5 ⟨N5, rfl, hN5, hb5⟩; have HM5 := hideS (HM.out.step hb5); clear hb5; obtain rfl := hN5 _ rfl)
                have e0 := HM5.out.one.alm.c0
                have e8 := HM5.out.c8
                clear hN5
                go_quiet ((go_at_call 161; exact Calls.quiet_of_same (HMv.out _)))
                obtain ⟨w6, hw6⟩ : ∃ w6, w6 = w5.drewN nq := ⟨_, rfl⟩
                rw [← hw6]
                have HM6 : Hid (MK2 w A W (.slice (some ⟨b, off, none⟩) N c) fst lst bm L (fun i => mkK W rs Y (fst + i) k || mkT W r' Y (fst + i) t) b9 mv w6) := by rw [hw6]; exact HM5.out.drewN _
                clear hw6 e0 e8 HM5
                have e2 := HM6.out.one.alm.c2
                have e3 := HM6.out.one.alm.c3
                go_wp2_with fail
                go_quiet ((go_at_call 144; exact Calls.quiet_of_same (HBt.out _)))
                go_wp2_with fail
                go_roundw
                case rel => exact ⟨t + 1, I + 1, by omega, by omega, by omega, rfl, by have := HI.out; show _ = _; omega, (HM6.out.drewN _).congr (fun i hi => HEq.out i hi)⟩
                case measure => simp [intOf]; omega
          · have hIY : ¬ I ≤ Y + 1 := by have := HI.out; omega
            have HNk : Hid (MK w A W (.slice (some ⟨b, off, none⟩) N c) fst lst bm L (fun i => mkK W rs Y (fst + i) (k + 1)) wr) := by
              obtain rfl : t = 3 := by omega
              exact HM.out.one.congr (fun i _ => by show _ = (mkK W rs Y (fst + i) k || mkT W (rs.getD k rul0) Y (fst + i) 3); rw [HRk.out])
            go_wp2_with fail
            go_roundw
            case rel => exact ⟨k + 1, by omega, by go_num, HNk⟩
            case measure => simp [intOf]; omega
      · have HHo := hideS (fun wx => (holidayOf_any 3 mon day nth wd offs fr to mv wx (by omega) : Calls Tryz.prog 40 _ wx fun e w' => e = .returned (.iface 118 _) ∧ Below wx.heap.size wx w'))
        have HIn := hideS (fun (y : Int) (wx : World) => in3_any mon day nth wd offs fr to mv y wx hfc.1 hfc.2.1 hfc.2.2.1 hfc.2.2.2)
        rw [← hr'] at HIn
        clear hr' hfc
        go_wp2_with (go_at_call 40; refine (HHo.out _).mono ?_; rintro e w4 ⟨rfl, hb4⟩)
        have HM4 := hideS (HKb.out.step hb4)
        clear hb4 HKb HHo
        generalize wr.heap.size = b9 at *
        go_loopw [11] (fun y w2 => ∃ (t : Nat) (I : Int), t ≤ 3 ∧ 1899 ≤ I ∧ I ≤ 2201 ∧ y = .int .i64 I ∧ Hid (I = Y - 1 + t) ∧ Hid (MK2 w A W (.slice (some ⟨b, off, none⟩) N c) fst lst bm L (fun i => mkK W rs Y (fst + i) k || mkT W r' Y (fst + i) t) b9 mv w2)) (fun y _ => (Y + 2 - intOf y).toNat)
        case atStart => exact ⟨0, Y - 1, by omega, by omega, by omega, rfl, by show _ = _; omega, HM4.out.congr (fun i _ => (Bool.or_false _).symm)⟩
        case round =>
          clear HM4
          obtain ⟨t, I, ht, hI0, hI1, rfl, HI, HM⟩ := hrel
          by_cases ht3 : t < 3
          · have hIY : I ≤ Y + 1 := by have := HI.out; omega
            have HDy := hideS (fun wx => HIn.out I wx)
            obtain ⟨o, ho⟩ : ∃ o, givO r' I = o := ⟨_, rfl⟩
            rw [ho] at HDy
            have HOo := hideS ho
            clear ho
            rcases o with _ | g
            · have HEq := hideS (fun (i : Nat) => mark_none (W := W) (rs := rs) (f := fst) (k := k) HOo.out HI.out i)
              dsimp only [Option.isSome] at HDy
              go_wp2_with (go_at_call 190; refine (HDy.out _).mono ?_; rintro e w5 ⟨N5, rfl, _, hb5⟩; have HM5 := hideS (HM.out.step hb5); clear hb5)
              go_roundw
              case rel => exact ⟨t + 1, I + 1, by omega, by omega, by omega, rfl, by have := HI.out; show _ = _; omega, HM5.out.congr (fun i _ => HEq.out i)⟩
              case measure => simp [intOf]; omega
            · have HRg := giv_rng HF.out HOo.out
              obtain ⟨g0, g1⟩ := HRg
              obtain ⟨u, dd, hu⟩ := ups_ex HH.out.w0 HH.out.w1 g
              have HMv := hideS (fun wx => moved_any W g mv u dd wx g0 (by omega) hu)
              have HX : Hid (mvI W g r'.mv = movI W g mv u dd) := by show _ = _; rw [HMr.out, mv_eq hu]
              have hx0 : g - 6 ≤ movI W g mv u dd ∧ movI W g mv u dd ≤ g + 6 := by
                have := hu.ub; have := hu.db
                unfold movI; split
                · omega
                · split <;> omega
              obtain ⟨x, hx⟩ : ∃ x, movI W g mv u dd = x := ⟨_, rfl⟩
              rw [hx] at HMv HX hx0
              obtain ⟨x0, x1⟩ := hx0
              clear hx hu
              dsimp only [Option.isSome] at HDy
              have HBt := hideS (fun wx => betweenQ_any x fst lst wx)
              by_cases hin : fst ≤ x ∧ x ≤ lst
              · rw [decide_eq_true hin] at HBt
                obtain ⟨i0, hi0⟩ : ∃ i0 : Nat, x - fst = i0 := ⟨(x - fst).toNat, by omega⟩
                have hiL : i0 < L := by omega
                have HEq := hideS (fun (i : Nat) => mark_in (W := W) (rs := rs) (f := fst) (k := k) (i0 := i0) HOo.out HI.out HX.out (by omega) i)
                have hw0 : IntKind.i64.wrap (x - fst) = (i0 : Int) := by rw [IntKind.wrap_i64]; omega
                have hiL' : (i0 : Int) < (L : Int) := by omega
                clear hin
                go_wp2_with (go_at_call 190; refine (HDy.out _).mono ?_; rintro e w5 ⟨N5, rfl, hN5, hb5⟩; have HM5 := hideS (HM.out.step hb5); clear hb5; obtain rfl := hN5 _ rfl)
                have e0 := HM5.out.one.alm.c0
                have e8 := HM5.out.c8
                clear hN5
                go_quiet ((go_at_call 161; exact Calls.quiet_of_same (HMv.out _)))
                obtain ⟨w6, hw6⟩ : ∃ w6, w6 = w5.drewN nq := ⟨_, rfl⟩
                rw [← hw6]
                have HM6 : Hid (MK2 w A W (.slice (some ⟨b, off, none⟩) N c) fst lst bm L (fun i => mkK W rs Y (fst + i) k || mkT W r' Y (fst + i) t) b9 mv w6) := by rw [hw6]; exact HM5.out.drewN _
                clear hw6 e0 e8 HM5
                have e2 := HM6.out.one.alm.c2
                have e3 := HM6.out.one.alm.c3
                go_wp2_with fail
                go_quiet ((go_at_call 144; exact Calls.quiet_of_same (HBt.out _)))
                obtain ⟨w7, hw7⟩ : ∃ w7, w7 = w6.drewN nq := ⟨_, rfl⟩
                rw [← hw7]
                have HM7 : Hid (MK2 w A W (.slice (some ⟨b, off, none⟩) N c) fst lst bm L (fun i => mkK W rs Y (fst + i) k || mkT W r' Y (fst + i) t) b9 mv w7) := by rw [hw7]; exact HM6.out.drewN _
                clear hw7 e2 e3 HM6
                have e2 := HM7.out.one.alm.c2
                have e4 := HM7.out.one.alm.c4
                have em := HM7.out.one.row.cell (i := i0) hiL
                have ef := HM7.out.one.row.frozen i0
                go_wp2_with fail
                go_region
                have HM8 := hideS ((HM7.out.set i0).congr (fun i _ => HEq.out i))
                clear HM7 e2 e4 em ef
                go_wp2_with fail
                go_roundw
                case rel => exact ⟨t + 1, I + 1, by omega, by omega, by omega, rfl, by have := HI.out; show _ = _; omega, HM8.out.drewN 1⟩
                case measure => simp [intOf]; omega
              · rw [decide_eq_false hin] at HBt
                have HEq := hideS (fun (i : Nat) (hi : i < L) => mark_out (W := W) (rs := rs) (f := fst) (k := k) (L := L) HOo.out HI.out HX.out (by omega) i hi)
                clear hin
                go_wp2_with (go_at_call 190; refine (HDy.out _).mono ?_; rintro e w5 ⟨N5, rfl, hN5, hb5⟩; have HM5 := hideS (HM.out.step hb5); clear hb5; obtain rfl := hN5 _ rfl)
                have e0 := HM5.out.one.alm.c0
                have e8 := HM5.out.c8
                clear hN5
                go_quiet ((go_at_call 161; exact Calls.quiet_of_same (HMv.out _)))
                obtain ⟨w6, hw6⟩ : ∃ w6, w6 = w5.drewN nq := ⟨_, rfl⟩
                rw [← hw6]
                have HM6 : Hid (MK2 w A W (.slice (some ⟨b, off, none⟩) N c) fst lst bm L (fun i => mkK W rs Y (fst + i) k || mkT W r' Y (fst + i) t) b9 mv w6) := by rw [hw6]; exact HM5.out.drewN _
                clear hw6 e0 e8 HM5
                have e2 := HM6.out.one.alm.c2
                have e3 := HM6.out.one.alm.c3
                go_wp2_with fail
                go_quiet ((go_at_call 144; exact Calls.quiet_of_same (HBt.out _)))
                go_wp2_with fail
                go_roundw
                case rel => exact ⟨t + 1, I + 1, by omega, by omega, by omega, rfl, by have := HI.out; show _ = _; omega, (HM6.out.drewN _).congr (fun i hi => HEq.out i hi)⟩
                case measure => simp [intOf]; omega
          · have hIY : ¬ I ≤ Y + 1 := by have := HI.out; omega
            have HNk : Hid (MK w A W (.slice (some ⟨b, off, none⟩) N c) fst lst bm L (fun i => mkK W rs Y (fst + i) (k + 1)) wr) := by
              obtain rfl : t = 3 := by omega
              exact HM.out.one.congr (fun i _ => by show _ = (mkK W rs Y (fst + i) k || mkT W (rs.getD k rul0) Y (fst + i) 3); rw [HRk.out])
            go_wp2_with fail
            go_roundw
            case rel => exact ⟨k + 1, by omega, by go_num, HNk⟩
            case measure => simp [intOf]; omega
      · have HHo := hideS (fun wx => (holidayOf_any 4 mon day nth wd offs fr to mv wx (by omega) : Calls Tryz.prog 40 _ wx fun e w' => e = .returned (.iface 119 _) ∧ Below wx.heap.size wx w'))
        have HIn := hideS (fun (y : Int) (wx : World) => in4_any mon day nth wd offs fr to mv y wx hfc.1 hfc.2)
        rw [← hr'] at HIn
        clear hr' hfc
        go_wp2_with (go_at_call 40; refine (HHo.out _).mono ?_; rintro e w4 ⟨rfl, hb4⟩)
        have HM4 := hideS (HKb.out.step hb4)
        clear hb4 HKb HHo
        generalize wr.heap.size = b9 at *
        go_loopw [11] (fun y w2 => ∃ (t : Nat) (I : Int), t ≤ 3 ∧ 1899 ≤ I ∧ I ≤ 2201 ∧ y = .int .i64 I ∧ Hid (I = Y - 1 + t) ∧ Hid (MK2 w A W (.slice (some ⟨b, off, none⟩) N c) fst lst bm L (fun i => mkK W rs Y (fst + i) k || mkT W r' Y (fst + i) t) b9 mv w2)) (fun y _ => (Y + 2 - intOf y).toNat)
        case atStart => exact ⟨0, Y - 1, by omega, by omega, by omega, rfl, by show _ = _; omega, HM4.out.congr (fun i _ => (Bool.or_false _).symm)⟩
        case round =>
          clear HM4
          obtain ⟨t, I, ht, hI0, hI1, rfl, HI, HM⟩ := hrel
          by_cases ht3 : t < 3
          · have hIY : I ≤ Y + 1 := by have := HI.out; omega
            have HDy := hideS (fun wx => HIn.out I wx)
            obtain ⟨o, ho⟩ : ∃ o, givO r' I = o := ⟨_, rfl⟩
            rw [ho] at HDy
            have HOo := hideS ho
            clear ho
            rcases o with _ | g
            · have HEq := hideS (fun (i : Nat) => mark_none (W := W) (rs := rs) (f := fst) (k := k) HOo.out HI.out i)
              dsimp only [Option.isSome] at HDy
              go_wp2_with (go_at_call 194; refine (HDy.out _).mono ?_; rintro e w5 ⟨N5, rfl, _, hb5⟩; have HM5 := hideS (HM.out.step hb5); clear hb5)
              go_roundw
              case rel => exact ⟨t + 1, I + 1, by omega, by omega, by omega, rfl, by have := HI.out; show _ = _; omega, HM5.out.congr (fun i _ => HEq.out i)⟩
              case measure => simp [intOf]; omega
            · have HRg := giv_rng HF.out HOo.out
              obtain ⟨g0, g1⟩ := HRg
              obtain ⟨u, dd, hu⟩ := ups_ex HH.out.w0 HH.out.w1 g
              have HMv := hideS (fun wx => moved_any W g mv u dd wx g0 (by omega) hu)
              have HX : Hid (mvI W g r'.mv = movI W g mv u dd) := by show _ = _; rw [HMr.out, mv_eq hu]
              have hx0 : g - 6 ≤ movI W g mv u dd ∧ movI W g mv u dd ≤ g + 6 := by
                have := hu.ub; have := hu.db
                unfold movI; split
                · omega
                · split <;> omega
              obtain ⟨x, hx⟩ : ∃ x, movI W g mv u dd = x := ⟨_, rfl⟩
              rw [hx] at HMv HX hx0
              obtain ⟨x0, x1⟩ := hx0
              clear hx hu
              dsimp only [Option.isSome] at HDy
              have HBt := hideS (fun wx => betweenQ_any x fst lst wx)
              by_cases hin : fst ≤ x ∧ x ≤ lst
              · rw [decide_eq_true hin] at HBt
                obtain ⟨i0, hi0⟩ : ∃ i0 : Nat, x - fst = i0 := ⟨(x - fst).toNat, by omega⟩
                have hiL : i0 < L := by omega
                have HEq := hideS (fun (i : Nat) => mark_in (W := W) (rs := rs) (f := fst) (k := k) (i0 := i0) HOo.out HI.out HX.out (by omega) i)
                have hw0 : IntKind.i64.wrap (x - fst) = (i0 : Int) := by rw [IntKind.wrap_i64]; omega
                have hiL' : (i0 : Int) < (L : Int) := by omega
                clear hin
                go_wp2_with (go_at_call 194; refine (HDy.out _).mono ?_; rintro e w5 ⟨N5, rfl, hN5, hb5⟩; have HM5 := hideS (HM.out.step hb5); clear hb5; obtain rfl := hN5 _ rfl)
                have e0 := HM5.out.one.alm.c0
                have e8 := HM5.out.c8
                clear hN5
                go_quiet ((go_at_call 161; exact Calls.quiet_of_same (HMv.out _)))
                obtain ⟨w6, hw6⟩ : ∃ w6, w6 = w5.drewN nq := ⟨_, rfl⟩
                rw [← hw6]
                have HM6 : Hid (MK2 w A W (.slice (some ⟨b, off, none⟩) N c) fst lst bm L (fun i => mkK W rs Y (fst + i) k || mkT W r' Y (fst + i) t) b9 mv w6) := by rw [hw6]; exact HM5.out.drewN _
                clear hw6 e0 e8 HM5
                have e2 := HM6.out.one.alm.c2
                have e3 := HM6.out.one.alm.c3
                go_wp2_with fail
                go_quiet ((go_at_call 144; exact Calls.quiet_of_same (HBt.out _)))
                obtain ⟨w7, hw7⟩ : ∃ w7, w7 = w6.drewN nq := ⟨_, rfl⟩
                rw [← hw7]
                have HM7 : Hid (MK2 w A W (.slice (some ⟨b, off, none⟩) N c) fst lst bm L (fun i => mkK W rs Y (fst + i) k || mkT W r' Y (fst + i) t) b9 mv w7) := by rw [hw7]; exact HM6.out.drewN _
                clear hw7 e2 e3 HM6
                have e2 := HM7.out.one.alm.c2
                have e4 := HM7.out.one.alm.c4
                have em := HM7.out.one.row.cell (i := i0) hiL
                have ef := HM7.out.one.row.frozen i0
                go_wp2_with fail
                go_region
                have HM8 := hideS ((HM7.out.set i0).congr (fun i _ => HEq.out i))
                clear HM7 e2 e4 em ef
                go_wp2_with fail
                go_roundw
                case rel => exact ⟨t + 1, I + 1, by omega, by omega, by omega, rfl, by have := HI.out; show _ = _; omega, HM8.out.drewN 1⟩
                case measure => simp [intOf]; omega
              · rw [decide_eq_false hin] at HBt
                have HEq := hideS (fun (i : Nat) (hi : i < L) => mark_out (W := W) (rs := rs) (f := fst) (k := k) (L := L) HOo.out HI.out HX.out (by omega) i hi)
                clear hin
                go_wp2_with (go_at_call 194; refine (HDy.out _).mono ?_; rintro e w5 ⟨N5, rfl, hN5, hb5⟩; have HM5 := hideS (HM.out.step hb5); clear hb5; obtain rfl := hN5 _ rfl)
                have e0 := HM5.out.one.alm.c0
                have e8 := HM5.out.c8
                clear hN5
                go_quiet ((go_at_call 161; exact Calls.quiet_of_same (HMv.out _)))
                obtain ⟨w6, hw6⟩ : ∃ w6, w6 = w5.drewN nq := ⟨_, rfl⟩
                rw [← hw6]
                have HM6 : Hid (MK2 w A W (.slice (some ⟨b, off, none⟩) N c) fst lst bm L (fun i => mkK W rs Y (fst + i) k || mkT W r' Y (fst + i) t) b9 mv w6) := by rw [hw6]; exact HM5.out.drewN _
                clear hw6 e0 e8 HM5
                have e2 := HM6.out.one.alm.c2
                have e3 := HM6.out.one.alm.c3
                go_wp2_with fail
                go_quiet ((go_at_call 144; exact Calls.quiet_of_same (HBt.out _)))
                go_wp2_with fail
                go_roundw
                case rel => exact ⟨t + 1, I + 1, by omega, by omega, by omega, rfl, by have := HI.out; show _ = _; omega, (HM6.out.drewN _).congr (fun i hi => HEq.out i hi)⟩
                case measure => simp [intOf]; omega
          · have hIY : ¬ I ≤ Y + 1 := by have := HI.out; omega
            have HNk : Hid (MK w A W (.slice (some ⟨b, off, none⟩) N c) fst lst bm L (fun i => mkK W rs Y (fst + i) (k + 1)) wr) := by
              obtain rfl : t = 3 := by omega
              exact HM.out.one.congr (fun i _ => by show _ = (mkK W rs Y (fst + i) k || mkT W (rs.getD k rul0) Y (fst + i) 3); rw [HRk.out])
            go_wp2_with fail
            go_roundw
            case rel => exact ⟨k + 1, by omega, by go_num, HNk⟩
            case measure => simp [intOf]; omega
    · have hge : ¬ (k : Int) < N := by omega
      obtain rfl : k = N := by omega
      have HE : Hid (MK w A W (.slice p k c) fst lst bm L (fun i => holB W rs (fst + i) Y) wr) := HMk.out.congr (fun i hi => by
        obtain ⟨y0, y1, hf, hl⟩ := HYr.out
        rw [← mkK_hol HH.out.w0 HH.out.w1 HH.out.fit (yr_of y0 y1 (by omega) (by omega)), HN.out])
      go_wp2_with fail
      go_end0
      exact ⟨rfl, bm, L, by rw [← HYr.out.2.2.1]; exact HL.out, HE.out⟩
end Go.Proofs.YtphnainibdepbaaGreat
namespace Go.Proofs.YtphnainibdepbaaGreat
open Go.RowKit

theorem MK.base {w wr : World} {A : Nat} {W : Int} {v : Value} {f l : Int} {bm L : Nat} {F : Nat → Bool} (h : MK w A W v f l bm L F wr) : MK wr A W v f l bm L F wr := ⟨h.alm, h.row, Below.refl _ _, h.lt⟩
inductive AlmS (w : World) (A : Nat) (W : Int) (v : Value) (rs : List Rul) : Prop where
  | none : AlmC w A W v 0 (-1) (.slice none 0 0) → AlmS w A W v rs
  | year (Y : Int) (bm L : Nat) : 1900 ≤ Y → Y ≤ 2199 → (L : Int) = nyI (Y + 1) - nyI Y → MK w A W v (nyI Y) (nyI (Y + 1) - 1) bm L (fun i => holB W rs (nyI Y + i) Y) w → AlmS w A W v rs
theorem AlmS.step {w w' : World} {A : Nat} {W : Int} {v : Value} {rs : List Rul} (h : AlmS w A W v rs) (hb : Below w.heap.size w w') : AlmS w' A W v rs := by
  cases h with
  | none h => exact .none (h.below hb h.lt)
  | year Y bm L a b c h => exact .year Y bm L a b c (h.step hb).base
theorem AlmS.lt {w : World} {A : Nat} {W : Int} {v : Value} {rs : List Rul} (h : AlmS w A W v rs) : A < w.heap.size := by
  cases h with
  | none h => exact h.lt
  | year Y bm L a b c h => exact h.alm.lt
theorem below_dNq (w : World) (q : Nat) : Below w.heap.size w (w.drewN q) := below_drewN' (Below.refl _ _)
theorem RSrc.low {w w' : World} {p : Option Addr} {b off A : Nat} {rs : List Rul} (h : RSrc w p b off rs) (hb : Below A w w') (hA : 0 < rs.length → b < A) : RSrc w' p b off rs :=
  ⟨h.at_, fun hx => Nat.lt_of_lt_of_le (h.lt hx) hb.size, fun j hj => (h.cell j hj).below hb (hA (by omega))⟩

set_option maxHeartbeats 1600000 in
theorem hol_in (A : Nat) (W n f l : Int) (v : Value) (bm L i0 : Nat) (R : Bool) (F : Nat → Bool) (w : World) (hM : MK w A W v f l bm L F w) (h0 : f ≤ n) (h1 : n ≤ l) (hi : n - f = i0) (hiL : i0 < L) (hR : F i0 = R) (hf : 0 ≤ f) (hl : l ≤ 1000000) :
    Calls Tryz.prog 146 #[.pointer (some ⟨A, 0, none⟩), .int .i64 n] w fun e w' => e = .returned (.bool R) ∧ ∃ q, w' = w.drewN q := by
  have HBt := hideS (fun wx => betweenQ_any n f l wx)
  rw [decide_eq_true ⟨h0, h1⟩] at HBt
  have HM := hideS hM
  have c2 := hM.alm.c2
  have c3 := hM.alm.c3
  have hw0 : IntKind.i64.wrap (n - f) = (i0 : Int) := by rw [IntKind.wrap_i64]; omega
  have hiL' : (i0 : Int) < (L : Int) := by omega
  have HR := hideS hR
  clear hM hR
  go_enter Tryz.func146, Tryz.ntmps146
  go_wp2_with fail
  go_quiet ((go_at_call 144; exact Calls.quiet_of_same (HBt.out _)))
  obtain ⟨w1, hw1⟩ : ∃ w1, w1 = w.drewN nq := ⟨_, rfl⟩
  rw [← hw1]
  have HM1 : Hid (MK w A W v f l bm L F w1) := by rw [hw1]; exact HM.out.drewN _
  have HQ := hideS hw1
  clear hw1 c2 c3 HM
  have e2 := HM1.out.alm.c2
  have e4 := HM1.out.alm.c4
  have em := HM1.out.row.cell (i := i0) hiL
  rw [HR.out] at em
  go_wp2_with fail
  go_region
  go_wp2_with fail
  go_ret
  exact ⟨rfl, nq + 1, by rw [HQ.out]; exact World.drewN_drewN _ _ 1⟩

set_option maxHeartbeats 1600000 in
theorem hol_out (A : Nat) (W n f l fst lst : Int) (v mm : Value) (i0 L : Nat) (R : Bool) (F : Nat → Bool) (w : World) (hA : AlmC w A W v f l mm) (hno : ¬ (f ≤ n ∧ n ≤ l))
    (HMk : Hid (∀ w1, Below w.heap.size w w1 → AlmC w1 A W v f l mm → Calls Tryz.prog 155 #[.pointer (some ⟨A, 0, none⟩), .int .i64 n] w1 fun e w' => e = .returned (.tuple #[]) ∧ ∃ bm, MK w1 A W v fst lst bm L F w'))
    (h0 : fst ≤ n) (h1 : n ≤ lst) (hi : n - fst = i0) (hiL : i0 < L) (hR : F i0 = R) (hf : 0 ≤ fst) (hl : lst ≤ 1000000) :
    Calls Tryz.prog 146 #[.pointer (some ⟨A, 0, none⟩), .int .i64 n] w fun e w' => e = .returned (.bool R) ∧ ∃ bm, MK w' A W v fst lst bm L F w' ∧ Below A w w' := by
  have HBt := hideS (fun wx => betweenQ_any n f l wx)
  rw [decide_eq_false hno] at HBt
  have HA := hideS hA
  have c2 := hA.c2
  have c3 := hA.c3
  have hw0 : IntKind.i64.wrap (n - fst) = (i0 : Int) := by rw [IntKind.wrap_i64]; omega
  have hiL' : (i0 : Int) < (L : Int) := by omega
  have HR := hideS hR
  clear hA hR hno
  go_enter Tryz.func146, Tryz.ntmps146
  go_wp2_with fail
  go_quiet ((go_at_call 144; exact Calls.quiet_of_same (HBt.out _)))
  obtain ⟨w1, hw1⟩ : ∃ w1, w1 = w.drewN nq := ⟨_, rfl⟩
  rw [← hw1]
  have HB1 : Hid (Below w.heap.size w w1) := by rw [hw1]; exact below_dNq _ _
  have HA1 := hideS (HA.out.below HB1.out HA.out.lt)
  have HBA : Hid (Below A w w1) := HB1.out.mono (Nat.le_of_lt HA.out.lt)
  clear hw1 c2 c3 HA
  go_wp2_with (go_at_call 155; refine (HMk.out _ HB1.out HA1.out).mono ?_; rintro e w2 ⟨rfl, bm, hM⟩)
  have HM1 := hideS hM
  clear hM
  have e2 := HM1.out.alm.c2
  have e4 := HM1.out.alm.c4
  have em := HM1.out.row.cell (i := i0) hiL
  rw [HR.out] at em
  go_region
  go_wp2_with fail
  go_ret
  exact ⟨rfl, bm, (HM1.out.drewN 1).base, HBA.out.trans (HM1.out.drewN 1).low⟩

structure AlmE (A : Nat) (W : Int) (p : Option Addr) (b off c : Nat) (rs : List Rul) (w : World) : Prop where
  ok : OkC W rs
  src : RSrc w p b off rs
  low : 0 < rs.length → b < A
  st : AlmS w A W (.slice p rs.length c) rs
theorem AlmE.step {w w' : World} {A : Nat} {W : Int} {p : Option Addr} {b off c : Nat} {rs : List Rul} (h : AlmE A W p b off c rs w) (hb : Below w.heap.size w w') : AlmE A W p b off c rs w' :=
  ⟨h.ok, h.src.below hb, h.low, h.st.step hb⟩

theorem hol_any (A : Nat) (W n : Int) (p : Option Addr) (b off c : Nat) (rs : List Rul) (w : World) (h : AlmE A W p b off c rs w) (hn : isDayP n) :
    Calls Tryz.prog 146 #[.pointer (some ⟨A, 0, none⟩), .int .i64 n] w fun e w' => e = .returned (.bool (holB W rs n (yrI n))) ∧ AlmE A W p b off c rs w' ∧ Below A w w' := by
  obtain ⟨y0, y1, n0, n1⟩ := yr_in hn
  obtain ⟨y, m, d, hd⟩ := isD_ex hn.1 hn.2
  have hY := yr_eq hd
  rw [hY] at y0 y1 n0 n1 ⊢
  have hfst : 0 ≤ nyI y := by have := ny_lo y0; omega
  have hlst : nyI (y + 1) - 1 ≤ 1000000 := by have := ny_hi (y := y + 1) (by omega); omega
  have mark : ∀ f l mm, AlmC w A W (.slice p rs.length c) f l mm → ¬ (f ≤ n ∧ n ≤ l) → Calls Tryz.prog 146 #[.pointer (some ⟨A, 0, none⟩), .int .i64 n] w fun e w' => e = .returned (.bool (holB W rs n y)) ∧ AlmE A W p b off c rs w' ∧ Below A w w' := fun f l mm hC hno => by
    obtain ⟨L, hL⟩ : ∃ L : Nat, (L : Int) = nyI (y + 1) - nyI y := ⟨(nyI (y + 1) - nyI y).toNat, by omega⟩
    refine (hol_out A W n f l (nyI y) (nyI (y + 1) - 1) _ mm (n - nyI y).toNat L _ (fun i => holB W rs (nyI y + i) y) w hC hno (fun w1 hb hC1 => ?_) n0 (by omega) (by omega) (by omega) rfl hfst hlst).mono ?_
    · refine (mark_any A W n y m d p b off c rs f l mm w1 h.ok (h.src.below hb) h.low hC1 hd).mono ?_
      rintro e w' ⟨he, bm, L', hL', hM⟩
      obtain rfl : L' = L := by omega
      exact ⟨he, bm, hM⟩
    · rintro e w' ⟨he, bm, hM, hb⟩
      refine ⟨?_, ⟨h.ok, h.src.low hb h.low, h.low, .year y bm L y0 y1 hL hM⟩, hb⟩
      rw [he, show nyI y + (((n - nyI y).toNat : Nat) : Int) = n by omega]
  rcases h.st with hC | ⟨Y, bm, L, Y0, Y1, hL, hM⟩
  · exact mark _ _ _ hC (fun a => by omega)
  · by_cases hin : nyI Y ≤ n ∧ n ≤ nyI (Y + 1) - 1
    · have hYy : Y = y := by rw [← hY]; exact (yr_of Y0 Y1 hin.1 (by omega)).symm
      subst hYy
      refine (hol_in A W n (nyI Y) (nyI (Y + 1) - 1) _ bm L (n - nyI Y).toNat _ _ w hM n0 (by omega) (by omega) (by omega) rfl hfst hlst).mono ?_
      rintro e w' ⟨he, q, rfl⟩
      refine ⟨?_, h.step (below_dNq _ _), (below_dNq _ _).mono (Nat.le_of_lt h.st.lt)⟩
      rw [he, show nyI Y + (((n - nyI Y).toNat : Nat) : Int) = n by omega]
    · exact mark _ _ _ hM.alm hin

set_option maxHeartbeats 800000 in
theorem open_any (A : Nat) (W n : Int) (p : Option Addr) (b off c : Nat) (rs : List Rul) (w : World) (h : AlmE A W p b off c rs w) (hn : isDayP n) :
    Calls Tryz.prog 133 #[.pointer (some ⟨A, 0, none⟩), .int .i64 n] w fun e w' => e = .returned (.bool (opB W rs n)) ∧ AlmE A W p b off c rs w' ∧ Below A w w' := by
  have HW := hideS (fun wx => isWeekend_any W n wx (by have := hn.1; omega) (by have := hn.2; omega))
  have HH := hideS (hol_any A W n p b off c rs w h hn)
  have c0 : w.cell? ⟨A, 0, none⟩ = some (.int .i64 W) := by
    rcases h.st with hC | ⟨Y, bm, L, Y0, Y1, hL, hM⟩
    · exact hC.c0
    · exact hM.alm.c0
  unfold opB
  have HE := hideS h
  clear h hn
  generalize holB W rs n (yrI n) = H at *
  generalize offB W n = F at *
  cases F
  · go_enter Tryz.func133, Tryz.ntmps133
    go_wp2_with (first | (go_at_call 145; refine (turnedQ (HW.out _)).mono ?_; rintro e w1 ⟨rfl, rfl⟩) | (go_at_call 146; refine HH.out.mono ?_; rintro e w1 ⟨rfl, hE, hb⟩))
    go_ret
    exact ⟨rfl, hE, hb⟩
  · go_enter Tryz.func133, Tryz.ntmps133
    go_wp2_with (go_at_call 145; refine (turnedQ (HW.out _)).mono ?_; rintro e w1 ⟨rfl, rfl⟩)
    go_ret
    exact ⟨rfl, HE.out, Below.refl _ _⟩
end Go.Proofs.YtphnainibdepbaaGreat
namespace Go.Proofs.YtphnainibdepbaaGreat
open Go.RowKit

def OpH (A : Nat) (op : Int → Bool) (E : World → Prop) : Prop :=
  ∀ x w, isDayP x → E w → Calls Tryz.prog 133 #[.pointer (some ⟨A, 0, none⟩), .int .i64 x] w fun e w' => e = .returned (.bool (op x)) ∧ E w' ∧ Below A w w'
theorem opH (A : Nat) (W : Int) (p : Option Addr) (b off c : Nat) (rs : List Rul) : OpH A (opB W rs) (AlmE A W p b off c rs) :=
  fun x w hx hE => open_any A W x p b off c rs w hE hx

end Go.Proofs.YtphnainibdepbaaGreat
