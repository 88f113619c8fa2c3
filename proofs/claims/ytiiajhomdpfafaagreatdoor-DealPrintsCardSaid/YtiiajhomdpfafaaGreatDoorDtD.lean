/- The document's text of a term of a tree. -/
import Derived.Test.YtiiajhomdpfafaaGreatDoorDtC
namespace Go.Proofs.YtiiajhomdpfafaaGreatDoor
open Go.RowKit

section
variable {P : Program} {md : Region.Mode} {ops : Array Oper} {Q : Exit → Act → World → Prop}
theorem anyL_mono {S S2 : World → Prop} {L : Nat → Bool} (h : ∀ w, S2 w → S w) : ∀ {f : Nat} {l : Array Bool} {a : Act} {w : World}, AnyL P md ops Q S2 L f l a w → AnyL P md ops Q S L f l a w
  | 0, _, _, _, H => H
  | _ + 1, _, _, _, H => ⟨H.1, fun i hi => wpOp_mono (fun _ _ k => ⟨fun hL => h _ (k.1 hL), anyL_mono h k.2⟩) (H.2 i hi)⟩
end
theorem TDS.drew {w : World} {p : Option Addr} {b off : Nat} {ts : List Trm} (h : TDS w p b off ts) : TDS w.drew p b off ts := ⟨h.at_, h.lt, h.c0, h.c1, h.c2, h.c3, h.c4, h.c5, h.c6, h.c7, h.c8, h.c9, h.c10⟩
theorem jn_2 (a b : ByteArray) : jnT [a, b] = a ++ spB ++ b := by
  have := jnT_snoc a [] b
  rw [jnT_one] at this
  exact this
theorem jn_s (a : ByteArray) (l : List ByteArray) (x r : ByteArray) (h : jnT (a :: l) = r) : jnT (a :: (l ++ [x])) = r ++ spB ++ x := by
  rw [← h, ← jnT_snoc]; rfl
set_option maxRecDepth 20000 in
set_option maxHeartbeats 51200000 in
theorem words_step {dy : Int → ByteArray} (hd : DyOk dy) (ts : List Trm) (n : Nat) (p : Option Addr) (b off c i : Nat) (hi : i < n) (hn : ts.length = n) (hn2 : n ≤ 1024) (hu : TrU (ts.getD i trm0)) (hx : ∀ j ≤ i, TxO dy ts j)
    (HR : Hid (∀ j : Nat, j < i → ∀ wx, TDS wx p b off ts → Calls Tryz.prog 23 #[.slice p n c, .int .i64 (j : Int)] wx fun e w' => e = .returned (.string (WT dy ts j)) ∧ Below wx.heap.size wx w')) (w : World) (hs : TDS w p b off ts) :
    Calls Tryz.prog 23 #[.slice p n c, .int .i64 (i : Int)] w fun e w' => e = .returned (.string (WT dy ts i)) ∧ Below w.heap.size w w' := by
  have hi' : i < ts.length := by omega
  obtain rfl := hs.at_ (by omega)
  have c0 := hs.c0 i hi'
  have c1 := hs.c1 i hi'
  have c2 := hs.c2 i hi'
  have c3 := hs.c3 i hi'
  have c4 := hs.c4 i hi'
  have c5 := hs.c5 i hi'
  have c6 := hs.c6 i hi'
  have c7 := hs.c7 i hi'
  have c8 := hs.c8 i hi'
  have c9 := hs.c9 i hi'
  have c10 := hs.c10 i hi'
  have hbl : b < w.heap.size := hs.lt (by omega)
  have hbn := Nat.ne_of_lt hbl
  have hxi := hx i (Nat.le_refl _)
  have hW := WT_eq dy ts i hxi.pt
  have hpt := hxi.pt
  have hf : fldB (ts.getD i trm0) = true := by have := hxi.fit; unfold fitT at this; simp only [Bool.and_eq_true] at this; exact this.1
  have hwd := wd_size (ts.getD i trm0).kind
  have hszW : ∀ q < ptN (ts.getD i trm0).kind, (WT dy ts (prt (ts.getD i trm0) q).toNat).size ≤ 2000000 := fun q hq => by
    have h1 := hxi.pt q hq
    have := (hx (prt (ts.getD i trm0) q).toNat (by omega)).sz
    omega
  have HWq : Hid (∀ q < ptN (ts.getD i trm0).kind, ∀ wx, TDS wx (some ⟨b, off, none⟩) b off ts → Calls Tryz.prog 23 #[.slice (some ⟨b, off, none⟩) n c, .int .i64 (prt (ts.getD i trm0) q)] wx fun e w' => e = .returned (.string (WT dy ts (prt (ts.getD i trm0) q).toNat)) ∧ Below wx.heap.size wx w') := fun q hq wx hwx => by
    have h1 := hxi.pt q hq
    have := HR.out (prt (ts.getD i trm0) q).toNat (by omega) wx hwx
    rw [Int.toNat_of_nonneg h1.1] at this
    exact this
  have HTs := hidD hs
  generalize ht : ts.getD i trm0 = t at *
  clear ht
  obtain ⟨kr1, kr2⟩ := fld_rng hf
  have i1 : (0 : Int) ≤ (i : Int) := by omega
  have i2 : (i : Int) < (n : Int) := by omega
  have hst := store_fltD
  have HS1 : Hid (TrDB (w.alloc (.cells #[.int .i64 t.kind, .int .i64 t.a, .int .i64 t.b, .int .u64 (t.x : Int), .int .u64 (t.y : Int), .int .i64 t.day, .int .i64 t.to, .int .i64 t.cur, .int .i64 t.count, .int .i64 t.n, .int .i64 t.months] 51)) w.heap.size t ∧ TDS (w.alloc (.cells #[.int .i64 t.kind, .int .i64 t.a, .int .i64 t.b, .int .u64 (t.x : Int), .int .u64 (t.y : Int), .int .i64 t.day, .int .i64 t.to, .int .i64 t.cur, .int .i64 t.count, .int .i64 t.n, .int .i64 t.months] 51)) (some ⟨b, off, none⟩) b off ts) := ⟨heap_alloc_new _ _, hs.below (al_bel _ _)⟩
  have HB1 := hidD (al_bel w (.cells #[.int .i64 t.kind, .int .i64 t.a, .int .i64 t.b, .int .u64 (t.x : Int), .int .u64 (t.y : Int), .int .i64 t.day, .int .i64 t.to, .int .i64 t.cur, .int .i64 t.count, .int .i64 t.n, .int .i64 t.months] 51))
  obtain ⟨jk, hjk, hjk8, _⟩ := kds_cell w kr1 kr2
  have HKc : Hid (∀ wx : World, (wx.alloc (.cells kdsV 9)).cell? ⟨wx.heap.size, jk, none⟩ = some (.string (wdK t.kind))) := fun wx => by
    obtain ⟨j, hj, _, hc⟩ := kds_cell wx kr1 kr2
    obtain rfl : j = jk := by omega
    exact hc
  have j1 : (0 : Int) ≤ (jk : Int) := by omega
  have j2 : (jk : Int) < 8 := by omega
  have HK := hidD (And.intro hf (And.intro hu (And.intro hW (And.intro hszW (And.intro kr1 (And.intro kr2 hpt))))))
  clear hpt hs hi' hxi hf hu hW hszW hx HR
  go_enter Tryz.func23, Tryz.ntmps23
  go_wp2_with fail
  generalize hw1 : World.alloc w _ = w1 at HS1 HB1 ⊢
  clear hw1 c0 c1 c2 c3 c4 c5 c6 c7 c8 c9 c10
  obtain ⟨g, hg⟩ : ∃ g, w.heap.size = g := ⟨_, rfl⟩
  rw [hg] at HS1 ⊢
  generalize hp : (some ⟨b, off, none⟩ : Option Addr) = p at *
  refine wp_region_late (fun xw => TrDB xw g t ∧ TDS xw p b off ts) (fun _ => false) (by kernel_rfl) ?_
  have hS : TrDB w1.drew g t ∧ TDS w1.drew p b off ts := ⟨HS1.out.1, HS1.out.2.drew⟩
  refine anyL_take 1 (.pointer (some ⟨g, 0, none⟩)) rfl (by kernel_rfl) (by kernel_rfl) (by kernel_rfl) (by kernel_rfl) (by kernel_rfl) (fun _ _ _ h => h) (by rfl) hS (fun wx hS => by go_simp) ?_
  simp only [Act.put]
  refine anyL_take 2 (.int .i64 t.kind) rfl (by kernel_rfl) (by kernel_rfl) (by kernel_rfl) (by kernel_rfl) (by kernel_rfl) (fun _ _ _ h => h) (by rfl) hS (fun wx hS => by have c : wx.cell? ⟨g, 0, none⟩ = some (.int .i64 t.kind) := hS.1.c 0; go_simp) ?_
  simp only [Act.put]
  refine anyL_take 3 (.int .i64 (jk : Int)) rfl (by kernel_rfl) (by kernel_rfl) (by kernel_rfl) (by kernel_rfl) (by kernel_rfl) (fun _ _ _ h => h) (by rfl) hS (fun wx hS => by go_simp; rw [IntKind.wrap_i64]; omega) ?_
  simp only [Act.put]
  refine anyL_one (i := 0) (by kernel_rfl) ?_
  refine wpOp_step rfl (fun K1 hK1 => ?_)
  go_simp
  refine (r17kinds_any _).mono ?_
  rintro e w2 ⟨rfl, hw2⟩
  have hb2 := al_bel w1.drew (.cells kdsV 9)
  rw [← hw2] at hb2
  have ck : w2.cell? ⟨w1.heap.size, jk, none⟩ = some (.string (wdK t.kind)) := by rw [hw2]; exact HKc.out w1.drew
  have hS2 : TrDB w2 g t ∧ TDS w2 p b off ts := ⟨hS.1.below hb2, hS.2.below hb2⟩
  have HBw : Hid (Below w.heap.size w w2) := (show Below w.heap.size w w1.drew from ⟨HB1.out.os, HB1.out.tape, HB1.out.output, HB1.out.size, HB1.out.block⟩).trans (hb2.mono HB1.out.size)
  clear hw2 hb2 hS HS1 HB1
  refine hK1 _ _ ⟨fun _ => hS2, ?_⟩
  clear hK1
  refine anyL_one (i := 4) (by kernel_rfl) ?_
  refine wpOp_step rfl (fun K2 hK2 => ?_)
  go_simp
  refine hK2 _ _ ⟨fun _ => hS2, ?_⟩
  clear hK2
  refine anyL_one (i := 5) (by kernel_rfl) ?_
  refine wpOp_step rfl (fun K3 hK3 => ?_)
  go_simp
  refine hK3 _ _ ⟨fun _ => hS2, ?_⟩
  clear hK3
  refine anyL_one (i := 6) (by kernel_rfl) ?_
  refine wpOp_step rfl (fun K4 hK4 => ?_)
  go_simp
  refine hK4 _ _ ⟨fun _ => hS2, ?_⟩
  clear hK4
  refine anyL_done (by kernel_rfl) ?_
  have HS := hidD hS2
  have q0 : w2.cell? ⟨g, 0, none⟩ = some (.int .i64 t.kind) := hS2.1.c 0
  have q1 : w2.cell? ⟨g, 1, none⟩ = some (.int .i64 t.a) := hS2.1.c 1
  clear ck hS2 HKc
  obtain ⟨s0, hs0⟩ : ∃ s, wdK t.kind = s := ⟨_, rfl⟩
  have HK2 := hidD hs0
  rw [hs0] at hwd ⊢
  clear hs0
  obtain ⟨hf, hu, hW, hsz, kr1, kr2, hpt⟩ := HK.out
  rw [HK2.out] at hW
  clear HK
  rcases (show t.kind = 1 ∨ t.kind = 2 ∨ t.kind = 3 ∨ t.kind = 4 ∨ t.kind = 5 ∨ t.kind = 6 ∨ t.kind = 7 ∨ t.kind = 8 by omega) with hk | hk | hk | hk | hk | hk | hk | hk
  · have e1 : ssG dy t = [] := by unfold ssG; rw [if_neg (by omega), if_neg (by omega), if_neg (by omega), if_neg (by omega), if_neg (by omega)]
    have e2 : ptN t.kind = 0 := by rw [hk]; rfl
    have e3 : ptT (WT dy ts) t 0 = [] := rfl
    rw [e1, e2, e3] at hW
    have HF : Hid (WT dy ts i = s0) := hW.trans (jnT_one s0)
    have HOb := hidD (And.intro hf hu)
    clear hf hu hW hsz hpt HWq e1 e2 e3
    rw [hk] at q0
    have HE := HF
    clear HF
    go_wp2_with fail
    go_ret
    exact ⟨by rw [HE.out]; rfl, HBw.out⟩
  · obtain ⟨f1, f2, f3⟩ := fld2 hf hk
    have e1 : ssG dy t = [hxB17 t.x, itB17 t.cur, dy t.day] := by unfold ssG; rw [if_pos hk]
    have e2 : ptN t.kind = 0 := by rw [hk]; rfl
    have e3 : ptT (WT dy ts) t 0 = [] := rfl
    rw [e1, e2, e3] at hW
    have HF : Hid (WT dy ts i = (((s0 ++ spB ++ hxB17 t.x) ++ spB ++ itB17 t.cur) ++ spB ++ dy t.day)) := hW.trans (jn_s s0 [hxB17 t.x, itB17 t.cur] (dy t.day) _ (jn_s s0 [hxB17 t.x] (itB17 t.cur) _ (jn_2 s0 (hxB17 t.x))))
    have HX3 : Hid (∀ wx, Calls Tryz.prog 60 #[.int .u64 (t.x : Int)] wx fun e w' => e = .returned (.string (hxB17 t.x)) ∧ Below wx.heap.size wx w') := fun wx => r17hex_any t.x wx hu.x f1
    have HNcur : Hid (∀ wx, Calls Tryz.prog 61 #[.int .i64 t.cur] wx fun e w' => e = .returned (.string (itB17 t.cur)) ∧ Below wx.heap.size wx w') := fun wx => r17whole_any t.cur wx (by omega) (by omega)
    have HDday : Hid (∀ wx, Calls Tryz.prog 62 #[.int .i64 t.day] wx fun e w' => e = .returned (.string (dy t.day)) ∧ Below wx.heap.size wx w') := fun wx => r17date_any hd t.day wx f3.1 f3.2
    have z_x := hx_size f1
    have z_cur := it_size (n := t.cur) (by omega) (by omega)
    have z_day := dy_size hd f3.1 f3.2
    have HOb := hidD (And.intro hf hu)
    clear hf hu hW hsz hpt HWq e1 e2 e3
    generalize hxB17 t.x = y0 at *
    generalize itB17 t.cur = y1 at *
    generalize dy t.day = y2 at *
    rw [hk] at q0
    go_wp2_with fail
    obtain ⟨a0, ha0⟩ : ∃ r, s0 ++ (⟨#[32]⟩ : ByteArray) = r := ⟨_, rfl⟩
    have za0 : a0.size = s0.size + 1 := by rw [← ha0, ByteArray.size_append]; rfl
    obtain ⟨b0, hb0⟩ : ∃ r, a0 ++ y0 = r := ⟨_, rfl⟩
    have zb0 : b0.size = a0.size + y0.size := by rw [← hb0, ByteArray.size_append]
    obtain ⟨a1, ha1⟩ : ∃ r, b0 ++ (⟨#[32]⟩ : ByteArray) = r := ⟨_, rfl⟩
    have za1 : a1.size = b0.size + 1 := by rw [← ha1, ByteArray.size_append]; rfl
    obtain ⟨b1, hb1⟩ : ∃ r, a1 ++ y1 = r := ⟨_, rfl⟩
    have zb1 : b1.size = a1.size + y1.size := by rw [← hb1, ByteArray.size_append]
    obtain ⟨a2, ha2⟩ : ∃ r, b1 ++ (⟨#[32]⟩ : ByteArray) = r := ⟨_, rfl⟩
    have za2 : a2.size = b1.size + 1 := by rw [← ha2, ByteArray.size_append]; rfl
    obtain ⟨b2, hb2⟩ : ∃ r, a2 ++ y2 = r := ⟨_, rfl⟩
    have zb2 : b2.size = a2.size + y2.size := by rw [← hb2, ByteArray.size_append]
    have HE : Hid (b2 = WT dy ts i) := by
      show _ = _
      rw [← hb2, ← ha2, ← hb1, ← ha1, ← hb0, ← ha0]
      exact HF.out.symm
    refine wp_region_late (fun xw => TrDB xw g t ∧ TDS xw p b off ts) (fun _ => false) (by kernel_rfl) ?_
    have hS : TrDB w2.drew g t ∧ TDS w2.drew p b off ts := ⟨HS.out.1, HS.out.2.drew⟩
    have HB0 : Hid (Below w.heap.size w w2.drew) := ⟨HBw.out.os, HBw.out.tape, HBw.out.output, HBw.out.size, HBw.out.block⟩
    refine anyL_take 0 (.string s0) rfl (by kernel_rfl) (by kernel_rfl) (by kernel_rfl) (by kernel_rfl) (by kernel_rfl) (fun _ _ _ h => h) (by rfl) hS (fun wx hS => by go_simp) ?_
    simp only [Act.put]
    refine anyL_take 1 (.string a0) rfl (by kernel_rfl) (by kernel_rfl) (by kernel_rfl) (by kernel_rfl) (by kernel_rfl) (fun _ _ _ h => h) (by rfl) hS (fun wx _ => add_y (x := s0) (y := ⟨#[32]⟩) rfl rfl ha0 (by show _ + 1 ≤ _; omega) rfl wx) ?_
    simp only [Act.put]
    refine anyL_take 2 (.pointer (some ⟨g, 3, none⟩)) rfl (by kernel_rfl) (by kernel_rfl) (by kernel_rfl) (by kernel_rfl) (by kernel_rfl) (fun _ _ _ h => h) (by rfl) hS (fun wx hS => by go_simp) ?_
    simp only [Act.put]
    refine anyL_take 3 (.int .u64 (t.x : Int)) rfl (by kernel_rfl) (by kernel_rfl) (by kernel_rfl) (by kernel_rfl) (by kernel_rfl) (fun _ _ _ h => h) (by rfl) hS (fun wx hS => by have c : wx.cell? ⟨g, 3, none⟩ = some (.int .u64 (t.x : Int)) := hS.1.c 3; go_simp) ?_
    simp only [Act.put]
    refine anyL_take 7 (.pointer (some ⟨g, 7, none⟩)) rfl (by kernel_rfl) (by kernel_rfl) (by kernel_rfl) (by kernel_rfl) (by kernel_rfl) (fun _ _ _ h => h) (by rfl) hS (fun wx hS => by go_simp) ?_
    simp only [Act.put]
    refine anyL_take 8 (.int .i64 t.cur) rfl (by kernel_rfl) (by kernel_rfl) (by kernel_rfl) (by kernel_rfl) (by kernel_rfl) (fun _ _ _ h => h) (by rfl) hS (fun wx hS => by have c : wx.cell? ⟨g, 7, none⟩ = some (.int .i64 t.cur) := hS.1.c 7; go_simp) ?_
    simp only [Act.put]
    refine anyL_take 12 (.pointer (some ⟨g, 5, none⟩)) rfl (by kernel_rfl) (by kernel_rfl) (by kernel_rfl) (by kernel_rfl) (by kernel_rfl) (fun _ _ _ h => h) (by rfl) hS (fun wx hS => by go_simp) ?_
    simp only [Act.put]
    refine anyL_take 13 (.int .i64 t.day) rfl (by kernel_rfl) (by kernel_rfl) (by kernel_rfl) (by kernel_rfl) (by kernel_rfl) (fun _ _ _ h => h) (by rfl) hS (fun wx hS => by have c : wx.cell? ⟨g, 5, none⟩ = some (.int .i64 t.day) := hS.1.c 5; go_simp) ?_
    simp only [Act.put]
    refine anyL_one (i := 4) (by kernel_rfl) ?_
    refine wpOp_step rfl (fun K1 hK1 => ?_)
    go_simp
    refine (HX3.out _).mono ?_
    rintro e x1 ⟨rfl, hb1⟩
    have hS1 : TrDB x1 g t ∧ TDS x1 p b off ts := ⟨hS.1.below hb1, hS.2.below hb1⟩
    have HB1 := hidD (HB0.out.trans (hb1.mono HB0.out.size))
    clear hb1 hS
    refine hK1 _ _ ⟨fun _ => hS1, ?_⟩
    clear hK1
    refine anyL_take 5 (.string b0) rfl (by kernel_rfl) (by kernel_rfl) (by kernel_rfl) (by kernel_rfl) (by kernel_rfl) (fun _ _ _ h => h) (by rfl) hS1 (fun wx _ => add_y (x := a0) (y := y0) rfl rfl hb0 (by omega) rfl wx) ?_
    simp only [Act.put]
    refine anyL_take 6 (.string a1) rfl (by kernel_rfl) (by kernel_rfl) (by kernel_rfl) (by kernel_rfl) (by kernel_rfl) (fun _ _ _ h => h) (by rfl) hS1 (fun wx _ => add_y (x := b0) (y := ⟨#[32]⟩) rfl rfl ha1 (by show _ + 1 ≤ _; omega) rfl wx) ?_
    simp only [Act.put]
    refine anyL_one (i := 9) (by kernel_rfl) ?_
    refine wpOp_step rfl (fun K2 hK2 => ?_)
    go_simp
    refine (HNcur.out _).mono ?_
    rintro e x2 ⟨rfl, hb2⟩
    have hS2 : TrDB x2 g t ∧ TDS x2 p b off ts := ⟨hS1.1.below hb2, hS1.2.below hb2⟩
    have HB2 := hidD (HB1.out.trans (hb2.mono HB1.out.size))
    clear hb2 hS1
    refine hK2 _ _ ⟨fun _ => hS2, ?_⟩
    clear hK2
    refine anyL_take 10 (.string b1) rfl (by kernel_rfl) (by kernel_rfl) (by kernel_rfl) (by kernel_rfl) (by kernel_rfl) (fun _ _ _ h => h) (by rfl) hS2 (fun wx _ => add_y (x := a1) (y := y1) rfl rfl hb1 (by omega) rfl wx) ?_
    simp only [Act.put]
    refine anyL_take 11 (.string a2) rfl (by kernel_rfl) (by kernel_rfl) (by kernel_rfl) (by kernel_rfl) (by kernel_rfl) (fun _ _ _ h => h) (by rfl) hS2 (fun wx _ => add_y (x := b1) (y := ⟨#[32]⟩) rfl rfl ha2 (by show _ + 1 ≤ _; omega) rfl wx) ?_
    simp only [Act.put]
    refine anyL_one (i := 14) (by kernel_rfl) ?_
    refine wpOp_step rfl (fun K3 hK3 => ?_)
    go_simp
    refine (HDday.out _).mono ?_
    rintro e x3 ⟨rfl, hb3⟩
    have hS3 : TrDB x3 g t ∧ TDS x3 p b off ts := ⟨hS2.1.below hb3, hS2.2.below hb3⟩
    have HB3 := hidD (HB2.out.trans (hb3.mono HB2.out.size))
    clear hb3 hS2
    refine hK3 _ _ ⟨fun _ => hS3, ?_⟩
    clear hK3
    refine anyL_take 15 (.string b2) rfl (by kernel_rfl) (by kernel_rfl) (by kernel_rfl) (by kernel_rfl) (by kernel_rfl) (fun _ _ _ h => h) (by rfl) hS3 (fun wx _ => add_y (x := a2) (y := y2) rfl rfl hb2 (by omega) rfl wx) ?_
    simp only [Act.put]
    refine anyL_one (i := 16) (by kernel_rfl) ?_
    refine wpOp_step rfl (fun Kz hKz => ?_)
    go_simp
    refine hKz _ _ ⟨fun _ => hS3, ?_⟩
    refine anyL_done (by kernel_rfl) ?_
    go_wp2_with fail
    go_ret
    exact ⟨by rw [← HE.out]; rfl, by rw [← hg]; exact HB3.out⟩
  · obtain ⟨f1, f2, f3, f4, f5, f6, f7⟩ := fld3 hf hk
    have e1 : ssG dy t = [hxB17 t.x, hxB17 t.y, cnB17 t.count, dy t.day, dy t.to, itB17 t.n, itB17 t.cur] := by unfold ssG; rw [if_neg (by omega), if_pos hk]
    have e2 : ptN t.kind = 0 := by rw [hk]; rfl
    have e3 : ptT (WT dy ts) t 0 = [] := rfl
    rw [e1, e2, e3] at hW
    have HF : Hid (WT dy ts i = (((((((s0 ++ spB ++ hxB17 t.x) ++ spB ++ hxB17 t.y) ++ spB ++ cnB17 t.count) ++ spB ++ dy t.day) ++ spB ++ dy t.to) ++ spB ++ itB17 t.n) ++ spB ++ itB17 t.cur)) := hW.trans (jn_s s0 [hxB17 t.x, hxB17 t.y, cnB17 t.count, dy t.day, dy t.to, itB17 t.n] (itB17 t.cur) _ (jn_s s0 [hxB17 t.x, hxB17 t.y, cnB17 t.count, dy t.day, dy t.to] (itB17 t.n) _ (jn_s s0 [hxB17 t.x, hxB17 t.y, cnB17 t.count, dy t.day] (dy t.to) _ (jn_s s0 [hxB17 t.x, hxB17 t.y, cnB17 t.count] (dy t.day) _ (jn_s s0 [hxB17 t.x, hxB17 t.y] (cnB17 t.count) _ (jn_s s0 [hxB17 t.x] (hxB17 t.y) _ (jn_2 s0 (hxB17 t.x))))))))
    have HX3 : Hid (∀ wx, Calls Tryz.prog 60 #[.int .u64 (t.x : Int)] wx fun e w' => e = .returned (.string (hxB17 t.x)) ∧ Below wx.heap.size wx w') := fun wx => r17hex_any t.x wx hu.x f1
    have HX4 : Hid (∀ wx, Calls Tryz.prog 60 #[.int .u64 (t.y : Int)] wx fun e w' => e = .returned (.string (hxB17 t.y)) ∧ Below wx.heap.size wx w') := fun wx => r17hex_any t.y wx hu.y f2
    have HDday : Hid (∀ wx, Calls Tryz.prog 62 #[.int .i64 t.day] wx fun e w' => e = .returned (.string (dy t.day)) ∧ Below wx.heap.size wx w') := fun wx => r17date_any hd t.day wx f4.1 f4.2
    have HDto : Hid (∀ wx, Calls Tryz.prog 62 #[.int .i64 t.to] wx fun e w' => e = .returned (.string (dy t.to)) ∧ Below wx.heap.size wx w') := fun wx => r17date_any hd t.to wx f5.1 f5.2
    have HNn : Hid (∀ wx, Calls Tryz.prog 61 #[.int .i64 t.n] wx fun e w' => e = .returned (.string (itB17 t.n)) ∧ Below wx.heap.size wx w') := fun wx => r17whole_any t.n wx (by omega) (by omega)
    have HNcur : Hid (∀ wx, Calls Tryz.prog 61 #[.int .i64 t.cur] wx fun e w' => e = .returned (.string (itB17 t.cur)) ∧ Below wx.heap.size wx w') := fun wx => r17whole_any t.cur wx (by omega) (by omega)
    obtain ⟨jc, hjc, hjc5, _⟩ := cnts_cell w f3.1 f3.2
    have HCc : Hid (∀ wx : World, (wx.alloc (.cells cntsV 9)).cell? ⟨wx.heap.size, jc, none⟩ = some (.string (cnB17 t.count))) := fun wx => by
      obtain ⟨j, hj, _, hc⟩ := cnts_cell wx f3.1 f3.2
      obtain rfl : j = jc := by omega
      exact hc
    have jc1 : (0 : Int) ≤ (jc : Int) := by omega
    have jc2 : (jc : Int) < 5 := by omega
    have z_x := hx_size f1
    have z_y := hx_size f2
    have z_count := cn_size t.count
    have z_day := dy_size hd f4.1 f4.2
    have z_to := dy_size hd f5.1 f5.2
    have z_n := it_size (n := t.n) (by omega) (by omega)
    have z_cur := it_size (n := t.cur) (by omega) (by omega)
    have HOb := hidD (And.intro hf hu)
    clear hf hu hW hsz hpt HWq e1 e2 e3
    generalize hxB17 t.x = y0 at *
    generalize hxB17 t.y = y1 at *
    generalize cnB17 t.count = xc at *
    generalize dy t.day = y3 at *
    generalize dy t.to = y4 at *
    generalize itB17 t.n = y5 at *
    generalize itB17 t.cur = y6 at *
    rw [hk] at q0
    go_wp2_with fail
    obtain ⟨a0, ha0⟩ : ∃ r, s0 ++ (⟨#[32]⟩ : ByteArray) = r := ⟨_, rfl⟩
    have za0 : a0.size = s0.size + 1 := by rw [← ha0, ByteArray.size_append]; rfl
    obtain ⟨b0, hb0⟩ : ∃ r, a0 ++ y0 = r := ⟨_, rfl⟩
    have zb0 : b0.size = a0.size + y0.size := by rw [← hb0, ByteArray.size_append]
    obtain ⟨a1, ha1⟩ : ∃ r, b0 ++ (⟨#[32]⟩ : ByteArray) = r := ⟨_, rfl⟩
    have za1 : a1.size = b0.size + 1 := by rw [← ha1, ByteArray.size_append]; rfl
    obtain ⟨b1, hb1⟩ : ∃ r, a1 ++ y1 = r := ⟨_, rfl⟩
    have zb1 : b1.size = a1.size + y1.size := by rw [← hb1, ByteArray.size_append]
    obtain ⟨a2, ha2⟩ : ∃ r, b1 ++ (⟨#[32]⟩ : ByteArray) = r := ⟨_, rfl⟩
    have za2 : a2.size = b1.size + 1 := by rw [← ha2, ByteArray.size_append]; rfl
    obtain ⟨b2, hb2⟩ : ∃ r, a2 ++ xc = r := ⟨_, rfl⟩
    have zb2 : b2.size = a2.size + xc.size := by rw [← hb2, ByteArray.size_append]
    obtain ⟨a3, ha3⟩ : ∃ r, b2 ++ (⟨#[32]⟩ : ByteArray) = r := ⟨_, rfl⟩
    have za3 : a3.size = b2.size + 1 := by rw [← ha3, ByteArray.size_append]; rfl
    obtain ⟨b3, hb3⟩ : ∃ r, a3 ++ y3 = r := ⟨_, rfl⟩
    have zb3 : b3.size = a3.size + y3.size := by rw [← hb3, ByteArray.size_append]
    obtain ⟨a4, ha4⟩ : ∃ r, b3 ++ (⟨#[32]⟩ : ByteArray) = r := ⟨_, rfl⟩
    have za4 : a4.size = b3.size + 1 := by rw [← ha4, ByteArray.size_append]; rfl
    obtain ⟨b4, hb4⟩ : ∃ r, a4 ++ y4 = r := ⟨_, rfl⟩
    have zb4 : b4.size = a4.size + y4.size := by rw [← hb4, ByteArray.size_append]
    obtain ⟨a5, ha5⟩ : ∃ r, b4 ++ (⟨#[32]⟩ : ByteArray) = r := ⟨_, rfl⟩
    have za5 : a5.size = b4.size + 1 := by rw [← ha5, ByteArray.size_append]; rfl
    obtain ⟨b5, hb5⟩ : ∃ r, a5 ++ y5 = r := ⟨_, rfl⟩
    have zb5 : b5.size = a5.size + y5.size := by rw [← hb5, ByteArray.size_append]
    obtain ⟨a6, ha6⟩ : ∃ r, b5 ++ (⟨#[32]⟩ : ByteArray) = r := ⟨_, rfl⟩
    have za6 : a6.size = b5.size + 1 := by rw [← ha6, ByteArray.size_append]; rfl
    obtain ⟨b6, hb6⟩ : ∃ r, a6 ++ y6 = r := ⟨_, rfl⟩
    have zb6 : b6.size = a6.size + y6.size := by rw [← hb6, ByteArray.size_append]
    have HE : Hid (b6 = WT dy ts i) := by
      show _ = _
      rw [← hb6, ← ha6, ← hb5, ← ha5, ← hb4, ← ha4, ← hb3, ← ha3, ← hb2, ← ha2, ← hb1, ← ha1, ← hb0, ← ha0]
      exact HF.out.symm
    refine wp_region_late (fun xw => TrDB xw g t ∧ TDS xw p b off ts) (fun _ => false) (by kernel_rfl) ?_
    have hS : TrDB w2.drew g t ∧ TDS w2.drew p b off ts := ⟨HS.out.1, HS.out.2.drew⟩
    have HB0 : Hid (Below w.heap.size w w2.drew) := ⟨HBw.out.os, HBw.out.tape, HBw.out.output, HBw.out.size, HBw.out.block⟩
    refine anyL_take 0 (.string s0) rfl (by kernel_rfl) (by kernel_rfl) (by kernel_rfl) (by kernel_rfl) (by kernel_rfl) (fun _ _ _ h => h) (by rfl) hS (fun wx hS => by go_simp) ?_
    simp only [Act.put]
    refine anyL_take 1 (.string a0) rfl (by kernel_rfl) (by kernel_rfl) (by kernel_rfl) (by kernel_rfl) (by kernel_rfl) (fun _ _ _ h => h) (by rfl) hS (fun wx _ => add_y (x := s0) (y := ⟨#[32]⟩) rfl rfl ha0 (by show _ + 1 ≤ _; omega) rfl wx) ?_
    simp only [Act.put]
    refine anyL_take 2 (.pointer (some ⟨g, 3, none⟩)) rfl (by kernel_rfl) (by kernel_rfl) (by kernel_rfl) (by kernel_rfl) (by kernel_rfl) (fun _ _ _ h => h) (by rfl) hS (fun wx hS => by go_simp) ?_
    simp only [Act.put]
    refine anyL_take 3 (.int .u64 (t.x : Int)) rfl (by kernel_rfl) (by kernel_rfl) (by kernel_rfl) (by kernel_rfl) (by kernel_rfl) (fun _ _ _ h => h) (by rfl) hS (fun wx hS => by have c : wx.cell? ⟨g, 3, none⟩ = some (.int .u64 (t.x : Int)) := hS.1.c 3; go_simp) ?_
    simp only [Act.put]
    refine anyL_take 7 (.pointer (some ⟨g, 4, none⟩)) rfl (by kernel_rfl) (by kernel_rfl) (by kernel_rfl) (by kernel_rfl) (by kernel_rfl) (fun _ _ _ h => h) (by rfl) hS (fun wx hS => by go_simp) ?_
    simp only [Act.put]
    refine anyL_take 8 (.int .u64 (t.y : Int)) rfl (by kernel_rfl) (by kernel_rfl) (by kernel_rfl) (by kernel_rfl) (by kernel_rfl) (fun _ _ _ h => h) (by rfl) hS (fun wx hS => by have c : wx.cell? ⟨g, 4, none⟩ = some (.int .u64 (t.y : Int)) := hS.1.c 4; go_simp) ?_
    simp only [Act.put]
    refine anyL_take 13 (.pointer (some ⟨g, 8, none⟩)) rfl (by kernel_rfl) (by kernel_rfl) (by kernel_rfl) (by kernel_rfl) (by kernel_rfl) (fun _ _ _ h => h) (by rfl) hS (fun wx hS => by go_simp) ?_
    simp only [Act.put]
    refine anyL_take 14 (.int .i64 t.count) rfl (by kernel_rfl) (by kernel_rfl) (by kernel_rfl) (by kernel_rfl) (by kernel_rfl) (fun _ _ _ h => h) (by rfl) hS (fun wx hS => by have c : wx.cell? ⟨g, 8, none⟩ = some (.int .i64 t.count) := hS.1.c 8; go_simp) ?_
    simp only [Act.put]
    refine anyL_take 15 (.int .i64 (jc : Int)) rfl (by kernel_rfl) (by kernel_rfl) (by kernel_rfl) (by kernel_rfl) (by kernel_rfl) (fun _ _ _ h => h) (by rfl) hS (fun wx hS => by go_simp; rw [IntKind.wrap_i64]; omega) ?_
    simp only [Act.put]
    refine anyL_take 20 (.pointer (some ⟨g, 5, none⟩)) rfl (by kernel_rfl) (by kernel_rfl) (by kernel_rfl) (by kernel_rfl) (by kernel_rfl) (fun _ _ _ h => h) (by rfl) hS (fun wx hS => by go_simp) ?_
    simp only [Act.put]
    refine anyL_take 21 (.int .i64 t.day) rfl (by kernel_rfl) (by kernel_rfl) (by kernel_rfl) (by kernel_rfl) (by kernel_rfl) (fun _ _ _ h => h) (by rfl) hS (fun wx hS => by have c : wx.cell? ⟨g, 5, none⟩ = some (.int .i64 t.day) := hS.1.c 5; go_simp) ?_
    simp only [Act.put]
    refine anyL_take 25 (.pointer (some ⟨g, 6, none⟩)) rfl (by kernel_rfl) (by kernel_rfl) (by kernel_rfl) (by kernel_rfl) (by kernel_rfl) (fun _ _ _ h => h) (by rfl) hS (fun wx hS => by go_simp) ?_
    simp only [Act.put]
    refine anyL_take 26 (.int .i64 t.to) rfl (by kernel_rfl) (by kernel_rfl) (by kernel_rfl) (by kernel_rfl) (by kernel_rfl) (fun _ _ _ h => h) (by rfl) hS (fun wx hS => by have c : wx.cell? ⟨g, 6, none⟩ = some (.int .i64 t.to) := hS.1.c 6; go_simp) ?_
    simp only [Act.put]
    refine anyL_take 30 (.pointer (some ⟨g, 9, none⟩)) rfl (by kernel_rfl) (by kernel_rfl) (by kernel_rfl) (by kernel_rfl) (by kernel_rfl) (fun _ _ _ h => h) (by rfl) hS (fun wx hS => by go_simp) ?_
    simp only [Act.put]
    refine anyL_take 31 (.int .i64 t.n) rfl (by kernel_rfl) (by kernel_rfl) (by kernel_rfl) (by kernel_rfl) (by kernel_rfl) (fun _ _ _ h => h) (by rfl) hS (fun wx hS => by have c : wx.cell? ⟨g, 9, none⟩ = some (.int .i64 t.n) := hS.1.c 9; go_simp) ?_
    simp only [Act.put]
    refine anyL_take 35 (.pointer (some ⟨g, 7, none⟩)) rfl (by kernel_rfl) (by kernel_rfl) (by kernel_rfl) (by kernel_rfl) (by kernel_rfl) (fun _ _ _ h => h) (by rfl) hS (fun wx hS => by go_simp) ?_
    simp only [Act.put]
    refine anyL_take 36 (.int .i64 t.cur) rfl (by kernel_rfl) (by kernel_rfl) (by kernel_rfl) (by kernel_rfl) (by kernel_rfl) (fun _ _ _ h => h) (by rfl) hS (fun wx hS => by have c : wx.cell? ⟨g, 7, none⟩ = some (.int .i64 t.cur) := hS.1.c 7; go_simp) ?_
    simp only [Act.put]
    refine anyL_one (i := 4) (by kernel_rfl) ?_
    refine wpOp_step rfl (fun K1 hK1 => ?_)
    go_simp
    refine (HX3.out _).mono ?_
    rintro e x1 ⟨rfl, hb1⟩
    have hS1 : TrDB x1 g t ∧ TDS x1 p b off ts := ⟨hS.1.below hb1, hS.2.below hb1⟩
    have HB1 := hidD (HB0.out.trans (hb1.mono HB0.out.size))
    clear hb1 hS
    refine hK1 _ _ ⟨fun _ => hS1, ?_⟩
    clear hK1
    refine anyL_take 5 (.string b0) rfl (by kernel_rfl) (by kernel_rfl) (by kernel_rfl) (by kernel_rfl) (by kernel_rfl) (fun _ _ _ h => h) (by rfl) hS1 (fun wx _ => add_y (x := a0) (y := y0) rfl rfl hb0 (by omega) rfl wx) ?_
    simp only [Act.put]
    refine anyL_take 6 (.string a1) rfl (by kernel_rfl) (by kernel_rfl) (by kernel_rfl) (by kernel_rfl) (by kernel_rfl) (fun _ _ _ h => h) (by rfl) hS1 (fun wx _ => add_y (x := b0) (y := ⟨#[32]⟩) rfl rfl ha1 (by show _ + 1 ≤ _; omega) rfl wx) ?_
    simp only [Act.put]
    refine anyL_one (i := 9) (by kernel_rfl) ?_
    refine wpOp_step rfl (fun K2 hK2 => ?_)
    go_simp
    refine (HX4.out _).mono ?_
    rintro e x2 ⟨rfl, hb2⟩
    have hS2 : TrDB x2 g t ∧ TDS x2 p b off ts := ⟨hS1.1.below hb2, hS1.2.below hb2⟩
    have HB2 := hidD (HB1.out.trans (hb2.mono HB1.out.size))
    clear hb2 hS1
    refine hK2 _ _ ⟨fun _ => hS2, ?_⟩
    clear hK2
    refine anyL_take 10 (.string b1) rfl (by kernel_rfl) (by kernel_rfl) (by kernel_rfl) (by kernel_rfl) (by kernel_rfl) (fun _ _ _ h => h) (by rfl) hS2 (fun wx _ => add_y (x := a1) (y := y1) rfl rfl hb1 (by omega) rfl wx) ?_
    simp only [Act.put]
    refine anyL_take 11 (.string a2) rfl (by kernel_rfl) (by kernel_rfl) (by kernel_rfl) (by kernel_rfl) (by kernel_rfl) (fun _ _ _ h => h) (by rfl) hS2 (fun wx _ => add_y (x := b1) (y := ⟨#[32]⟩) rfl rfl ha2 (by show _ + 1 ≤ _; omega) rfl wx) ?_
    simp only [Act.put]
    refine anyL_one (i := 12) (by kernel_rfl) ?_
    refine wpOp_step rfl (fun K3 hK3 => ?_)
    go_simp
    refine (r17Counts_any _).mono ?_
    rintro e x3 ⟨rfl, hw3⟩
    have hb3 := al_bel x2 (.cells cntsV 9)
    rw [← hw3] at hb3
    have hcn : x3.cell? ⟨x2.heap.size, jc, none⟩ = some (.string xc) := by rw [hw3]; exact HCc.out x2
    clear hw3
    have hS3 : TrDB x3 g t ∧ TDS x3 p b off ts := ⟨hS2.1.below hb3, hS2.2.below hb3⟩
    have HB3 := hidD (HB2.out.trans (hb3.mono HB2.out.size))
    clear hb3
    refine hK3 _ _ ⟨fun _ => hS3, ?_⟩
    clear hK3
    obtain ⟨gc, hgc⟩ : ∃ gc, (x2).heap.size = gc := ⟨_, rfl⟩
    rw [hgc] at hcn ⊢
    clear hgc
    have hS3C : (TrDB x3 g t ∧ TDS x3 p b off ts) ∧ x3.cell? ⟨gc, jc, none⟩ = some (.string xc) := ⟨hS3, hcn⟩
    refine anyL_mono (S2 := fun xw => (TrDB xw g t ∧ TDS xw p b off ts) ∧ xw.cell? ⟨gc, jc, none⟩ = some (.string xc)) (fun _ h => h.1) ?_
    clear hcn hS3 hS2
    refine anyL_take 16 (.pointer (some ⟨gc, jc, none⟩)) rfl (by kernel_rfl) (by kernel_rfl) (by kernel_rfl) (by kernel_rfl) (by kernel_rfl) (fun _ _ _ h => h) (by rfl) hS3C (fun wx hS => by go_simp) ?_
    simp only [Act.put]
    refine anyL_take 17 (.string xc) rfl (by kernel_rfl) (by kernel_rfl) (by kernel_rfl) (by kernel_rfl) (by kernel_rfl) (fun _ _ _ h => h) (by rfl) hS3C (fun wx hS => by have c := hS.2; go_simp) ?_
    simp only [Act.put]
    refine anyL_take 18 (.string b2) rfl (by kernel_rfl) (by kernel_rfl) (by kernel_rfl) (by kernel_rfl) (by kernel_rfl) (fun _ _ _ h => h) (by rfl) hS3C (fun wx _ => add_y (x := a2) (y := xc) rfl rfl hb2 (by omega) rfl wx) ?_
    simp only [Act.put]
    refine anyL_take 19 (.string a3) rfl (by kernel_rfl) (by kernel_rfl) (by kernel_rfl) (by kernel_rfl) (by kernel_rfl) (fun _ _ _ h => h) (by rfl) hS3C (fun wx _ => add_y (x := b2) (y := ⟨#[32]⟩) rfl rfl ha3 (by show _ + 1 ≤ _; omega) rfl wx) ?_
    simp only [Act.put]
    refine anyL_one (i := 22) (by kernel_rfl) ?_
    refine wpOp_step rfl (fun K4 hK4 => ?_)
    go_simp
    refine (HDday.out _).mono ?_
    rintro e x4 ⟨rfl, hb4⟩
    have hS4 : (TrDB x4 g t ∧ TDS x4 p b off ts) ∧ x4.cell? ⟨gc, jc, none⟩ = some (.string xc) := ⟨⟨hS3C.1.1.below hb4, hS3C.1.2.below hb4⟩, (hb4.cell (p := ⟨gc, jc, none⟩) (World.block_lt_of_cell? _ _ hS3C.2)).trans hS3C.2⟩
    have HB4 := hidD (HB3.out.trans (hb4.mono HB3.out.size))
    clear hb4 hS3C
    refine hK4 _ _ ⟨fun _ => hS4, ?_⟩
    clear hK4
    refine anyL_take 23 (.string b3) rfl (by kernel_rfl) (by kernel_rfl) (by kernel_rfl) (by kernel_rfl) (by kernel_rfl) (fun _ _ _ h => h) (by rfl) hS4 (fun wx _ => add_y (x := a3) (y := y3) rfl rfl hb3 (by omega) rfl wx) ?_
    simp only [Act.put]
    refine anyL_take 24 (.string a4) rfl (by kernel_rfl) (by kernel_rfl) (by kernel_rfl) (by kernel_rfl) (by kernel_rfl) (fun _ _ _ h => h) (by rfl) hS4 (fun wx _ => add_y (x := b3) (y := ⟨#[32]⟩) rfl rfl ha4 (by show _ + 1 ≤ _; omega) rfl wx) ?_
    simp only [Act.put]
    refine anyL_one (i := 27) (by kernel_rfl) ?_
    refine wpOp_step rfl (fun K5 hK5 => ?_)
    go_simp
    refine (HDto.out _).mono ?_
    rintro e x5 ⟨rfl, hb5⟩
    have hS5 : (TrDB x5 g t ∧ TDS x5 p b off ts) ∧ x5.cell? ⟨gc, jc, none⟩ = some (.string xc) := ⟨⟨hS4.1.1.below hb5, hS4.1.2.below hb5⟩, (hb5.cell (p := ⟨gc, jc, none⟩) (World.block_lt_of_cell? _ _ hS4.2)).trans hS4.2⟩
    have HB5 := hidD (HB4.out.trans (hb5.mono HB4.out.size))
    clear hb5 hS4
    refine hK5 _ _ ⟨fun _ => hS5, ?_⟩
    clear hK5
    refine anyL_take 28 (.string b4) rfl (by kernel_rfl) (by kernel_rfl) (by kernel_rfl) (by kernel_rfl) (by kernel_rfl) (fun _ _ _ h => h) (by rfl) hS5 (fun wx _ => add_y (x := a4) (y := y4) rfl rfl hb4 (by omega) rfl wx) ?_
    simp only [Act.put]
    refine anyL_take 29 (.string a5) rfl (by kernel_rfl) (by kernel_rfl) (by kernel_rfl) (by kernel_rfl) (by kernel_rfl) (fun _ _ _ h => h) (by rfl) hS5 (fun wx _ => add_y (x := b4) (y := ⟨#[32]⟩) rfl rfl ha5 (by show _ + 1 ≤ _; omega) rfl wx) ?_
    simp only [Act.put]
    refine anyL_one (i := 32) (by kernel_rfl) ?_
    refine wpOp_step rfl (fun K6 hK6 => ?_)
    go_simp
    refine (HNn.out _).mono ?_
    rintro e x6 ⟨rfl, hb6⟩
    have hS6 : (TrDB x6 g t ∧ TDS x6 p b off ts) ∧ x6.cell? ⟨gc, jc, none⟩ = some (.string xc) := ⟨⟨hS5.1.1.below hb6, hS5.1.2.below hb6⟩, (hb6.cell (p := ⟨gc, jc, none⟩) (World.block_lt_of_cell? _ _ hS5.2)).trans hS5.2⟩
    have HB6 := hidD (HB5.out.trans (hb6.mono HB5.out.size))
    clear hb6 hS5
    refine hK6 _ _ ⟨fun _ => hS6, ?_⟩
    clear hK6
    refine anyL_take 33 (.string b5) rfl (by kernel_rfl) (by kernel_rfl) (by kernel_rfl) (by kernel_rfl) (by kernel_rfl) (fun _ _ _ h => h) (by rfl) hS6 (fun wx _ => add_y (x := a5) (y := y5) rfl rfl hb5 (by omega) rfl wx) ?_
    simp only [Act.put]
    refine anyL_take 34 (.string a6) rfl (by kernel_rfl) (by kernel_rfl) (by kernel_rfl) (by kernel_rfl) (by kernel_rfl) (fun _ _ _ h => h) (by rfl) hS6 (fun wx _ => add_y (x := b5) (y := ⟨#[32]⟩) rfl rfl ha6 (by show _ + 1 ≤ _; omega) rfl wx) ?_
    simp only [Act.put]
    refine anyL_one (i := 37) (by kernel_rfl) ?_
    refine wpOp_step rfl (fun K7 hK7 => ?_)
    go_simp
    refine (HNcur.out _).mono ?_
    rintro e x7 ⟨rfl, hb7⟩
    have hS7 : (TrDB x7 g t ∧ TDS x7 p b off ts) ∧ x7.cell? ⟨gc, jc, none⟩ = some (.string xc) := ⟨⟨hS6.1.1.below hb7, hS6.1.2.below hb7⟩, (hb7.cell (p := ⟨gc, jc, none⟩) (World.block_lt_of_cell? _ _ hS6.2)).trans hS6.2⟩
    have HB7 := hidD (HB6.out.trans (hb7.mono HB6.out.size))
    clear hb7 hS6
    refine hK7 _ _ ⟨fun _ => hS7, ?_⟩
    clear hK7
    refine anyL_take 38 (.string b6) rfl (by kernel_rfl) (by kernel_rfl) (by kernel_rfl) (by kernel_rfl) (by kernel_rfl) (fun _ _ _ h => h) (by rfl) hS7 (fun wx _ => add_y (x := a6) (y := y6) rfl rfl hb6 (by omega) rfl wx) ?_
    simp only [Act.put]
    refine anyL_one (i := 39) (by kernel_rfl) ?_
    refine wpOp_step rfl (fun Kz hKz => ?_)
    go_simp
    refine hKz _ _ ⟨fun _ => hS7, ?_⟩
    refine anyL_done (by kernel_rfl) ?_
    go_wp2_with fail
    go_ret
    exact ⟨by rw [← HE.out]; rfl, by rw [← hg]; exact HB7.out⟩
  · have e1 : ssG dy t = [] := by unfold ssG; rw [if_neg (by omega), if_neg (by omega), if_neg (by omega), if_neg (by omega), if_neg (by omega)]
    have e2 : ptN t.kind = 1 := by rw [hk]; rfl
    have e3 : ptT (WT dy ts) t 1 = [WT dy ts t.a.toNat] := rfl
    rw [e1, e2, e3] at hW
    have HF : Hid (WT dy ts i = (s0 ++ spB ++ WT dy ts t.a.toNat)) := hW.trans (jn_2 s0 (WT dy ts t.a.toNat))
    have HWa : Hid (∀ wx, TDS wx p b off ts → Calls Tryz.prog 23 #[.slice p n c, .int .i64 t.a] wx fun e w' => e = .returned (.string (WT dy ts t.a.toNat)) ∧ Below wx.heap.size wx w') := HWq.out 0 (by rw [e2]; decide)
    have zWa : (WT dy ts t.a.toNat).size ≤ 2000000 := hsz 0 (by rw [e2]; decide)
    have HOb := hidD (And.intro hf hu)
    clear hf hu hW hsz hpt HWq e1 e2 e3
    generalize WT dy ts t.a.toNat = y0 at *
    rw [hk] at q0
    have g1 : ¬ 9223372036854775807 < s0.size + 1 := by omega
    have g2 : ¬ 9223372036854775807 < s0.size + 1 + y0.size := by omega
    go_wp2_with fail
    refine (HWa.out _ HS.out.2).mono ?_
    rintro e w3 ⟨rfl, hb3⟩
    have HB3 := hidD (HBw.out.trans (hb3.mono HBw.out.size))
    clear hb3 HWa
    go_wp2_with fail
    go_ret
    exact ⟨by rw [HF.out]; rfl, HB3.out⟩
  · have e1 : ssG dy t = [] := by unfold ssG; rw [if_neg (by omega), if_neg (by omega), if_neg (by omega), if_neg (by omega), if_neg (by omega)]
    have e2 : ptN t.kind = 2 := by rw [hk]; rfl
    have e3 : ptT (WT dy ts) t 2 = [WT dy ts t.a.toNat, WT dy ts t.b.toNat] := rfl
    rw [e1, e2, e3] at hW
    have HF : Hid (WT dy ts i = ((s0 ++ spB ++ WT dy ts t.a.toNat) ++ spB ++ WT dy ts t.b.toNat)) := hW.trans (jn_s s0 [WT dy ts t.a.toNat] (WT dy ts t.b.toNat) _ (jn_2 s0 (WT dy ts t.a.toNat)))
    have HWa : Hid (∀ wx, TDS wx p b off ts → Calls Tryz.prog 23 #[.slice p n c, .int .i64 t.a] wx fun e w' => e = .returned (.string (WT dy ts t.a.toNat)) ∧ Below wx.heap.size wx w') := HWq.out 0 (by rw [e2]; decide)
    have zWa : (WT dy ts t.a.toNat).size ≤ 2000000 := hsz 0 (by rw [e2]; decide)
    have HWb : Hid (∀ wx, TDS wx p b off ts → Calls Tryz.prog 23 #[.slice p n c, .int .i64 t.b] wx fun e w' => e = .returned (.string (WT dy ts t.b.toNat)) ∧ Below wx.heap.size wx w') := HWq.out 1 (by rw [e2]; decide)
    have zWb : (WT dy ts t.b.toNat).size ≤ 2000000 := hsz 1 (by rw [e2]; decide)
    have HOb := hidD (And.intro hf hu)
    clear hf hu hW hsz hpt HWq e1 e2 e3
    generalize WT dy ts t.a.toNat = y0 at *
    generalize WT dy ts t.b.toNat = y1 at *
    rw [hk] at q0
    go_wp2_with fail
    obtain ⟨a0, ha0⟩ : ∃ r, s0 ++ (⟨#[32]⟩ : ByteArray) = r := ⟨_, rfl⟩
    have za0 : a0.size = s0.size + 1 := by rw [← ha0, ByteArray.size_append]; rfl
    obtain ⟨b0, hb0⟩ : ∃ r, a0 ++ y0 = r := ⟨_, rfl⟩
    have zb0 : b0.size = a0.size + y0.size := by rw [← hb0, ByteArray.size_append]
    obtain ⟨a1, ha1⟩ : ∃ r, b0 ++ (⟨#[32]⟩ : ByteArray) = r := ⟨_, rfl⟩
    have za1 : a1.size = b0.size + 1 := by rw [← ha1, ByteArray.size_append]; rfl
    obtain ⟨b1, hb1⟩ : ∃ r, a1 ++ y1 = r := ⟨_, rfl⟩
    have zb1 : b1.size = a1.size + y1.size := by rw [← hb1, ByteArray.size_append]
    have HE : Hid (b1 = WT dy ts i) := by
      show _ = _
      rw [← hb1, ← ha1, ← hb0, ← ha0]
      exact HF.out.symm
    refine wp_region_late (fun xw => TrDB xw g t ∧ TDS xw p b off ts) (fun _ => false) (by kernel_rfl) ?_
    have hS : TrDB w2.drew g t ∧ TDS w2.drew p b off ts := ⟨HS.out.1, HS.out.2.drew⟩
    have HB0 : Hid (Below w.heap.size w w2.drew) := ⟨HBw.out.os, HBw.out.tape, HBw.out.output, HBw.out.size, HBw.out.block⟩
    refine anyL_take 0 (.string s0) rfl (by kernel_rfl) (by kernel_rfl) (by kernel_rfl) (by kernel_rfl) (by kernel_rfl) (fun _ _ _ h => h) (by rfl) hS (fun wx hS => by go_simp) ?_
    simp only [Act.put]
    refine anyL_take 1 (.string a0) rfl (by kernel_rfl) (by kernel_rfl) (by kernel_rfl) (by kernel_rfl) (by kernel_rfl) (fun _ _ _ h => h) (by rfl) hS (fun wx _ => add_y (x := s0) (y := ⟨#[32]⟩) rfl rfl ha0 (by show _ + 1 ≤ _; omega) rfl wx) ?_
    simp only [Act.put]
    refine anyL_take 2 (.slice p n c) rfl (by kernel_rfl) (by kernel_rfl) (by kernel_rfl) (by kernel_rfl) (by kernel_rfl) (fun _ _ _ h => h) (by rfl) hS (fun wx hS => by go_simp) ?_
    simp only [Act.put]
    refine anyL_take 3 (.pointer (some ⟨g, 1, none⟩)) rfl (by kernel_rfl) (by kernel_rfl) (by kernel_rfl) (by kernel_rfl) (by kernel_rfl) (fun _ _ _ h => h) (by rfl) hS (fun wx hS => by go_simp) ?_
    simp only [Act.put]
    refine anyL_take 4 (.int .i64 t.a) rfl (by kernel_rfl) (by kernel_rfl) (by kernel_rfl) (by kernel_rfl) (by kernel_rfl) (fun _ _ _ h => h) (by rfl) hS (fun wx hS => by have c : wx.cell? ⟨g, 1, none⟩ = some (.int .i64 t.a) := hS.1.c 1; go_simp) ?_
    simp only [Act.put]
    refine anyL_take 8 (.slice p n c) rfl (by kernel_rfl) (by kernel_rfl) (by kernel_rfl) (by kernel_rfl) (by kernel_rfl) (fun _ _ _ h => h) (by rfl) hS (fun wx hS => by go_simp) ?_
    simp only [Act.put]
    refine anyL_take 9 (.pointer (some ⟨g, 2, none⟩)) rfl (by kernel_rfl) (by kernel_rfl) (by kernel_rfl) (by kernel_rfl) (by kernel_rfl) (fun _ _ _ h => h) (by rfl) hS (fun wx hS => by go_simp) ?_
    simp only [Act.put]
    refine anyL_take 10 (.int .i64 t.b) rfl (by kernel_rfl) (by kernel_rfl) (by kernel_rfl) (by kernel_rfl) (by kernel_rfl) (fun _ _ _ h => h) (by rfl) hS (fun wx hS => by have c : wx.cell? ⟨g, 2, none⟩ = some (.int .i64 t.b) := hS.1.c 2; go_simp) ?_
    simp only [Act.put]
    refine anyL_one (i := 5) (by kernel_rfl) ?_
    refine wpOp_step rfl (fun K1 hK1 => ?_)
    go_simp
    refine (HWa.out _ hS.2).mono ?_
    rintro e x1 ⟨rfl, hb1⟩
    have hS1 : TrDB x1 g t ∧ TDS x1 p b off ts := ⟨hS.1.below hb1, hS.2.below hb1⟩
    have HB1 := hidD (HB0.out.trans (hb1.mono HB0.out.size))
    clear hb1 hS
    refine hK1 _ _ ⟨fun _ => hS1, ?_⟩
    clear hK1
    refine anyL_take 6 (.string b0) rfl (by kernel_rfl) (by kernel_rfl) (by kernel_rfl) (by kernel_rfl) (by kernel_rfl) (fun _ _ _ h => h) (by rfl) hS1 (fun wx _ => add_y (x := a0) (y := y0) rfl rfl hb0 (by omega) rfl wx) ?_
    simp only [Act.put]
    refine anyL_take 7 (.string a1) rfl (by kernel_rfl) (by kernel_rfl) (by kernel_rfl) (by kernel_rfl) (by kernel_rfl) (fun _ _ _ h => h) (by rfl) hS1 (fun wx _ => add_y (x := b0) (y := ⟨#[32]⟩) rfl rfl ha1 (by show _ + 1 ≤ _; omega) rfl wx) ?_
    simp only [Act.put]
    refine anyL_one (i := 11) (by kernel_rfl) ?_
    refine wpOp_step rfl (fun K2 hK2 => ?_)
    go_simp
    refine (HWb.out _ hS1.2).mono ?_
    rintro e x2 ⟨rfl, hb2⟩
    have hS2 : TrDB x2 g t ∧ TDS x2 p b off ts := ⟨hS1.1.below hb2, hS1.2.below hb2⟩
    have HB2 := hidD (HB1.out.trans (hb2.mono HB1.out.size))
    clear hb2 hS1
    refine hK2 _ _ ⟨fun _ => hS2, ?_⟩
    clear hK2
    refine anyL_take 12 (.string b1) rfl (by kernel_rfl) (by kernel_rfl) (by kernel_rfl) (by kernel_rfl) (by kernel_rfl) (fun _ _ _ h => h) (by rfl) hS2 (fun wx _ => add_y (x := a1) (y := y1) rfl rfl hb1 (by omega) rfl wx) ?_
    simp only [Act.put]
    refine anyL_one (i := 13) (by kernel_rfl) ?_
    refine wpOp_step rfl (fun Kz hKz => ?_)
    go_simp
    refine hKz _ _ ⟨fun _ => hS2, ?_⟩
    refine anyL_done (by kernel_rfl) ?_
    go_wp2_with fail
    go_ret
    exact ⟨by rw [← HE.out]; rfl, by rw [← hg]; exact HB2.out⟩
  · have f1 := fld6 hf hk
    have e1 : ssG dy t = [hxB17 t.x] := by unfold ssG; rw [if_neg (by omega), if_neg (by omega), if_pos hk]
    have e2 : ptN t.kind = 1 := by rw [hk]; rfl
    have e3 : ptT (WT dy ts) t 1 = [WT dy ts t.a.toNat] := rfl
    rw [e1, e2, e3] at hW
    have HF : Hid (WT dy ts i = ((s0 ++ spB ++ hxB17 t.x) ++ spB ++ WT dy ts t.a.toNat)) := hW.trans (jn_s s0 [hxB17 t.x] (WT dy ts t.a.toNat) _ (jn_2 s0 (hxB17 t.x)))
    have HX3 : Hid (∀ wx, Calls Tryz.prog 60 #[.int .u64 (t.x : Int)] wx fun e w' => e = .returned (.string (hxB17 t.x)) ∧ Below wx.heap.size wx w') := fun wx => r17hex_any t.x wx hu.x f1
    have HWa : Hid (∀ wx, TDS wx p b off ts → Calls Tryz.prog 23 #[.slice p n c, .int .i64 t.a] wx fun e w' => e = .returned (.string (WT dy ts t.a.toNat)) ∧ Below wx.heap.size wx w') := HWq.out 0 (by rw [e2]; decide)
    have zWa : (WT dy ts t.a.toNat).size ≤ 2000000 := hsz 0 (by rw [e2]; decide)
    have z_x := hx_size f1
    have HOb := hidD (And.intro hf hu)
    clear hf hu hW hsz hpt HWq e1 e2 e3
    generalize hxB17 t.x = y0 at *
    generalize WT dy ts t.a.toNat = y1 at *
    rw [hk] at q0
    go_wp2_with fail
    obtain ⟨a0, ha0⟩ : ∃ r, s0 ++ (⟨#[32]⟩ : ByteArray) = r := ⟨_, rfl⟩
    have za0 : a0.size = s0.size + 1 := by rw [← ha0, ByteArray.size_append]; rfl
    obtain ⟨b0, hb0⟩ : ∃ r, a0 ++ y0 = r := ⟨_, rfl⟩
    have zb0 : b0.size = a0.size + y0.size := by rw [← hb0, ByteArray.size_append]
    obtain ⟨a1, ha1⟩ : ∃ r, b0 ++ (⟨#[32]⟩ : ByteArray) = r := ⟨_, rfl⟩
    have za1 : a1.size = b0.size + 1 := by rw [← ha1, ByteArray.size_append]; rfl
    obtain ⟨b1, hb1⟩ : ∃ r, a1 ++ y1 = r := ⟨_, rfl⟩
    have zb1 : b1.size = a1.size + y1.size := by rw [← hb1, ByteArray.size_append]
    have HE : Hid (b1 = WT dy ts i) := by
      show _ = _
      rw [← hb1, ← ha1, ← hb0, ← ha0]
      exact HF.out.symm
    refine wp_region_late (fun xw => TrDB xw g t ∧ TDS xw p b off ts) (fun _ => false) (by kernel_rfl) ?_
    have hS : TrDB w2.drew g t ∧ TDS w2.drew p b off ts := ⟨HS.out.1, HS.out.2.drew⟩
    have HB0 : Hid (Below w.heap.size w w2.drew) := ⟨HBw.out.os, HBw.out.tape, HBw.out.output, HBw.out.size, HBw.out.block⟩
    refine anyL_take 0 (.string s0) rfl (by kernel_rfl) (by kernel_rfl) (by kernel_rfl) (by kernel_rfl) (by kernel_rfl) (fun _ _ _ h => h) (by rfl) hS (fun wx hS => by go_simp) ?_
    simp only [Act.put]
    refine anyL_take 1 (.string a0) rfl (by kernel_rfl) (by kernel_rfl) (by kernel_rfl) (by kernel_rfl) (by kernel_rfl) (fun _ _ _ h => h) (by rfl) hS (fun wx _ => add_y (x := s0) (y := ⟨#[32]⟩) rfl rfl ha0 (by show _ + 1 ≤ _; omega) rfl wx) ?_
    simp only [Act.put]
    refine anyL_take 2 (.pointer (some ⟨g, 3, none⟩)) rfl (by kernel_rfl) (by kernel_rfl) (by kernel_rfl) (by kernel_rfl) (by kernel_rfl) (fun _ _ _ h => h) (by rfl) hS (fun wx hS => by go_simp) ?_
    simp only [Act.put]
    refine anyL_take 3 (.int .u64 (t.x : Int)) rfl (by kernel_rfl) (by kernel_rfl) (by kernel_rfl) (by kernel_rfl) (by kernel_rfl) (fun _ _ _ h => h) (by rfl) hS (fun wx hS => by have c : wx.cell? ⟨g, 3, none⟩ = some (.int .u64 (t.x : Int)) := hS.1.c 3; go_simp) ?_
    simp only [Act.put]
    refine anyL_take 7 (.slice p n c) rfl (by kernel_rfl) (by kernel_rfl) (by kernel_rfl) (by kernel_rfl) (by kernel_rfl) (fun _ _ _ h => h) (by rfl) hS (fun wx hS => by go_simp) ?_
    simp only [Act.put]
    refine anyL_take 8 (.pointer (some ⟨g, 1, none⟩)) rfl (by kernel_rfl) (by kernel_rfl) (by kernel_rfl) (by kernel_rfl) (by kernel_rfl) (fun _ _ _ h => h) (by rfl) hS (fun wx hS => by go_simp) ?_
    simp only [Act.put]
    refine anyL_take 9 (.int .i64 t.a) rfl (by kernel_rfl) (by kernel_rfl) (by kernel_rfl) (by kernel_rfl) (by kernel_rfl) (fun _ _ _ h => h) (by rfl) hS (fun wx hS => by have c : wx.cell? ⟨g, 1, none⟩ = some (.int .i64 t.a) := hS.1.c 1; go_simp) ?_
    simp only [Act.put]
    refine anyL_one (i := 4) (by kernel_rfl) ?_
    refine wpOp_step rfl (fun K1 hK1 => ?_)
    go_simp
    refine (HX3.out _).mono ?_
    rintro e x1 ⟨rfl, hb1⟩
    have hS1 : TrDB x1 g t ∧ TDS x1 p b off ts := ⟨hS.1.below hb1, hS.2.below hb1⟩
    have HB1 := hidD (HB0.out.trans (hb1.mono HB0.out.size))
    clear hb1 hS
    refine hK1 _ _ ⟨fun _ => hS1, ?_⟩
    clear hK1
    refine anyL_take 5 (.string b0) rfl (by kernel_rfl) (by kernel_rfl) (by kernel_rfl) (by kernel_rfl) (by kernel_rfl) (fun _ _ _ h => h) (by rfl) hS1 (fun wx _ => add_y (x := a0) (y := y0) rfl rfl hb0 (by omega) rfl wx) ?_
    simp only [Act.put]
    refine anyL_take 6 (.string a1) rfl (by kernel_rfl) (by kernel_rfl) (by kernel_rfl) (by kernel_rfl) (by kernel_rfl) (fun _ _ _ h => h) (by rfl) hS1 (fun wx _ => add_y (x := b0) (y := ⟨#[32]⟩) rfl rfl ha1 (by show _ + 1 ≤ _; omega) rfl wx) ?_
    simp only [Act.put]
    refine anyL_one (i := 10) (by kernel_rfl) ?_
    refine wpOp_step rfl (fun K2 hK2 => ?_)
    go_simp
    refine (HWa.out _ hS1.2).mono ?_
    rintro e x2 ⟨rfl, hb2⟩
    have hS2 : TrDB x2 g t ∧ TDS x2 p b off ts := ⟨hS1.1.below hb2, hS1.2.below hb2⟩
    have HB2 := hidD (HB1.out.trans (hb2.mono HB1.out.size))
    clear hb2 hS1
    refine hK2 _ _ ⟨fun _ => hS2, ?_⟩
    clear hK2
    refine anyL_take 11 (.string b1) rfl (by kernel_rfl) (by kernel_rfl) (by kernel_rfl) (by kernel_rfl) (by kernel_rfl) (fun _ _ _ h => h) (by rfl) hS2 (fun wx _ => add_y (x := a1) (y := y1) rfl rfl hb1 (by omega) rfl wx) ?_
    simp only [Act.put]
    refine anyL_one (i := 12) (by kernel_rfl) ?_
    refine wpOp_step rfl (fun Kz hKz => ?_)
    go_simp
    refine hKz _ _ ⟨fun _ => hS2, ?_⟩
    refine anyL_done (by kernel_rfl) ?_
    go_wp2_with fail
    go_ret
    exact ⟨by rw [← HE.out]; rfl, by rw [← hg]; exact HB2.out⟩
  · obtain ⟨f1, f2⟩ := fld7 hf hk
    have e1 : ssG dy t = [dy t.day, dy t.to] := by unfold ssG; rw [if_neg (by omega), if_neg (by omega), if_neg (by omega), if_pos hk]
    have e2 : ptN t.kind = 1 := by rw [hk]; rfl
    have e3 : ptT (WT dy ts) t 1 = [WT dy ts t.a.toNat] := rfl
    rw [e1, e2, e3] at hW
    have HF : Hid (WT dy ts i = (((s0 ++ spB ++ dy t.day) ++ spB ++ dy t.to) ++ spB ++ WT dy ts t.a.toNat)) := hW.trans (jn_s s0 [dy t.day, dy t.to] (WT dy ts t.a.toNat) _ (jn_s s0 [dy t.day] (dy t.to) _ (jn_2 s0 (dy t.day))))
    have HDday : Hid (∀ wx, Calls Tryz.prog 62 #[.int .i64 t.day] wx fun e w' => e = .returned (.string (dy t.day)) ∧ Below wx.heap.size wx w') := fun wx => r17date_any hd t.day wx f1.1 f1.2
    have HDto : Hid (∀ wx, Calls Tryz.prog 62 #[.int .i64 t.to] wx fun e w' => e = .returned (.string (dy t.to)) ∧ Below wx.heap.size wx w') := fun wx => r17date_any hd t.to wx f2.1 f2.2
    have HWa : Hid (∀ wx, TDS wx p b off ts → Calls Tryz.prog 23 #[.slice p n c, .int .i64 t.a] wx fun e w' => e = .returned (.string (WT dy ts t.a.toNat)) ∧ Below wx.heap.size wx w') := HWq.out 0 (by rw [e2]; decide)
    have zWa : (WT dy ts t.a.toNat).size ≤ 2000000 := hsz 0 (by rw [e2]; decide)
    have z_day := dy_size hd f1.1 f1.2
    have z_to := dy_size hd f2.1 f2.2
    have HOb := hidD (And.intro hf hu)
    clear hf hu hW hsz hpt HWq e1 e2 e3
    generalize dy t.day = y0 at *
    generalize dy t.to = y1 at *
    generalize WT dy ts t.a.toNat = y2 at *
    rw [hk] at q0
    go_wp2_with fail
    obtain ⟨a0, ha0⟩ : ∃ r, s0 ++ (⟨#[32]⟩ : ByteArray) = r := ⟨_, rfl⟩
    have za0 : a0.size = s0.size + 1 := by rw [← ha0, ByteArray.size_append]; rfl
    obtain ⟨b0, hb0⟩ : ∃ r, a0 ++ y0 = r := ⟨_, rfl⟩
    have zb0 : b0.size = a0.size + y0.size := by rw [← hb0, ByteArray.size_append]
    obtain ⟨a1, ha1⟩ : ∃ r, b0 ++ (⟨#[32]⟩ : ByteArray) = r := ⟨_, rfl⟩
    have za1 : a1.size = b0.size + 1 := by rw [← ha1, ByteArray.size_append]; rfl
    obtain ⟨b1, hb1⟩ : ∃ r, a1 ++ y1 = r := ⟨_, rfl⟩
    have zb1 : b1.size = a1.size + y1.size := by rw [← hb1, ByteArray.size_append]
    obtain ⟨a2, ha2⟩ : ∃ r, b1 ++ (⟨#[32]⟩ : ByteArray) = r := ⟨_, rfl⟩
    have za2 : a2.size = b1.size + 1 := by rw [← ha2, ByteArray.size_append]; rfl
    obtain ⟨b2, hb2⟩ : ∃ r, a2 ++ y2 = r := ⟨_, rfl⟩
    have zb2 : b2.size = a2.size + y2.size := by rw [← hb2, ByteArray.size_append]
    have HE : Hid (b2 = WT dy ts i) := by
      show _ = _
      rw [← hb2, ← ha2, ← hb1, ← ha1, ← hb0, ← ha0]
      exact HF.out.symm
    refine wp_region_late (fun xw => TrDB xw g t ∧ TDS xw p b off ts) (fun _ => false) (by kernel_rfl) ?_
    have hS : TrDB w2.drew g t ∧ TDS w2.drew p b off ts := ⟨HS.out.1, HS.out.2.drew⟩
    have HB0 : Hid (Below w.heap.size w w2.drew) := ⟨HBw.out.os, HBw.out.tape, HBw.out.output, HBw.out.size, HBw.out.block⟩
    refine anyL_take 0 (.string s0) rfl (by kernel_rfl) (by kernel_rfl) (by kernel_rfl) (by kernel_rfl) (by kernel_rfl) (fun _ _ _ h => h) (by rfl) hS (fun wx hS => by go_simp) ?_
    simp only [Act.put]
    refine anyL_take 1 (.string a0) rfl (by kernel_rfl) (by kernel_rfl) (by kernel_rfl) (by kernel_rfl) (by kernel_rfl) (fun _ _ _ h => h) (by rfl) hS (fun wx _ => add_y (x := s0) (y := ⟨#[32]⟩) rfl rfl ha0 (by show _ + 1 ≤ _; omega) rfl wx) ?_
    simp only [Act.put]
    refine anyL_take 2 (.pointer (some ⟨g, 5, none⟩)) rfl (by kernel_rfl) (by kernel_rfl) (by kernel_rfl) (by kernel_rfl) (by kernel_rfl) (fun _ _ _ h => h) (by rfl) hS (fun wx hS => by go_simp) ?_
    simp only [Act.put]
    refine anyL_take 3 (.int .i64 t.day) rfl (by kernel_rfl) (by kernel_rfl) (by kernel_rfl) (by kernel_rfl) (by kernel_rfl) (fun _ _ _ h => h) (by rfl) hS (fun wx hS => by have c : wx.cell? ⟨g, 5, none⟩ = some (.int .i64 t.day) := hS.1.c 5; go_simp) ?_
    simp only [Act.put]
    refine anyL_take 7 (.pointer (some ⟨g, 6, none⟩)) rfl (by kernel_rfl) (by kernel_rfl) (by kernel_rfl) (by kernel_rfl) (by kernel_rfl) (fun _ _ _ h => h) (by rfl) hS (fun wx hS => by go_simp) ?_
    simp only [Act.put]
    refine anyL_take 8 (.int .i64 t.to) rfl (by kernel_rfl) (by kernel_rfl) (by kernel_rfl) (by kernel_rfl) (by kernel_rfl) (fun _ _ _ h => h) (by rfl) hS (fun wx hS => by have c : wx.cell? ⟨g, 6, none⟩ = some (.int .i64 t.to) := hS.1.c 6; go_simp) ?_
    simp only [Act.put]
    refine anyL_take 12 (.slice p n c) rfl (by kernel_rfl) (by kernel_rfl) (by kernel_rfl) (by kernel_rfl) (by kernel_rfl) (fun _ _ _ h => h) (by rfl) hS (fun wx hS => by go_simp) ?_
    simp only [Act.put]
    refine anyL_take 13 (.pointer (some ⟨g, 1, none⟩)) rfl (by kernel_rfl) (by kernel_rfl) (by kernel_rfl) (by kernel_rfl) (by kernel_rfl) (fun _ _ _ h => h) (by rfl) hS (fun wx hS => by go_simp) ?_
    simp only [Act.put]
    refine anyL_take 14 (.int .i64 t.a) rfl (by kernel_rfl) (by kernel_rfl) (by kernel_rfl) (by kernel_rfl) (by kernel_rfl) (fun _ _ _ h => h) (by rfl) hS (fun wx hS => by have c : wx.cell? ⟨g, 1, none⟩ = some (.int .i64 t.a) := hS.1.c 1; go_simp) ?_
    simp only [Act.put]
    refine anyL_one (i := 4) (by kernel_rfl) ?_
    refine wpOp_step rfl (fun K1 hK1 => ?_)
    go_simp
    refine (HDday.out _).mono ?_
    rintro e x1 ⟨rfl, hb1⟩
    have hS1 : TrDB x1 g t ∧ TDS x1 p b off ts := ⟨hS.1.below hb1, hS.2.below hb1⟩
    have HB1 := hidD (HB0.out.trans (hb1.mono HB0.out.size))
    clear hb1 hS
    refine hK1 _ _ ⟨fun _ => hS1, ?_⟩
    clear hK1
    refine anyL_take 5 (.string b0) rfl (by kernel_rfl) (by kernel_rfl) (by kernel_rfl) (by kernel_rfl) (by kernel_rfl) (fun _ _ _ h => h) (by rfl) hS1 (fun wx _ => add_y (x := a0) (y := y0) rfl rfl hb0 (by omega) rfl wx) ?_
    simp only [Act.put]
    refine anyL_take 6 (.string a1) rfl (by kernel_rfl) (by kernel_rfl) (by kernel_rfl) (by kernel_rfl) (by kernel_rfl) (fun _ _ _ h => h) (by rfl) hS1 (fun wx _ => add_y (x := b0) (y := ⟨#[32]⟩) rfl rfl ha1 (by show _ + 1 ≤ _; omega) rfl wx) ?_
    simp only [Act.put]
    refine anyL_one (i := 9) (by kernel_rfl) ?_
    refine wpOp_step rfl (fun K2 hK2 => ?_)
    go_simp
    refine (HDto.out _).mono ?_
    rintro e x2 ⟨rfl, hb2⟩
    have hS2 : TrDB x2 g t ∧ TDS x2 p b off ts := ⟨hS1.1.below hb2, hS1.2.below hb2⟩
    have HB2 := hidD (HB1.out.trans (hb2.mono HB1.out.size))
    clear hb2 hS1
    refine hK2 _ _ ⟨fun _ => hS2, ?_⟩
    clear hK2
    refine anyL_take 10 (.string b1) rfl (by kernel_rfl) (by kernel_rfl) (by kernel_rfl) (by kernel_rfl) (by kernel_rfl) (fun _ _ _ h => h) (by rfl) hS2 (fun wx _ => add_y (x := a1) (y := y1) rfl rfl hb1 (by omega) rfl wx) ?_
    simp only [Act.put]
    refine anyL_take 11 (.string a2) rfl (by kernel_rfl) (by kernel_rfl) (by kernel_rfl) (by kernel_rfl) (by kernel_rfl) (fun _ _ _ h => h) (by rfl) hS2 (fun wx _ => add_y (x := b1) (y := ⟨#[32]⟩) rfl rfl ha2 (by show _ + 1 ≤ _; omega) rfl wx) ?_
    simp only [Act.put]
    refine anyL_one (i := 15) (by kernel_rfl) ?_
    refine wpOp_step rfl (fun K3 hK3 => ?_)
    go_simp
    refine (HWa.out _ hS2.2).mono ?_
    rintro e x3 ⟨rfl, hb3⟩
    have hS3 : TrDB x3 g t ∧ TDS x3 p b off ts := ⟨hS2.1.below hb3, hS2.2.below hb3⟩
    have HB3 := hidD (HB2.out.trans (hb3.mono HB2.out.size))
    clear hb3 hS2
    refine hK3 _ _ ⟨fun _ => hS3, ?_⟩
    clear hK3
    refine anyL_take 16 (.string b2) rfl (by kernel_rfl) (by kernel_rfl) (by kernel_rfl) (by kernel_rfl) (by kernel_rfl) (fun _ _ _ h => h) (by rfl) hS3 (fun wx _ => add_y (x := a2) (y := y2) rfl rfl hb2 (by omega) rfl wx) ?_
    simp only [Act.put]
    refine anyL_one (i := 17) (by kernel_rfl) ?_
    refine wpOp_step rfl (fun Kz hKz => ?_)
    go_simp
    refine hKz _ _ ⟨fun _ => hS3, ?_⟩
    refine anyL_done (by kernel_rfl) ?_
    go_wp2_with fail
    go_ret
    exact ⟨by rw [← HE.out]; rfl, by rw [← hg]; exact HB3.out⟩
  · obtain ⟨f1, f2⟩ := fld8 hf hk
    have e1 : ssG dy t = [itB17 t.n, itB17 t.months] := by unfold ssG; rw [if_neg (by omega), if_neg (by omega), if_neg (by omega), if_neg (by omega), if_pos hk]
    have e2 : ptN t.kind = 1 := by rw [hk]; rfl
    have e3 : ptT (WT dy ts) t 1 = [WT dy ts t.a.toNat] := rfl
    rw [e1, e2, e3] at hW
    have HF : Hid (WT dy ts i = (((s0 ++ spB ++ itB17 t.n) ++ spB ++ itB17 t.months) ++ spB ++ WT dy ts t.a.toNat)) := hW.trans (jn_s s0 [itB17 t.n, itB17 t.months] (WT dy ts t.a.toNat) _ (jn_s s0 [itB17 t.n] (itB17 t.months) _ (jn_2 s0 (itB17 t.n))))
    have HNn : Hid (∀ wx, Calls Tryz.prog 61 #[.int .i64 t.n] wx fun e w' => e = .returned (.string (itB17 t.n)) ∧ Below wx.heap.size wx w') := fun wx => r17whole_any t.n wx (by omega) (by omega)
    have HNmonths : Hid (∀ wx, Calls Tryz.prog 61 #[.int .i64 t.months] wx fun e w' => e = .returned (.string (itB17 t.months)) ∧ Below wx.heap.size wx w') := fun wx => r17whole_any t.months wx (by omega) (by omega)
    have HWa : Hid (∀ wx, TDS wx p b off ts → Calls Tryz.prog 23 #[.slice p n c, .int .i64 t.a] wx fun e w' => e = .returned (.string (WT dy ts t.a.toNat)) ∧ Below wx.heap.size wx w') := HWq.out 0 (by rw [e2]; decide)
    have zWa : (WT dy ts t.a.toNat).size ≤ 2000000 := hsz 0 (by rw [e2]; decide)
    have z_n := it_size (n := t.n) (by omega) (by omega)
    have z_months := it_size (n := t.months) (by omega) (by omega)
    have HOb := hidD (And.intro hf hu)
    clear hf hu hW hsz hpt HWq e1 e2 e3
    generalize itB17 t.n = y0 at *
    generalize itB17 t.months = y1 at *
    generalize WT dy ts t.a.toNat = y2 at *
    rw [hk] at q0
    go_wp2_with fail
    obtain ⟨a0, ha0⟩ : ∃ r, s0 ++ (⟨#[32]⟩ : ByteArray) = r := ⟨_, rfl⟩
    have za0 : a0.size = s0.size + 1 := by rw [← ha0, ByteArray.size_append]; rfl
    obtain ⟨b0, hb0⟩ : ∃ r, a0 ++ y0 = r := ⟨_, rfl⟩
    have zb0 : b0.size = a0.size + y0.size := by rw [← hb0, ByteArray.size_append]
    obtain ⟨a1, ha1⟩ : ∃ r, b0 ++ (⟨#[32]⟩ : ByteArray) = r := ⟨_, rfl⟩
    have za1 : a1.size = b0.size + 1 := by rw [← ha1, ByteArray.size_append]; rfl
    obtain ⟨b1, hb1⟩ : ∃ r, a1 ++ y1 = r := ⟨_, rfl⟩
    have zb1 : b1.size = a1.size + y1.size := by rw [← hb1, ByteArray.size_append]
    obtain ⟨a2, ha2⟩ : ∃ r, b1 ++ (⟨#[32]⟩ : ByteArray) = r := ⟨_, rfl⟩
    have za2 : a2.size = b1.size + 1 := by rw [← ha2, ByteArray.size_append]; rfl
    obtain ⟨b2, hb2⟩ : ∃ r, a2 ++ y2 = r := ⟨_, rfl⟩
    have zb2 : b2.size = a2.size + y2.size := by rw [← hb2, ByteArray.size_append]
    have HE : Hid (b2 = WT dy ts i) := by
      show _ = _
      rw [← hb2, ← ha2, ← hb1, ← ha1, ← hb0, ← ha0]
      exact HF.out.symm
    refine wp_region_late (fun xw => TrDB xw g t ∧ TDS xw p b off ts) (fun _ => false) (by kernel_rfl) ?_
    have hS : TrDB w2.drew g t ∧ TDS w2.drew p b off ts := ⟨HS.out.1, HS.out.2.drew⟩
    have HB0 : Hid (Below w.heap.size w w2.drew) := ⟨HBw.out.os, HBw.out.tape, HBw.out.output, HBw.out.size, HBw.out.block⟩
    refine anyL_take 0 (.string s0) rfl (by kernel_rfl) (by kernel_rfl) (by kernel_rfl) (by kernel_rfl) (by kernel_rfl) (fun _ _ _ h => h) (by rfl) hS (fun wx hS => by go_simp) ?_
    simp only [Act.put]
    refine anyL_take 1 (.string a0) rfl (by kernel_rfl) (by kernel_rfl) (by kernel_rfl) (by kernel_rfl) (by kernel_rfl) (fun _ _ _ h => h) (by rfl) hS (fun wx _ => add_y (x := s0) (y := ⟨#[32]⟩) rfl rfl ha0 (by show _ + 1 ≤ _; omega) rfl wx) ?_
    simp only [Act.put]
    refine anyL_take 2 (.pointer (some ⟨g, 9, none⟩)) rfl (by kernel_rfl) (by kernel_rfl) (by kernel_rfl) (by kernel_rfl) (by kernel_rfl) (fun _ _ _ h => h) (by rfl) hS (fun wx hS => by go_simp) ?_
    simp only [Act.put]
    refine anyL_take 3 (.int .i64 t.n) rfl (by kernel_rfl) (by kernel_rfl) (by kernel_rfl) (by kernel_rfl) (by kernel_rfl) (fun _ _ _ h => h) (by rfl) hS (fun wx hS => by have c : wx.cell? ⟨g, 9, none⟩ = some (.int .i64 t.n) := hS.1.c 9; go_simp) ?_
    simp only [Act.put]
    refine anyL_take 7 (.pointer (some ⟨g, 10, none⟩)) rfl (by kernel_rfl) (by kernel_rfl) (by kernel_rfl) (by kernel_rfl) (by kernel_rfl) (fun _ _ _ h => h) (by rfl) hS (fun wx hS => by go_simp) ?_
    simp only [Act.put]
    refine anyL_take 8 (.int .i64 t.months) rfl (by kernel_rfl) (by kernel_rfl) (by kernel_rfl) (by kernel_rfl) (by kernel_rfl) (fun _ _ _ h => h) (by rfl) hS (fun wx hS => by have c : wx.cell? ⟨g, 10, none⟩ = some (.int .i64 t.months) := hS.1.c 10; go_simp) ?_
    simp only [Act.put]
    refine anyL_take 12 (.slice p n c) rfl (by kernel_rfl) (by kernel_rfl) (by kernel_rfl) (by kernel_rfl) (by kernel_rfl) (fun _ _ _ h => h) (by rfl) hS (fun wx hS => by go_simp) ?_
    simp only [Act.put]
    refine anyL_take 13 (.pointer (some ⟨g, 1, none⟩)) rfl (by kernel_rfl) (by kernel_rfl) (by kernel_rfl) (by kernel_rfl) (by kernel_rfl) (fun _ _ _ h => h) (by rfl) hS (fun wx hS => by go_simp) ?_
    simp only [Act.put]
    refine anyL_take 14 (.int .i64 t.a) rfl (by kernel_rfl) (by kernel_rfl) (by kernel_rfl) (by kernel_rfl) (by kernel_rfl) (fun _ _ _ h => h) (by rfl) hS (fun wx hS => by have c : wx.cell? ⟨g, 1, none⟩ = some (.int .i64 t.a) := hS.1.c 1; go_simp) ?_
    simp only [Act.put]
    refine anyL_one (i := 4) (by kernel_rfl) ?_
    refine wpOp_step rfl (fun K1 hK1 => ?_)
    go_simp
    refine (HNn.out _).mono ?_
    rintro e x1 ⟨rfl, hb1⟩
    have hS1 : TrDB x1 g t ∧ TDS x1 p b off ts := ⟨hS.1.below hb1, hS.2.below hb1⟩
    have HB1 := hidD (HB0.out.trans (hb1.mono HB0.out.size))
    clear hb1 hS
    refine hK1 _ _ ⟨fun _ => hS1, ?_⟩
    clear hK1
    refine anyL_take 5 (.string b0) rfl (by kernel_rfl) (by kernel_rfl) (by kernel_rfl) (by kernel_rfl) (by kernel_rfl) (fun _ _ _ h => h) (by rfl) hS1 (fun wx _ => add_y (x := a0) (y := y0) rfl rfl hb0 (by omega) rfl wx) ?_
    simp only [Act.put]
    refine anyL_take 6 (.string a1) rfl (by kernel_rfl) (by kernel_rfl) (by kernel_rfl) (by kernel_rfl) (by kernel_rfl) (fun _ _ _ h => h) (by rfl) hS1 (fun wx _ => add_y (x := b0) (y := ⟨#[32]⟩) rfl rfl ha1 (by show _ + 1 ≤ _; omega) rfl wx) ?_
    simp only [Act.put]
    refine anyL_one (i := 9) (by kernel_rfl) ?_
    refine wpOp_step rfl (fun K2 hK2 => ?_)
    go_simp
    refine (HNmonths.out _).mono ?_
    rintro e x2 ⟨rfl, hb2⟩
    have hS2 : TrDB x2 g t ∧ TDS x2 p b off ts := ⟨hS1.1.below hb2, hS1.2.below hb2⟩
    have HB2 := hidD (HB1.out.trans (hb2.mono HB1.out.size))
    clear hb2 hS1
    refine hK2 _ _ ⟨fun _ => hS2, ?_⟩
    clear hK2
    refine anyL_take 10 (.string b1) rfl (by kernel_rfl) (by kernel_rfl) (by kernel_rfl) (by kernel_rfl) (by kernel_rfl) (fun _ _ _ h => h) (by rfl) hS2 (fun wx _ => add_y (x := a1) (y := y1) rfl rfl hb1 (by omega) rfl wx) ?_
    simp only [Act.put]
    refine anyL_take 11 (.string a2) rfl (by kernel_rfl) (by kernel_rfl) (by kernel_rfl) (by kernel_rfl) (by kernel_rfl) (fun _ _ _ h => h) (by rfl) hS2 (fun wx _ => add_y (x := b1) (y := ⟨#[32]⟩) rfl rfl ha2 (by show _ + 1 ≤ _; omega) rfl wx) ?_
    simp only [Act.put]
    refine anyL_one (i := 15) (by kernel_rfl) ?_
    refine wpOp_step rfl (fun K3 hK3 => ?_)
    go_simp
    refine (HWa.out _ hS2.2).mono ?_
    rintro e x3 ⟨rfl, hb3⟩
    have hS3 : TrDB x3 g t ∧ TDS x3 p b off ts := ⟨hS2.1.below hb3, hS2.2.below hb3⟩
    have HB3 := hidD (HB2.out.trans (hb3.mono HB2.out.size))
    clear hb3 hS2
    refine hK3 _ _ ⟨fun _ => hS3, ?_⟩
    clear hK3
    refine anyL_take 16 (.string b2) rfl (by kernel_rfl) (by kernel_rfl) (by kernel_rfl) (by kernel_rfl) (by kernel_rfl) (fun _ _ _ h => h) (by rfl) hS3 (fun wx _ => add_y (x := a2) (y := y2) rfl rfl hb2 (by omega) rfl wx) ?_
    simp only [Act.put]
    refine anyL_one (i := 17) (by kernel_rfl) ?_
    refine wpOp_step rfl (fun Kz hKz => ?_)
    go_simp
    refine hKz _ _ ⟨fun _ => hS3, ?_⟩
    refine anyL_done (by kernel_rfl) ?_
    go_wp2_with fail
    go_ret
    exact ⟨by rw [← HE.out]; rfl, by rw [← hg]; exact HB3.out⟩
end Go.Proofs.YtiiajhomdpfafaaGreatDoor
