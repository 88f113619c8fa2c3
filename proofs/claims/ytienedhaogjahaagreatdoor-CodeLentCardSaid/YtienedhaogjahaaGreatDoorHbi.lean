/- The document's Compile. Package deal: Check and Depth of any list of terms. Package code: Compile of any list of terms. The document's Marks, whatever code. -/
import Derived.Test.YtienedhaogjahaaGreatDoorHbh
import Derived.Test.YtienedhaogjahaaGreatDoorHbf
import Derived.Test.YtienedhaogjahaaGreatDoorHba
import Derived.Test.YtienedhaogjahaaGreatDoorHbe
namespace Go.Proofs.YtienedhaogjahaaGreatDoor
open Go.RowKit
theorem stopLc {P : Program} {ops : Array Oper} {Q : Exit → Act → World → Prop} {rest : List Oper} {a : Act} {w : World} (h : ∀ L, Hid (rest = L) → wpList P ops Q L a w) : wpList P ops Q rest a w := h rest rfl

set_option maxRecDepth 20000 in
set_option maxHeartbeats 6400000 in
theorem r18Op_any (t : Trm) (w : World) : Calls Tryz.prog 45 #[.agg (trD t)] w fun e w' => e = .returned (.agg (opD (opT t))) ∧ Below w.heap.size w w' := by
  have HK := hidD (r18Kind_any t.kind)
  unfold trD
  go_enter Tryz.func45, Tryz.ntmps45
  go_wp2_with fail
  have HT : Hid (((w.alloc (.cells #[.int .i64 t.kind, .int .i64 t.a, .int .i64 t.b, .int .u64 (t.x : Int), .int .u64 (t.y : Int), .int .i64 t.day, .int .i64 t.to, .int .i64 t.cur, .int .i64 t.count, .int .i64 t.n, .int .i64 t.months] 64)).alloc (.cells #[.int .i64 0, .int .u64 0, .int .u64 0, .int .i64 0, .int .i64 0, .int .i64 0, .int .i64 0, .int .i64 0, .int .i64 0] 66)).heap[w.heap.size]? = some (.cells #[.int .i64 t.kind, .int .i64 t.a, .int .i64 t.b, .int .u64 (t.x : Int), .int .u64 (t.y : Int), .int .i64 t.day, .int .i64 t.to, .int .i64 t.cur, .int .i64 t.count, .int .i64 t.n, .int .i64 t.months] 64)) := by
    show _ = _
    rw [al_at, sz_al, if_neg (by omega)]; exact heap_alloc_new _ _
  have HR : Hid (((w.alloc (.cells #[.int .i64 t.kind, .int .i64 t.a, .int .i64 t.b, .int .u64 (t.x : Int), .int .u64 (t.y : Int), .int .i64 t.day, .int .i64 t.to, .int .i64 t.cur, .int .i64 t.count, .int .i64 t.n, .int .i64 t.months] 64)).alloc (.cells #[.int .i64 0, .int .u64 0, .int .u64 0, .int .i64 0, .int .i64 0, .int .i64 0, .int .i64 0, .int .i64 0, .int .i64 0] 66)).heap[w.heap.size + 1]? = some (.cells #[.int .i64 0, .int .u64 0, .int .u64 0, .int .i64 0, .int .i64 0, .int .i64 0, .int .i64 0, .int .i64 0, .int .i64 0] 66)) := by
    show _ = _
    rw [al_at, sz_al, if_pos rfl]
  have HB : Hid (Below w.heap.size w ((w.alloc (.cells #[.int .i64 t.kind, .int .i64 t.a, .int .i64 t.b, .int .u64 (t.x : Int), .int .u64 (t.y : Int), .int .i64 t.day, .int .i64 t.to, .int .i64 t.cur, .int .i64 t.count, .int .i64 t.n, .int .i64 t.months] 64)).alloc (.cells #[.int .i64 0, .int .u64 0, .int .u64 0, .int .i64 0, .int .i64 0, .int .i64 0, .int .i64 0, .int .i64 0, .int .i64 0] 66))) := ((Below.refl _ _).alloc (Nat.le_refl _) _).alloc (by simp) _
  obtain ⟨w2, hw2⟩ : ∃ w2, ((w.alloc (.cells #[.int .i64 t.kind, .int .i64 t.a, .int .i64 t.b, .int .u64 (t.x : Int), .int .u64 (t.y : Int), .int .i64 t.day, .int .i64 t.to, .int .i64 t.cur, .int .i64 t.count, .int .i64 t.n, .int .i64 t.months] 64)).alloc (.cells #[.int .i64 0, .int .u64 0, .int .u64 0, .int .i64 0, .int .i64 0, .int .i64 0, .int .i64 0, .int .i64 0, .int .i64 0] 66)) = w2 := ⟨_, rfl⟩
  rw [hw2] at HT HR HB ⊢
  clear hw2
  obtain ⟨R, hR⟩ : ∃ R, w.heap.size + 1 = R := ⟨_, rfl⟩
  obtain ⟨T, hT⟩ : ∃ T, w.heap.size = T := ⟨_, rfl⟩
  have hTR : T ≠ R := by omega
  have hRle : w.heap.size ≤ R := by omega
  rw [hR] at HR ⊢
  rw [hT] at HT ⊢
  clear hR hT
  have HKa := hidD ((HK.out (w2.drewN 1)).mono fun e w' hh => (⟨hh.1, by rw [hh.2]; exact below_drewNm (Below.refl _ _)⟩ : _ ∧ Below w2.heap.size w2 w'))
  have c0 := (opx_cells HT.out 0 rfl).1
  have c1 := (opx_cells HT.out 1 rfl).1
  have c2 := (opx_cells HT.out 2 rfl).1
  have c3 := (opx_cells HT.out 3 rfl).1
  have c4 := (opx_cells HT.out 4 rfl).1
  have c5 := (opx_cells HT.out 5 rfl).1
  have c6 := (opx_cells HT.out 6 rfl).1
  have c7 := (opx_cells HT.out 7 rfl).1
  have c8 := (opx_cells HT.out 8 rfl).1
  have c9 := (opx_cells HT.out 9 rfl).1
  have c10 := (opx_cells HT.out 10 rfl).1
  go_region_held3 (fun x => x.cell? ⟨T, 0, none⟩ = some (.int .i64 t.kind) ∧ x.cell? ⟨T, 1, none⟩ = some (.int .i64 t.a) ∧ x.cell? ⟨T, 2, none⟩ = some (.int .i64 t.b) ∧ x.cell? ⟨T, 3, none⟩ = some (.int .u64 (t.x : Int)) ∧ x.cell? ⟨T, 4, none⟩ = some (.int .u64 (t.y : Int)) ∧ x.cell? ⟨T, 5, none⟩ = some (.int .i64 t.day) ∧ x.cell? ⟨T, 6, none⟩ = some (.int .i64 t.to) ∧ x.cell? ⟨T, 7, none⟩ = some (.int .i64 t.cur) ∧ x.cell? ⟨T, 8, none⟩ = some (.int .i64 t.count) ∧ x.cell? ⟨T, 9, none⟩ = some (.int .i64 t.n) ∧ x.cell? ⟨T, 10, none⟩ = some (.int .i64 t.months)) (first | go_keep | (with_reducible exact ⟨k0, k1, k2, k3, k4, k5, k6, k7, k8, k9, k10⟩) | (simp [go_sem, *])) ((go_at_call 53; refine HKa.out.mono ?_; rintro e w3 ⟨rfl, hb3⟩; have HT3 := hidD ((hb3.block _ (lt_of_blk HT.out)).trans HT.out); have HR3 := hidD ((hb3.block _ (lt_of_blk HR.out)).trans HR.out); have HB3 := hidD (HB.out.trans (hb3.mono HB.out.size)); have k0 := (opx_cells HT3.out 0 rfl).1; have k1 := (opx_cells HT3.out 1 rfl).1; have k2 := (opx_cells HT3.out 2 rfl).1; have k3 := (opx_cells HT3.out 3 rfl).1; have k4 := (opx_cells HT3.out 4 rfl).1; have k5 := (opx_cells HT3.out 5 rfl).1; have k6 := (opx_cells HT3.out 6 rfl).1; have k7 := (opx_cells HT3.out 7 rfl).1; have k8 := (opx_cells HT3.out 8 rfl).1; have k9 := (opx_cells HT3.out 9 rfl).1; have k10 := (opx_cells HT3.out 10 rfl).1; have r0 := (opx_cells HR3.out 0 rfl).1; have y0 := (opx_cells HR3.out 0 rfl).2; have r1 := (opx_cells HR3.out 1 rfl).1; have y1 := (opx_cells HR3.out 1 rfl).2; have r2 := (opx_cells HR3.out 2 rfl).1; have y2 := (opx_cells HR3.out 2 rfl).2; have r3 := (opx_cells HR3.out 3 rfl).1; have y3 := (opx_cells HR3.out 3 rfl).2; have r4 := (opx_cells HR3.out 4 rfl).1; have y4 := (opx_cells HR3.out 4 rfl).2; have r5 := (opx_cells HR3.out 5 rfl).1; have y5 := (opx_cells HR3.out 5 rfl).2; have r6 := (opx_cells HR3.out 6 rfl).1; have y6 := (opx_cells HR3.out 6 rfl).2; have r7 := (opx_cells HR3.out 7 rfl).1; have y7 := (opx_cells HR3.out 7 rfl).2; have r8 := (opx_cells HR3.out 8 rfl).1; have y8 := (opx_cells HR3.out 8 rfl).2; clear hb3))
  obtain ⟨v0, hv0⟩ : ∃ v, World.setCell w3 ⟨R, 0, none⟩ (.int .i64 (tOp t.kind)) = v := ⟨_, rfl⟩
  have g0 : (World.heap v0)[R]? = some (.cells #[.int .i64 (tOp t.kind), .int .u64 0, .int .u64 0, .int .i64 0, .int .i64 0, .int .i64 0, .int .i64 0, .int .i64 0, .int .i64 0] 66) := by rw [← hv0]; exact (heap_setCell_same _ R 0 _ _ _ HR3.out).trans rfl
  have B0 : Below w.heap.size w v0 := by rw [← hv0]; exact Below.setCell HB3.out (p := ⟨R, 0, none⟩) hRle _
  rw [hv0]
  obtain ⟨v1, hv1⟩ : ∃ v, World.setCell v0 ⟨R, 1, none⟩ (.int .u64 (t.x : Int)) = v := ⟨_, rfl⟩
  have g1 : (World.heap v1)[R]? = some (.cells #[.int .i64 (tOp t.kind), .int .u64 (t.x : Int), .int .u64 0, .int .i64 0, .int .i64 0, .int .i64 0, .int .i64 0, .int .i64 0, .int .i64 0] 66) := by rw [← hv1]; exact (heap_setCell_same _ R 1 _ _ _ g0).trans rfl
  have B1 : Below w.heap.size w v1 := by rw [← hv1]; exact Below.setCell B0 (p := ⟨R, 1, none⟩) hRle _
  rw [hv1]
  obtain ⟨v2, hv2⟩ : ∃ v, World.setCell v1 ⟨R, 2, none⟩ (.int .u64 (t.y : Int)) = v := ⟨_, rfl⟩
  have g2 : (World.heap v2)[R]? = some (.cells #[.int .i64 (tOp t.kind), .int .u64 (t.x : Int), .int .u64 (t.y : Int), .int .i64 0, .int .i64 0, .int .i64 0, .int .i64 0, .int .i64 0, .int .i64 0] 66) := by rw [← hv2]; exact (heap_setCell_same _ R 2 _ _ _ g1).trans rfl
  have B2 : Below w.heap.size w v2 := by rw [← hv2]; exact Below.setCell B1 (p := ⟨R, 2, none⟩) hRle _
  rw [hv2]
  obtain ⟨v3, hv3⟩ : ∃ v, World.setCell v2 ⟨R, 3, none⟩ (.int .i64 t.day) = v := ⟨_, rfl⟩
  have g3 : (World.heap v3)[R]? = some (.cells #[.int .i64 (tOp t.kind), .int .u64 (t.x : Int), .int .u64 (t.y : Int), .int .i64 t.day, .int .i64 0, .int .i64 0, .int .i64 0, .int .i64 0, .int .i64 0] 66) := by rw [← hv3]; exact (heap_setCell_same _ R 3 _ _ _ g2).trans rfl
  have B3 : Below w.heap.size w v3 := by rw [← hv3]; exact Below.setCell B2 (p := ⟨R, 3, none⟩) hRle _
  rw [hv3]
  obtain ⟨v4, hv4⟩ : ∃ v, World.setCell v3 ⟨R, 4, none⟩ (.int .i64 t.to) = v := ⟨_, rfl⟩
  have g4 : (World.heap v4)[R]? = some (.cells #[.int .i64 (tOp t.kind), .int .u64 (t.x : Int), .int .u64 (t.y : Int), .int .i64 t.day, .int .i64 t.to, .int .i64 0, .int .i64 0, .int .i64 0, .int .i64 0] 66) := by rw [← hv4]; exact (heap_setCell_same _ R 4 _ _ _ g3).trans rfl
  have B4 : Below w.heap.size w v4 := by rw [← hv4]; exact Below.setCell B3 (p := ⟨R, 4, none⟩) hRle _
  rw [hv4]
  obtain ⟨v5, hv5⟩ : ∃ v, World.setCell v4 ⟨R, 5, none⟩ (.int .i64 t.cur) = v := ⟨_, rfl⟩
  have g5 : (World.heap v5)[R]? = some (.cells #[.int .i64 (tOp t.kind), .int .u64 (t.x : Int), .int .u64 (t.y : Int), .int .i64 t.day, .int .i64 t.to, .int .i64 t.cur, .int .i64 0, .int .i64 0, .int .i64 0] 66) := by rw [← hv5]; exact (heap_setCell_same _ R 5 _ _ _ g4).trans rfl
  have B5 : Below w.heap.size w v5 := by rw [← hv5]; exact Below.setCell B4 (p := ⟨R, 5, none⟩) hRle _
  rw [hv5]
  obtain ⟨v6, hv6⟩ : ∃ v, World.setCell v5 ⟨R, 6, none⟩ (.int .i64 t.count) = v := ⟨_, rfl⟩
  have g6 : (World.heap v6)[R]? = some (.cells #[.int .i64 (tOp t.kind), .int .u64 (t.x : Int), .int .u64 (t.y : Int), .int .i64 t.day, .int .i64 t.to, .int .i64 t.cur, .int .i64 t.count, .int .i64 0, .int .i64 0] 66) := by rw [← hv6]; exact (heap_setCell_same _ R 6 _ _ _ g5).trans rfl
  have B6 : Below w.heap.size w v6 := by rw [← hv6]; exact Below.setCell B5 (p := ⟨R, 6, none⟩) hRle _
  rw [hv6]
  obtain ⟨v7, hv7⟩ : ∃ v, World.setCell v6 ⟨R, 7, none⟩ (.int .i64 t.n) = v := ⟨_, rfl⟩
  have g7 : (World.heap v7)[R]? = some (.cells #[.int .i64 (tOp t.kind), .int .u64 (t.x : Int), .int .u64 (t.y : Int), .int .i64 t.day, .int .i64 t.to, .int .i64 t.cur, .int .i64 t.count, .int .i64 t.n, .int .i64 0] 66) := by rw [← hv7]; exact (heap_setCell_same _ R 7 _ _ _ g6).trans rfl
  have B7 : Below w.heap.size w v7 := by rw [← hv7]; exact Below.setCell B6 (p := ⟨R, 7, none⟩) hRle _
  rw [hv7]
  obtain ⟨v8, hv8⟩ : ∃ v, World.setCell v7 ⟨R, 8, none⟩ (.int .i64 t.months) = v := ⟨_, rfl⟩
  have g8 : (World.heap v8)[R]? = some (.cells #[.int .i64 (tOp t.kind), .int .u64 (t.x : Int), .int .u64 (t.y : Int), .int .i64 t.day, .int .i64 t.to, .int .i64 t.cur, .int .i64 t.count, .int .i64 t.n, .int .i64 t.months] 66) := by rw [← hv8]; exact (heap_setCell_same _ R 8 _ _ _ g7).trans rfl
  have B8 : Below w.heap.size w v8 := by rw [← hv8]; exact Below.setCell B7 (p := ⟨R, 8, none⟩) hRle _
  rw [hv8]
  have HE := hidD (And.intro g8 B8)
  have z0 := (opx_cells g8 0 rfl).1
  have z1 := (opx_cells g8 1 rfl).1
  have z2 := (opx_cells g8 2 rfl).1
  have z3 := (opx_cells g8 3 rfl).1
  have z4 := (opx_cells g8 4 rfl).1
  have z5 := (opx_cells g8 5 rfl).1
  have z6 := (opx_cells g8 6 rfl).1
  have z7 := (opx_cells g8 7 rfl).1
  have z8 := (opx_cells g8 8 rfl).1
  clear hv0 g0 B0 hv1 g1 B1 hv2 g2 B2 hv3 g3 B3 hv4 g4 B4 hv5 g5 B5 hv6 g6 B6 hv7 g7 B7 hv8 g8 B8 k0 c0 k1 c1 k2 c2 k3 c3 k4 c4 k5 c5 k6 c6 k7 c7 k8 c8 k9 c9 k10 c10 r0 y0 r1 y1 r2 y2 r3 y3 r4 y4 r5 y5 r6 y6 r7 y7 r8 y8 HT3 HR3 HB3
  go_wp2_with fail
  exact bodyPost_ret (v := .agg (opD (opT t))) (by simp [results, Tryz.results45, go_sem, opD, opT, *]) rfl ⟨rfl, HE.out.2⟩
theorem cod_len {ts : List Trm} {i K : Nat} {l : List Opr} (h : CodR ts i l K) : l.length ≤ K := by
  induction h with
  | zero => simp
  | leaf => simp
  | both => rw [List.length_append]; omega
  | one => rw [List.length_cons, List.length_append, List.length_singleton]; omega
theorem rowD_one (o : Opr) : rowV opD [o] = (opD o).toList := by simp [rowV]
set_option maxRecDepth 20000 in
set_option maxHeartbeats 25600000 in
theorem r18Code_any {ts : List Trm} {i K : Nat} {l : List Opr} (h : CodR ts i l K) (n : Nat) (p : Option Addr) (b off c : Nat) (hn : ts.length = n) (hK : K ≤ 4096) : ∀ w : World, TDS w p b off ts →
    Calls Tryz.prog 24 #[.slice p n c, .int .i64 i] w fun e w' => (∃ v, e = .returned v ∧ w'.ownsRow w.heap.size 66 9 v l.length (rowV opD l)) ∧ Below w.heap.size w w' := by
  have HN := hidD hn
  induction h with
  | zero i hi hk =>
    intro w hs
    have hin : i < n := by rw [← hn]; exact hi
    obtain rfl := hs.at_ (by omega)
    have c0 := hs.c0 i hi
    have i1 : (i : Int) < (n : Int) := by omega
    have i2 : (0 : Int) ≤ (i : Int) := by omega
    rw [hk] at c0
    have HO := hidD (orow_nil w.heap.size w 66 9)
    clear hs hn hi hk hin hK
    go_enter Tryz.func24, Tryz.ntmps24
    go_wp2_with fail
    go_ret
    exact ⟨⟨_, rfl, HO.out⟩, Below.refl _ _⟩
  | leaf i hi hk =>
    intro w hs
    have hin : i < n := by rw [← hn]; exact hi
    obtain rfl := hs.at_ (by omega)
    have hbl : b < w.heap.size := hs.lt (by omega)
    have hbn := Nat.ne_of_lt hbl
    have c0 := hs.c0 i hi
    have c1 := hs.c1 i hi
    have c2 := hs.c2 i hi
    have c3 := hs.c3 i hi
    have c4 := hs.c4 i hi
    have c5 := hs.c5 i hi
    have c6 := hs.c6 i hi
    have c7 := hs.c7 i hi
    have c8 := hs.c8 i hi
    have c9 := hs.c9 i hi
    have c10 := hs.c10 i hi
    have i1 : (i : Int) < (n : Int) := by omega
    have i2 : (0 : Int) ≤ (i : Int) := by omega
    obtain ⟨t, ht⟩ : ∃ t, ts.getD i trm0 = t := ⟨_, rfl⟩
    rw [ht] at c0 c1 c2 c3 c4 c5 c6 c7 c8 c9 c10 hk ⊢
    have HOp := hidD (r18Op_any t)
    have z1 : (t.kind == 1) = false := beq_eq_false_iff_ne.2 (by omega)
    unfold trD opD at HOp
    unfold opT at HOp
    dsimp only at HOp
    rcases hk with hk | hk
    · have z2 : (t.kind == 2) = true := by rw [hk]; rfl
      clear hs hn hi hk hin hK ht
      go_enter Tryz.func24, Tryz.ntmps24
      go_wp2_with fail
      refine (HOp.out _).mono ?_
      rintro e w1 ⟨rfl, hb1⟩
      have H1 := hidD hb1
      clear hb1 c0 c1 c2 c3 c4 c5 c6 c7 c8 c9 c10
      have HB2 := hidD (H1.out.trans ((al_bel w1 (.cells #[.int .i64 (tOp t.kind), .int .u64 (t.x : Int), .int .u64 (t.y : Int), .int .i64 t.day, .int .i64 t.to, .int .i64 t.cur, .int .i64 t.count, .int .i64 t.n, .int .i64 t.months] 66)).mono H1.out.size))
      have HR2 : Hid ((w1.alloc (.cells #[.int .i64 (tOp t.kind), .int .u64 (t.x : Int), .int .u64 (t.y : Int), .int .i64 t.day, .int .i64 t.to, .int .i64 t.cur, .int .i64 t.count, .int .i64 t.n, .int .i64 t.months] 66)).ownsRow w.heap.size 66 9 (.slice (some ⟨w1.heap.size, 0, none⟩) 1 1) 1 (rowV opD [opT t])) := ⟨rfl, .inr ⟨w1.heap.size, 1, _, rfl, H1.out.size, heap_alloc_new _ _, Nat.le_refl _, by decide, rfl, rfl⟩⟩
      go_wp2_with fail
      go_ret
      exact ⟨⟨_, rfl, HR2.out⟩, HB2.out⟩
    · have z2 : (t.kind == 2) = false := by rw [hk]; rfl
      have z3 : (t.kind == 3) = true := by rw [hk]; rfl
      clear hs hn hi hk hin hK ht
      go_enter Tryz.func24, Tryz.ntmps24
      go_wp2_with fail
      refine (HOp.out _).mono ?_
      rintro e w1 ⟨rfl, hb1⟩
      have H1 := hidD hb1
      clear hb1 c0 c1 c2 c3 c4 c5 c6 c7 c8 c9 c10
      have HB2 := hidD (H1.out.trans ((al_bel w1 (.cells #[.int .i64 (tOp t.kind), .int .u64 (t.x : Int), .int .u64 (t.y : Int), .int .i64 t.day, .int .i64 t.to, .int .i64 t.cur, .int .i64 t.count, .int .i64 t.n, .int .i64 t.months] 66)).mono H1.out.size))
      have HR2 : Hid ((w1.alloc (.cells #[.int .i64 (tOp t.kind), .int .u64 (t.x : Int), .int .u64 (t.y : Int), .int .i64 t.day, .int .i64 t.to, .int .i64 t.cur, .int .i64 t.count, .int .i64 t.n, .int .i64 t.months] 66)).ownsRow w.heap.size 66 9 (.slice (some ⟨w1.heap.size, 0, none⟩) 1 1) 1 (rowV opD [opT t])) := ⟨rfl, .inr ⟨w1.heap.size, 1, _, rfl, H1.out.size, heap_alloc_new _ _, Nat.le_refl _, by decide, rfl, rfl⟩⟩
      go_wp2_with fail
      go_ret
      exact ⟨⟨_, rfl, HR2.out⟩, HB2.out⟩
  | both i a bb la lb ka kb hi hk ha hb h1 h2 hca hcb iha ihb =>
    intro w hs
    have HIA := hidD (iha (by omega))
    have HIB := hidD (ihb (by omega))
    have hla := cod_len hca
    have hlb := cod_len hcb
    have hin : i < n := by rw [← hn]; exact hi
    have HS := hidD hs
    obtain rfl := hs.at_ (by omega)
    have hbl : b < w.heap.size := hs.lt (by omega)
    have hbn := Nat.ne_of_lt hbl
    have c0 := hs.c0 i hi
    have c1 := hs.c1 i hi
    rw [hk] at c0
    rw [ha] at c1
    have HC2 : Hid (∀ w', Below w.heap.size w w' → w'.cell? ⟨b, off + i * 11 + 2, none⟩ = some (.int .i64 (bb : Int))) := fun w' hb' => by rw [← hb]; exact (HS.out.below hb').c2 i hi
    have i1 : (i : Int) < (n : Int) := by omega
    have i2 : (0 : Int) ≤ (i : Int) := by omega
    have hla2 : la.length ≤ 4096 := by omega
    have hlb2 : lb.length ≤ 4096 := by omega
    obtain ⟨LA, hLA⟩ : ∃ LA, la.length = LA := ⟨_, rfl⟩
    obtain ⟨LB, hLB⟩ : ∃ LB, lb.length = LB := ⟨_, rfl⟩
    have HLL := hidD (And.intro hLA hLB)
    rw [hLA] at HIA hla2
    rw [hLB] at HIB hlb2
    have HO0 := hidD (orow_nil w.heap.size w 66 9)
    clear hs hn hi hk hin hK iha ihb hca hcb ha hb h1 h2 hla hlb hLA hLB
    go_enter Tryz.func24, Tryz.ntmps24
    go_wp2_with fail
    refine (HIA.out w HS.out).mono ?_
    rintro e w1 ⟨⟨va, rfl, hoa⟩, hba⟩
    have HA1 := hidD (And.intro hoa hba)
    clear hoa hba
    have HO1 := hidD (orow_below HO0.out HA1.out.2)
    go_wp2_with (at_builtin; refine wpList_append_v _ Tryz.underlying28 info_opD rfl (by decide) rfl (.tmp 25) (.tmp 32) rfl w.heap.size (.slice none 0 0) 0 [] rfl HO1.out HA1.out.2.size w.heap.size LA va (rowV opD la) rfl HA1.out.1 (rowV_one opD_one _) (by omega) (by omega) ?_; intro v2 w2 ho2 hb2; rw [List.nil_append, Nat.zero_add] at ho2; have H2 := hidD (And.intro ho2 (HA1.out.2.trans hb2)); clear ho2 hb2; refine stopLc ?_; intro LL HLL)
    have d2 := HC2.out w2 H2.out.2
    have eLL := HLL.out
    clear HLL
    subst eLL
    go_wp2_with fail
    refine (HIB.out w2 (HS.out.below H2.out.2)).mono ?_
    rintro e w3 ⟨⟨vb, rfl, hob⟩, hbb⟩
    have H3 := hidD (And.intro hob (And.intro (orow_below H2.out.1 hbb) (H2.out.2.trans (hbb.mono H2.out.2.size))))
    clear hob hbb d2
    go_wp2_with (at_builtin; refine wpList_append_v _ Tryz.underlying28 info_opD rfl (by decide) rfl (.tmp 34) (.tmp 41) rfl w.heap.size v2 LA (rowV opD la) rfl H3.out.2.1 H3.out.2.2.size w2.heap.size LB vb (rowV opD lb) rfl H3.out.1 (rowV_one opD_one _) (by omega) (by omega) ?_; intro v4 w4 ho4 hb4; rw [← rowV_append] at ho4; have H4 := hidD (And.intro ho4 (H3.out.2.2.trans hb4)); clear ho4 hb4)
    go_ret
    refine ⟨⟨_, rfl, ?_⟩, H4.out.2⟩
    have := H4.out.1
    rw [List.length_append, HLL.out.1, HLL.out.2]
    exact this
  | one i a la ka hi hk ha h1 hca iha =>
    intro w hs
    have HIA := hidD (iha (by omega))
    have hla := cod_len hca
    have hin : i < n := by rw [← hn]; exact hi
    have HS := hidD hs
    obtain rfl := hs.at_ (by omega)
    have hbl : b < w.heap.size := hs.lt (by omega)
    have hbn := Nat.ne_of_lt hbl
    have c0 := hs.c0 i hi
    have c1 := hs.c1 i hi
    rw [ha] at c1
    have HCA : Hid (∀ w', Below w.heap.size w w' → TDS w' (some ⟨b, off, none⟩) b off ts) := fun w' hb' => HS.out.below hb'
    have HI := hidD hi
    have i1 : (i : Int) < (n : Int) := by omega
    have i2 : (0 : Int) ≤ (i : Int) := by omega
    have hla2 : la.length ≤ 4096 := by omega
    obtain ⟨LA, hLA⟩ : ∃ LA, la.length = LA := ⟨_, rfl⟩
    have HLL := hidD hLA
    rw [hLA] at HIA hla2
    obtain ⟨t, ht⟩ : ∃ t, ts.getD i trm0 = t := ⟨_, rfl⟩
    have HTt := hidD ht
    have ha' := ha
    rw [ht] at c0 hk ha' ⊢
    have HOp := hidD (r18Op_any t)
    unfold trD opD at HOp
    unfold opT at HOp
    dsimp only at HOp
    have z1 : (t.kind == 1) = false := beq_eq_false_iff_ne.2 (by omega)
    have z2 : (t.kind == 2) = false := beq_eq_false_iff_ne.2 (by omega)
    have z3 : (t.kind == 3) = false := beq_eq_false_iff_ne.2 (by omega)
    have z5 : (t.kind == 5) = false := beq_eq_false_iff_ne.2 (by omega)
    have HM1 : Hid (∀ w0, w0 = w → (w0.alloc (.cells #[.int .i64 1, .int .u64 0, .int .u64 0, .int .i64 0, .int .i64 0, .int .i64 0, .int .i64 0, .int .i64 0, .int .i64 0] 66)).ownsRow w.heap.size 66 9 (.slice (some ⟨w.heap.size, 0, none⟩) 1 1) 1 (rowV opD [markO])) := fun w0 hw0 => by
      rw [hw0]
      exact ⟨rfl, .inr ⟨w.heap.size, 1, _, rfl, Nat.le_refl _, heap_alloc_new _ _, Nat.le_refl _, by decide, rfl, rfl⟩⟩
    have HB1 := hidD (al_bel w (.cells #[.int .i64 1, .int .u64 0, .int .u64 0, .int .i64 0, .int .i64 0, .int .i64 0, .int .i64 0, .int .i64 0, .int .i64 0] 66))
    have HM := hidD (HM1.out w rfl)
    have HT1 := hidD (HS.out.below HB1.out)
    have d1 := HT1.out.c1 i hi
    rw [ht, ha'] at d1
    clear HM1 hs hn hi ha' hk hin hK iha hca ha h1 hla hLA ht
    go_enter Tryz.func24, Tryz.ntmps24
    go_wp2_with fail
    refine (HIA.out _ HT1.out).mono ?_
    rintro e w1 ⟨⟨va, rfl, hoa⟩, hba⟩
    have HA1 := hidD (And.intro hoa (And.intro (orow_below HM.out hba) (HB1.out.trans (hba.mono HB1.out.size))))
    clear hoa hba d1
    go_wp2_with (at_builtin; refine wpList_append_v _ Tryz.underlying28 info_opD rfl (by decide) rfl (.tmp 45) (.tmp 52) rfl w.heap.size (.slice (some ⟨w.heap.size, 0, none⟩) 1 1) 1 (rowV opD [markO]) rfl HA1.out.2.1 HA1.out.2.2.size _ LA va (rowV opD la) rfl HA1.out.1 (rowV_one opD_one _) (by omega) (by omega) ?_; intro v2 w2 ho2 hb2; rw [← rowV_append, Nat.add_comm 1 LA] at ho2; have H2 := hidD (And.intro ho2 (HA1.out.2.2.trans hb2)); clear ho2 hb2; refine stopLc ?_; intro LL HLL)
    have HTw := HCA.out w2 H2.out.2
    have e0 := HTw.c0 i HI.out
    have e1 := HTw.c1 i HI.out
    have e2 := HTw.c2 i HI.out
    have e3 := HTw.c3 i HI.out
    have e4 := HTw.c4 i HI.out
    have e5 := HTw.c5 i HI.out
    have e6 := HTw.c6 i HI.out
    have e7 := HTw.c7 i HI.out
    have e8 := HTw.c8 i HI.out
    have e9 := HTw.c9 i HI.out
    have e10 := HTw.c10 i HI.out
    rw [HTt.out] at e0 e1 e2 e3 e4 e5 e6 e7 e8 e9 e10
    have hbl2 : b < w2.heap.size := by have := H2.out.2.size; omega
    have hbn2 := Nat.ne_of_lt hbl2
    clear HTw
    have eLL := HLL.out
    clear HLL
    subst eLL
    go_wp2_with fail
    refine (HOp.out _).mono ?_
    rintro e w3 ⟨rfl, hb3⟩
    have H3 := hidD (And.intro (orow_below H2.out.1 hb3) (H2.out.2.trans (hb3.mono H2.out.2.size)))
    clear hb3 e0 e1 e2 e3 e4 e5 e6 e7 e8 e9 e10
    have HB4 := hidD (al_bel w3 (.cells #[.int .i64 (tOp t.kind), .int .u64 (t.x : Int), .int .u64 (t.y : Int), .int .i64 t.day, .int .i64 t.to, .int .i64 t.cur, .int .i64 t.count, .int .i64 t.n, .int .i64 t.months] 66))
    have HO4 := hidD (orow_below H3.out.1 HB4.out)
    have HB5 := hidD (H3.out.2.trans (HB4.out.mono H3.out.2.size))
    have HC4 : Hid (∀ j u, (rowV opD [opT t])[j]? = some u → (w3.alloc (.cells #[.int .i64 (tOp t.kind), .int .u64 (t.x : Int), .int .u64 (t.y : Int), .int .i64 t.day, .int .i64 t.to, .int .i64 t.cur, .int .i64 t.count, .int .i64 t.n, .int .i64 t.months] 66)).cell? ⟨w3.heap.size, j, none⟩ = some u) := fun j u hj => new_cells w3 (opD (opT t)) 66 j u (by rw [rowD_one] at hj; exact hj)
    go_wp2_with (at_builtin; refine wpList_append_g _ Tryz.underlying28 info_opD rfl (by decide) rfl (.tmp 54) (.tmp 60) rfl w.heap.size v2 (LA + 1) (rowV opD ([markO] ++ la)) rfl HO4.out HB5.out.size w3.heap.size 1 1 (rowV opD [opT t]) rfl rfl HC4.out (rowV_one opD_one _) (by omega) (by omega) ?_; intro v5 w5 ho5 hg5; rw [← rowV_append] at ho5; have H5 := hidD (And.intro ho5 (HB5.out.trans (orow_grown HO4.out hg5 HB5.out.size))); clear ho5 hg5)
    go_ret
    refine ⟨⟨_, rfl, ?_⟩, H5.out.2⟩
    have := H5.out.1
    first | rw [List.length_cons, List.length_append, List.length_singleton, HLL.out] | rw [List.length_append, List.length_singleton, HLL.out]
    exact this
end Go.Proofs.YtienedhaogjahaaGreatDoor
namespace Go.Proofs.YtienedhaogjahaaGreatDoor
open Go.RowKit

set_option maxRecDepth 20000 in
theorem dCheck_of (v : Value) (D E A : Int) (w : World) (hm : Calls Tryz.prog 41 #[v] w fun e w' => e = .returned (.tuple #[.int .i64 D, .int .i64 E, .int .i64 A]) ∧ Below w.heap.size w w') : Calls Tryz.prog 21 #[v] w fun e w' => e = .returned (.tuple #[.int .i64 E, .int .i64 A]) ∧ Below w.heap.size w w' := by
  have H := hidD hm
  clear hm
  go_enter Tryz.func21, Tryz.ntmps21
  go_wp2_with fail
  refine H.out.mono ?_
  rintro e w1 ⟨rfl, hb⟩
  have HB := hidD hb
  clear hb
  go_wp2_with fail
  go_ret2
  exact ⟨rfl, HB.out⟩
theorem dMes_is {ts : List Trm} {D E A : Int} (hm : MesR ts D E A) (n : Nat) (p0 : Option Addr) (b off c : Nat) (w : World) (hs : TSrc w p0 b off ts) (hn : ts.length = n) (hu : ∀ i < n, TrU (ts.getD i trm0)) (hl : n ≤ 9223372036854775807) :
    Calls Tryz.prog 41 #[.slice p0 n c] w fun e w' => e = .returned (.tuple #[.int .i64 D, .int .i64 E, .int .i64 A]) ∧ Below w.heap.size w w' :=
  (measure_any ts n p0 b off c w hs hn hu hl).mono fun e w' ⟨D', E', A', he, hm', hb⟩ => by
    obtain ⟨rfl, rfl, rfl⟩ := hm.unique hm'
    exact ⟨he, hb⟩
theorem dCheck_is {ts : List Trm} {D E A : Int} (hm : MesR ts D E A) (n : Nat) (p0 : Option Addr) (b off c : Nat) (w : World) (hs : TSrc w p0 b off ts) (hn : ts.length = n) (hu : ∀ i < n, TrU (ts.getD i trm0)) (hl : n ≤ 9223372036854775807) :
    Calls Tryz.prog 21 #[.slice p0 n c] w fun e w' => e = .returned (.tuple #[.int .i64 E, .int .i64 A]) ∧ Below w.heap.size w w' := dCheck_of _ D E A w (dMes_is hm n p0 b off c w hs hn hu hl)
theorem tsrc_of {w : World} {B n c : Nat} {p : Option Addr} {l : List Trm} (h : w.ownsRow B 50 11 (.slice p n c) n (rowV trC l)) (hn : l.length = n) : ∃ g, TSrc w p g 0 l := by
  obtain ⟨p', c', g, hv, _, _, hp, _, hb, hc, _⟩ := orow_src h
  injection hv with hv1 hv2 hv3
  subst hv1 hv3
  have hg : ∀ i < l.length, ∀ j < 11, w.cell? ⟨g, i * 11 + j, none⟩ = (trC (l.getD i trm0))[j]? := fun i hi j hj => by
    rw [hc _ (by omega), rowV_get (f := trC) (s := 11) (fun _ => rfl) trm0 l i j hi hj]
  refine ⟨g, ⟨fun h => hp (by omega), fun h => (hb _ (hp (by omega))).2.2, ?_, ?_, ?_, ?_, ?_, ?_, ?_, ?_, ?_, ?_, ?_⟩⟩ <;> intro i hi <;> rw [Nat.zero_add]
  · exact hg i hi 0 (by decide)
  · exact hg i hi 1 (by decide)
  · exact hg i hi 2 (by decide)
  · exact hg i hi 3 (by decide)
  · exact hg i hi 4 (by decide)
  · exact hg i hi 5 (by decide)
  · exact hg i hi 6 (by decide)
  · exact hg i hi 7 (by decide)
  · exact hg i hi 8 (by decide)
  · exact hg i hi 9 (by decide)
  · exact hg i hi 10 (by decide)
end Go.Proofs.YtienedhaogjahaaGreatDoor
namespace Go.Proofs.YtienedhaogjahaaGreatDoor
open Go.RowKit

set_option maxRecDepth 20000 in
theorem cCompile_bad {ts : List Trm} {D E A : Int} (hm : MesR ts D E A) (hE : E ≠ 0) (n : Nat) (p0 : Option Addr) (b off c : Nat) (w : World) (hs : TSrc w p0 b off ts) (hn : ts.length = n) (hu : ∀ i < n, TrU (ts.getD i trm0)) (hl : n ≤ 9223372036854775807) :
    Calls Tryz.prog 8 #[.slice p0 n c] w fun e w' => e = .returned (.tuple #[.slice none 0 0, .int .i64 E]) ∧ Below w.heap.size w w' := by
  have HC := hidD (dCheck_is hm n p0 b off c w hs hn hu hl)
  have z : (E != 0) = true := bne_iff_ne.2 hE
  clear hm hE hs hn hu hl
  go_enter Tryz.func8, Tryz.ntmps8
  go_wp2_with fail
  refine HC.out.mono ?_
  rintro e w1 ⟨rfl, hb⟩
  have HB := hidD hb
  clear hb
  go_wp2_with fail
  go_ret2
  exact ⟨rfl, HB.out⟩
set_option maxRecDepth 20000 in
theorem cCompile_ok {ts : List Trm} {D A : Int} (hm : MesR ts D 0 A) {l : List Opr} {K n : Nat} (hn : ts.length = n) (h1 : 1 ≤ n) (h2 : n ≤ 1024) (hc : CodR ts (n - 1) l K) (hK : K ≤ 2048) (p0 : Option Addr) (b off c : Nat) (w : World) (hs : TSrc w p0 b off ts) (hu : ∀ i < n, TrU (ts.getD i trm0)) :
    Calls Tryz.prog 8 #[.slice p0 n c] w fun e w' => (∃ v, e = .returned (.tuple #[v, .int .i64 0]) ∧ w'.ownsRow w.heap.size 47 9 v l.length (rowV opC l)) ∧ Below w.heap.size w w' := by
  have HC := hidD (dCheck_is hm n p0 b off c w hs hn hu (by omega))
  have HS := hidD hs
  have HD := hidD (fun w (h : TSrc w p0 b off ts) => compiled_cod hn h1 h2 hc hK c p0 b off w h)
  clear hm hs hn hu hc h1 hK
  go_enter Tryz.func8, Tryz.ntmps8
  go_wp2_with fail
  refine HC.out.mono ?_
  rintro e w1 ⟨rfl, hb⟩
  have HB := hidD hb
  have HS1 := hidD (HS.out.below hb)
  clear hb
  go_wp2_with fail
  refine (HD.out _ HS1.out).mono ?_
  rintro e w2 ⟨v, rfl, ho, hb⟩
  have H2 := hidD (And.intro (orow_lower ho HB.out.size) (HB.out.trans (hb.mono HB.out.size)))
  clear ho hb
  go_wp2_with fail
  go_ret2
  exact ⟨⟨_, rfl, H2.out.1⟩, H2.out.2⟩
end Go.Proofs.YtienedhaogjahaaGreatDoor
namespace Go.Proofs.YtienedhaogjahaaGreatDoor
open Go.RowKit

theorem MeaR.none {l : List Opr} {M E A : Int} (h : MeaR l M E A) (he : E ≠ 0) : M = 0 := by
  cases h with
  | long => rfl
  | bad => rfl
  | left => rfl
  | fine => exact absurd rfl he
end Go.Proofs.YtienedhaogjahaaGreatDoor
