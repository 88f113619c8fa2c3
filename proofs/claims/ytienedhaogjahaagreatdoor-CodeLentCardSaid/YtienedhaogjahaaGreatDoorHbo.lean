/- Package code: a tree out of code. Deals compiled, and code as a tree, in plain words: the code of the tree of a code is that code; code of a tree may be. Deals compiled, in plain words: code of a tree may be. -/
import Derived.Test.YtienedhaogjahaaGreatDoorHbn
import Derived.Test.YtienedhaogjahaaGreatDoorHbc
import Derived.Test.YtienedhaogjahaaGreatDoorHbm
import Derived.Test.YtienedhaogjahaaGreatDoorHbh
namespace Go.Proofs.YtienedhaogjahaaGreatDoor
open Go.RowKit

theorem ans_tm {k o t : Int} {b : Bool} (h : cAns (fun i => ckO i == k) o t b) : t = oTm k := by
  rcases h with ⟨hn, _, rfl, _⟩ | ⟨i, hi, hp, _, _, rfl, _⟩
  · by_cases h2 : 2 ≤ k ∧ k ≤ 7
    · have := hn (k - 2).toNat (by omega)
      have this' : (ckO (k - 2).toNat == k) = false := this
      have e : ckO (k - 2).toNat = k := by unfold ckO; omega
      rw [e, beq_self_eq_true] at this'
      cases this'
    · unfold oTm; rw [if_neg (by omega), if_neg (by omega)]
  · have e : ckO i = k := by simpa using hp
    unfold ckO at e
    unfold ckT oTm
    subst e
    by_cases h3 : i < 3
    · rw [if_pos h3, if_pos (by omega)]
    · rw [if_neg h3, if_neg (by omega), if_pos (by omega)]; omega
set_option maxRecDepth 20000 in
set_option maxHeartbeats 6400000 in
theorem cTermOf_any (o : Opr) (w : World) : Calls Tryz.prog 47 #[.agg (opC o)] w fun e w' => e = .returned (.agg (trC (tmO o))) ∧ Below w.heap.size w w' := by
  have hf1 := fieldC1
  have hst := store_fltD
  have HK : Hid (∀ wx, Calls Tryz.prog 48 #[.agg (opC o)] wx fun e w' => (∃ xo xb, e = .returned (.agg #[.int .i64 xo, .int .i64 (oTm o.kind), .bool xb])) ∧ Below wx.heap.size wx w') := fun wx => (kindOf_any o wx).mono fun e w' ⟨xo, xt, xb, he, ha, hb⟩ => ⟨⟨xo, xb, by rw [he, ans_tm ha]⟩, hb⟩
  unfold opC at HK
  unfold opC
  go_enter Tryz.func47, Tryz.ntmps47
  go_wp2_with fail
  have HT : Hid (((w.alloc (.cells #[.int .i64 o.kind, .float .f64 o.x, .float .f64 o.y, .int .i64 o.day, .int .i64 o.to, .int .i64 o.cur, .int .i64 o.count, .int .i64 o.n, .int .i64 o.months] 47)).alloc (.cells #[.int .i64 0, .int .i64 0, .int .i64 0, .float .f64 0, .float .f64 0, .int .i64 0, .int .i64 0, .int .i64 0, .int .i64 0, .int .i64 0, .int .i64 0] 50)).heap[w.heap.size]? = some (.cells #[.int .i64 o.kind, .float .f64 o.x, .float .f64 o.y, .int .i64 o.day, .int .i64 o.to, .int .i64 o.cur, .int .i64 o.count, .int .i64 o.n, .int .i64 o.months] 47)) := by
    show _ = _
    rw [al_at, sz_al, if_neg (by omega)]; exact heap_alloc_new _ _
  have HR : Hid (((w.alloc (.cells #[.int .i64 o.kind, .float .f64 o.x, .float .f64 o.y, .int .i64 o.day, .int .i64 o.to, .int .i64 o.cur, .int .i64 o.count, .int .i64 o.n, .int .i64 o.months] 47)).alloc (.cells #[.int .i64 0, .int .i64 0, .int .i64 0, .float .f64 0, .float .f64 0, .int .i64 0, .int .i64 0, .int .i64 0, .int .i64 0, .int .i64 0, .int .i64 0] 50)).heap[w.heap.size + 1]? = some (.cells #[.int .i64 0, .int .i64 0, .int .i64 0, .float .f64 0, .float .f64 0, .int .i64 0, .int .i64 0, .int .i64 0, .int .i64 0, .int .i64 0, .int .i64 0] 50)) := by
    show _ = _
    rw [al_at, sz_al, if_pos rfl]
  have HB : Hid (Below w.heap.size w ((w.alloc (.cells #[.int .i64 o.kind, .float .f64 o.x, .float .f64 o.y, .int .i64 o.day, .int .i64 o.to, .int .i64 o.cur, .int .i64 o.count, .int .i64 o.n, .int .i64 o.months] 47)).alloc (.cells #[.int .i64 0, .int .i64 0, .int .i64 0, .float .f64 0, .float .f64 0, .int .i64 0, .int .i64 0, .int .i64 0, .int .i64 0, .int .i64 0, .int .i64 0] 50))) := ((Below.refl _ _).alloc (Nat.le_refl _) _).alloc (by simp) _
  obtain ⟨w2, hw2⟩ : ∃ w2, ((w.alloc (.cells #[.int .i64 o.kind, .float .f64 o.x, .float .f64 o.y, .int .i64 o.day, .int .i64 o.to, .int .i64 o.cur, .int .i64 o.count, .int .i64 o.n, .int .i64 o.months] 47)).alloc (.cells #[.int .i64 0, .int .i64 0, .int .i64 0, .float .f64 0, .float .f64 0, .int .i64 0, .int .i64 0, .int .i64 0, .int .i64 0, .int .i64 0, .int .i64 0] 50)) = w2 := ⟨_, rfl⟩
  rw [hw2] at HT HR HB ⊢
  clear hw2
  obtain ⟨R, hR⟩ : ∃ R, w.heap.size + 1 = R := ⟨_, rfl⟩
  obtain ⟨T, hT⟩ : ∃ T, w.heap.size = T := ⟨_, rfl⟩
  have hTR : T ≠ R := by omega
  have hRle : w.heap.size ≤ R := by omega
  rw [hR] at HR ⊢
  rw [hT] at HT ⊢
  clear hR hT
  have HKa := hidD ((HK.out (w2.drewN 1)).mono fun e w' hh => (⟨hh.1, ⟨hh.2.os, hh.2.tape, hh.2.output, hh.2.size, hh.2.block⟩⟩ : _ ∧ Below w2.heap.size w2 w'))
  have c0 := (opx_cells HT.out 0 rfl).1
  have c1 := (opx_cells HT.out 1 rfl).1
  have c2 := (opx_cells HT.out 2 rfl).1
  have c3 := (opx_cells HT.out 3 rfl).1
  have c4 := (opx_cells HT.out 4 rfl).1
  have c5 := (opx_cells HT.out 5 rfl).1
  have c6 := (opx_cells HT.out 6 rfl).1
  have c7 := (opx_cells HT.out 7 rfl).1
  have c8 := (opx_cells HT.out 8 rfl).1
  go_region_held3 (fun x => x.cell? ⟨T, 0, none⟩ = some (.int .i64 o.kind) ∧ x.cell? ⟨T, 1, none⟩ = some (.float .f64 o.x) ∧ x.cell? ⟨T, 2, none⟩ = some (.float .f64 o.y) ∧ x.cell? ⟨T, 3, none⟩ = some (.int .i64 o.day) ∧ x.cell? ⟨T, 4, none⟩ = some (.int .i64 o.to) ∧ x.cell? ⟨T, 5, none⟩ = some (.int .i64 o.cur) ∧ x.cell? ⟨T, 6, none⟩ = some (.int .i64 o.count) ∧ x.cell? ⟨T, 7, none⟩ = some (.int .i64 o.n) ∧ x.cell? ⟨T, 8, none⟩ = some (.int .i64 o.months)) (first | go_keep | (with_reducible exact ⟨k0, k1, k2, k3, k4, k5, k6, k7, k8⟩) | (simp [go_sem, *])) ((go_at_call 48; refine HKa.out.mono ?_; rintro e w3 ⟨⟨xo, xb, rfl⟩, hb3⟩; have HT3 := hidD ((hb3.block _ (lt_of_blk HT.out)).trans HT.out); have HR3 := hidD ((hb3.block _ (lt_of_blk HR.out)).trans HR.out); have HB3 := hidD (HB.out.trans (hb3.mono HB.out.size)); have k0 := (opx_cells HT3.out 0 rfl).1; have k1 := (opx_cells HT3.out 1 rfl).1; have k2 := (opx_cells HT3.out 2 rfl).1; have k3 := (opx_cells HT3.out 3 rfl).1; have k4 := (opx_cells HT3.out 4 rfl).1; have k5 := (opx_cells HT3.out 5 rfl).1; have k6 := (opx_cells HT3.out 6 rfl).1; have k7 := (opx_cells HT3.out 7 rfl).1; have k8 := (opx_cells HT3.out 8 rfl).1; have r0 := (opx_cells HR3.out 0 rfl).1; have y0 := (opx_cells HR3.out 0 rfl).2; have r1 := (opx_cells HR3.out 1 rfl).1; have y1 := (opx_cells HR3.out 1 rfl).2; have r2 := (opx_cells HR3.out 2 rfl).1; have y2 := (opx_cells HR3.out 2 rfl).2; have r3 := (opx_cells HR3.out 3 rfl).1; have y3 := (opx_cells HR3.out 3 rfl).2; have r4 := (opx_cells HR3.out 4 rfl).1; have y4 := (opx_cells HR3.out 4 rfl).2; have r5 := (opx_cells HR3.out 5 rfl).1; have y5 := (opx_cells HR3.out 5 rfl).2; have r6 := (opx_cells HR3.out 6 rfl).1; have y6 := (opx_cells HR3.out 6 rfl).2; have r7 := (opx_cells HR3.out 7 rfl).1; have y7 := (opx_cells HR3.out 7 rfl).2; have r8 := (opx_cells HR3.out 8 rfl).1; have y8 := (opx_cells HR3.out 8 rfl).2; have r9 := (opx_cells HR3.out 9 rfl).1; have y9 := (opx_cells HR3.out 9 rfl).2; have r10 := (opx_cells HR3.out 10 rfl).1; have y10 := (opx_cells HR3.out 10 rfl).2; clear hb3))
  obtain ⟨v0, hv0⟩ : ∃ v, World.setCell w3 ⟨R, 0, none⟩ (.int .i64 (oTm o.kind)) = v := ⟨_, rfl⟩
  have g0 : (World.heap v0)[R]? = some (.cells #[.int .i64 (oTm o.kind), .int .i64 0, .int .i64 0, .float .f64 0, .float .f64 0, .int .i64 0, .int .i64 0, .int .i64 0, .int .i64 0, .int .i64 0, .int .i64 0] 50) := by rw [← hv0]; exact (heap_setCell_same _ R 0 _ _ _ HR3.out).trans rfl
  have B0 : Below w.heap.size w v0 := by rw [← hv0]; exact Below.setCell HB3.out (p := ⟨R, 0, none⟩) hRle _
  rw [hv0]
  obtain ⟨v1, hv1⟩ : ∃ v, World.setCell v0 ⟨R, 1, none⟩ (.int .i64 0) = v := ⟨_, rfl⟩
  have g1 : (World.heap v1)[R]? = some (.cells #[.int .i64 (oTm o.kind), .int .i64 0, .int .i64 0, .float .f64 0, .float .f64 0, .int .i64 0, .int .i64 0, .int .i64 0, .int .i64 0, .int .i64 0, .int .i64 0] 50) := by rw [← hv1]; exact (heap_setCell_same _ R 1 _ _ _ g0).trans rfl
  have B1 : Below w.heap.size w v1 := by rw [← hv1]; exact Below.setCell B0 (p := ⟨R, 1, none⟩) hRle _
  rw [hv1]
  obtain ⟨v2, hv2⟩ : ∃ v, World.setCell v1 ⟨R, 2, none⟩ (.int .i64 0) = v := ⟨_, rfl⟩
  have g2 : (World.heap v2)[R]? = some (.cells #[.int .i64 (oTm o.kind), .int .i64 0, .int .i64 0, .float .f64 0, .float .f64 0, .int .i64 0, .int .i64 0, .int .i64 0, .int .i64 0, .int .i64 0, .int .i64 0] 50) := by rw [← hv2]; exact (heap_setCell_same _ R 2 _ _ _ g1).trans rfl
  have B2 : Below w.heap.size w v2 := by rw [← hv2]; exact Below.setCell B1 (p := ⟨R, 2, none⟩) hRle _
  rw [hv2]
  obtain ⟨v3, hv3⟩ : ∃ v, World.setCell v2 ⟨R, 3, none⟩ (.float .f64 o.x) = v := ⟨_, rfl⟩
  have g3 : (World.heap v3)[R]? = some (.cells #[.int .i64 (oTm o.kind), .int .i64 0, .int .i64 0, .float .f64 o.x, .float .f64 0, .int .i64 0, .int .i64 0, .int .i64 0, .int .i64 0, .int .i64 0, .int .i64 0] 50) := by rw [← hv3]; exact (heap_setCell_same _ R 3 _ _ _ g2).trans rfl
  have B3 : Below w.heap.size w v3 := by rw [← hv3]; exact Below.setCell B2 (p := ⟨R, 3, none⟩) hRle _
  rw [hv3]
  obtain ⟨v4, hv4⟩ : ∃ v, World.setCell v3 ⟨R, 4, none⟩ (.float .f64 o.y) = v := ⟨_, rfl⟩
  have g4 : (World.heap v4)[R]? = some (.cells #[.int .i64 (oTm o.kind), .int .i64 0, .int .i64 0, .float .f64 o.x, .float .f64 o.y, .int .i64 0, .int .i64 0, .int .i64 0, .int .i64 0, .int .i64 0, .int .i64 0] 50) := by rw [← hv4]; exact (heap_setCell_same _ R 4 _ _ _ g3).trans rfl
  have B4 : Below w.heap.size w v4 := by rw [← hv4]; exact Below.setCell B3 (p := ⟨R, 4, none⟩) hRle _
  rw [hv4]
  obtain ⟨v5, hv5⟩ : ∃ v, World.setCell v4 ⟨R, 5, none⟩ (.int .i64 o.day) = v := ⟨_, rfl⟩
  have g5 : (World.heap v5)[R]? = some (.cells #[.int .i64 (oTm o.kind), .int .i64 0, .int .i64 0, .float .f64 o.x, .float .f64 o.y, .int .i64 o.day, .int .i64 0, .int .i64 0, .int .i64 0, .int .i64 0, .int .i64 0] 50) := by rw [← hv5]; exact (heap_setCell_same _ R 5 _ _ _ g4).trans rfl
  have B5 : Below w.heap.size w v5 := by rw [← hv5]; exact Below.setCell B4 (p := ⟨R, 5, none⟩) hRle _
  rw [hv5]
  obtain ⟨v6, hv6⟩ : ∃ v, World.setCell v5 ⟨R, 6, none⟩ (.int .i64 o.to) = v := ⟨_, rfl⟩
  have g6 : (World.heap v6)[R]? = some (.cells #[.int .i64 (oTm o.kind), .int .i64 0, .int .i64 0, .float .f64 o.x, .float .f64 o.y, .int .i64 o.day, .int .i64 o.to, .int .i64 0, .int .i64 0, .int .i64 0, .int .i64 0] 50) := by rw [← hv6]; exact (heap_setCell_same _ R 6 _ _ _ g5).trans rfl
  have B6 : Below w.heap.size w v6 := by rw [← hv6]; exact Below.setCell B5 (p := ⟨R, 6, none⟩) hRle _
  rw [hv6]
  obtain ⟨v7, hv7⟩ : ∃ v, World.setCell v6 ⟨R, 7, none⟩ (.int .i64 o.cur) = v := ⟨_, rfl⟩
  have g7 : (World.heap v7)[R]? = some (.cells #[.int .i64 (oTm o.kind), .int .i64 0, .int .i64 0, .float .f64 o.x, .float .f64 o.y, .int .i64 o.day, .int .i64 o.to, .int .i64 o.cur, .int .i64 0, .int .i64 0, .int .i64 0] 50) := by rw [← hv7]; exact (heap_setCell_same _ R 7 _ _ _ g6).trans rfl
  have B7 : Below w.heap.size w v7 := by rw [← hv7]; exact Below.setCell B6 (p := ⟨R, 7, none⟩) hRle _
  rw [hv7]
  obtain ⟨v8, hv8⟩ : ∃ v, World.setCell v7 ⟨R, 8, none⟩ (.int .i64 o.count) = v := ⟨_, rfl⟩
  have g8 : (World.heap v8)[R]? = some (.cells #[.int .i64 (oTm o.kind), .int .i64 0, .int .i64 0, .float .f64 o.x, .float .f64 o.y, .int .i64 o.day, .int .i64 o.to, .int .i64 o.cur, .int .i64 o.count, .int .i64 0, .int .i64 0] 50) := by rw [← hv8]; exact (heap_setCell_same _ R 8 _ _ _ g7).trans rfl
  have B8 : Below w.heap.size w v8 := by rw [← hv8]; exact Below.setCell B7 (p := ⟨R, 8, none⟩) hRle _
  rw [hv8]
  obtain ⟨v9, hv9⟩ : ∃ v, World.setCell v8 ⟨R, 9, none⟩ (.int .i64 o.n) = v := ⟨_, rfl⟩
  have g9 : (World.heap v9)[R]? = some (.cells #[.int .i64 (oTm o.kind), .int .i64 0, .int .i64 0, .float .f64 o.x, .float .f64 o.y, .int .i64 o.day, .int .i64 o.to, .int .i64 o.cur, .int .i64 o.count, .int .i64 o.n, .int .i64 0] 50) := by rw [← hv9]; exact (heap_setCell_same _ R 9 _ _ _ g8).trans rfl
  have B9 : Below w.heap.size w v9 := by rw [← hv9]; exact Below.setCell B8 (p := ⟨R, 9, none⟩) hRle _
  rw [hv9]
  obtain ⟨v10, hv10⟩ : ∃ v, World.setCell v9 ⟨R, 10, none⟩ (.int .i64 o.months) = v := ⟨_, rfl⟩
  have g10 : (World.heap v10)[R]? = some (.cells #[.int .i64 (oTm o.kind), .int .i64 0, .int .i64 0, .float .f64 o.x, .float .f64 o.y, .int .i64 o.day, .int .i64 o.to, .int .i64 o.cur, .int .i64 o.count, .int .i64 o.n, .int .i64 o.months] 50) := by rw [← hv10]; exact (heap_setCell_same _ R 10 _ _ _ g9).trans rfl
  have B10 : Below w.heap.size w v10 := by rw [← hv10]; exact Below.setCell B9 (p := ⟨R, 10, none⟩) hRle _
  rw [hv10]
  have HE := hidD (And.intro g10 B10)
  have z0 := (opx_cells g10 0 rfl).1
  have z1 := (opx_cells g10 1 rfl).1
  have z2 := (opx_cells g10 2 rfl).1
  have z3 := (opx_cells g10 3 rfl).1
  have z4 := (opx_cells g10 4 rfl).1
  have z5 := (opx_cells g10 5 rfl).1
  have z6 := (opx_cells g10 6 rfl).1
  have z7 := (opx_cells g10 7 rfl).1
  have z8 := (opx_cells g10 8 rfl).1
  have z9 := (opx_cells g10 9 rfl).1
  have z10 := (opx_cells g10 10 rfl).1
  clear hv0 g0 B0 hv1 g1 B1 hv2 g2 B2 hv3 g3 B3 hv4 g4 B4 hv5 g5 B5 hv6 g6 B6 hv7 g7 B7 hv8 g8 B8 hv9 g9 B9 hv10 g10 B10 k0 c0 k1 c1 k2 c2 k3 c3 k4 c4 k5 c5 k6 c6 k7 c7 k8 c8 r0 y0 r1 y1 r2 y2 r3 y3 r4 y4 r5 y5 r6 y6 r7 y7 r8 y8 r9 y9 r10 y10 HT3 HR3 HB3
  go_wp2_with fail
  exact bodyPost_ret (v := .agg (trC (tmO o))) (by simp [results, Tryz.results47, go_sem, trC, tmO, *]) rfl ⟨rfl, HE.out.2⟩
def bldS (o : Opr) (s : List Trm × List Int) : List Trm × List Int :=
  if o.kind = 1 then (s.1, s.2 ++ [-1])
  else if takO o = true then
    (bsT (s.2.dropLast.getLastD (-1)) ((whT (s.2.getLastD (-1)) s.1).length : Int) (whT (s.2.getLastD (-1)) s.1 ++ [{ tmO o with a := whI (s.2.getLastD (-1)) s.1 }]),
      s.2.dropLast.dropLast ++ [bsI (s.2.dropLast.getLastD (-1)) ((whT (s.2.getLastD (-1)) s.1).length : Int) (whT (s.2.getLastD (-1)) s.1 ++ [{ tmO o with a := whI (s.2.getLastD (-1)) s.1 }])])
  else (bsT (s.2.getLastD (-1)) (s.1.length : Int) (s.1 ++ [tmO o]), s.2.dropLast ++ [bsI (s.2.getLastD (-1)) (s.1.length : Int) (s.1 ++ [tmO o])])
def bldF (l : List Opr) : Nat → List Trm × List Int
  | 0 => ([], [-1])
  | k + 1 => bldS (l.getD k opr0) (bldF l k)
theorem whT_len (x : Int) (ts : List Trm) : (whT x ts).length ≤ ts.length + 1 := by unfold whT; split <;> simp
theorem bsT_len (x p : Int) (ts : List Trm) : (bsT x p ts).length ≤ ts.length + 1 := by unfold bsT; split <;> simp
theorem bldF_len {l : List Opr} (h : OkL l) : ∀ k, k ≤ l.length → ((bldF l k).2.length : Int) = mkN l k + 1 ∧ (bldF l k).1.length ≤ 3 * k
  | 0, _ => ⟨rfl, Nat.le_refl _⟩
  | k + 1, hk => by
    obtain ⟨h1, h2⟩ := bldF_len h k (by omega)
    have hb := h.ok k (by omega)
    have m0 := (mk_range l k (fun i hi => h.ok i (by omega))).1
    have e : mkN l (k + 1) = if (l.getD k opr0).kind = 1 then mkN l k + 1 else if takO (l.getD k opr0) then mkN l k - 1 else mkN l k := rfl
    rw [e]
    show ((bldS (l.getD k opr0) (bldF l k)).2.length : Int) = _ ∧ (bldS (l.getD k opr0) (bldF l k)).1.length ≤ _
    unfold bldS
    by_cases hk1 : (l.getD k opr0).kind = 1
    · rw [if_pos hk1, if_pos hk1]
      refine ⟨by rw [List.length_append, List.length_singleton]; omega, by show (bldF l k).1.length ≤ _; omega⟩
    · rw [if_neg hk1, if_neg hk1]
      by_cases ht : takO (l.getD k opr0) = true
      · have hm : mkN l k ≠ 0 := fun e => by rw [e] at hb; exact absurd hb (bad_take ht)
        rw [if_pos ht, if_pos ht]
        refine ⟨by rw [List.length_append, List.length_singleton, List.length_dropLast, List.length_dropLast]; omega, ?_⟩
        have a1 := whT_len ((bldF l k).2.getLastD (-1)) (bldF l k).1
        refine Nat.le_trans (bsT_len _ _ _) ?_
        rw [List.length_append, List.length_singleton]; omega
      · rw [if_neg ht, if_neg ht]
        refine ⟨by rw [List.length_append, List.length_singleton, List.length_dropLast]; omega, ?_⟩
        refine Nat.le_trans (bsT_len _ _ _) ?_
        rw [List.length_append, List.length_singleton]; omega
set_option maxRecDepth 20000 in
set_option maxHeartbeats 25600000 in
theorem rebuilt_any (l : List Opr) (N : Nat) (p : Option Addr) (b0 off c : Nat) (w : World) (hs : OSrc w p b0 off l) (hN : l.length = N) (hok : OkL l) (hz : mkN l N = 0) :
    Calls Tryz.prog 26 #[.slice p N c] w fun e w' => (∃ v, e = .returned v ∧ w'.ownsRow w.heap.size 50 11 v (whT ((bldF l N).2.getLastD (-1)) (bldF l N).1).length (rowV trC (whT ((bldF l N).2.getLastD (-1)) (bldF l N).1))) ∧ Below w.heap.size w w' := by
  have HS := hidD (And.intro hs (And.intro hN (And.intro hok hz)))
  have hN2 : N ≤ 8192 := by have := hok.len; omega
  have hst := store_fltD
  have HI0 : Hid (BlM w.heap.size (w.heap.size + 1) (.slice none 0 0) (.slice (some ⟨w.heap.size, 0, none⟩) 1 1) (bldF l 0).1 (bldF l 0).2 ((w.alloc (.cells #[.int .i64 (-1)] 3)).alloc (.cells #[.slice none 0 0, .slice (some ⟨w.heap.size, 0, none⟩) 1 1] 108)) ∧ Below w.heap.size w ((w.alloc (.cells #[.int .i64 (-1)] 3)).alloc (.cells #[.slice none 0 0, .slice (some ⟨w.heap.size, 0, none⟩) 1 1] 108))) := by
    refine ⟨⟨?_, orow_nil _ _ _ _, ?_⟩, ((Below.refl _ _).alloc (Nat.le_refl _) _).alloc (by simp) _⟩
    · rw [al_at, sz_al, if_pos rfl]
    · refine ⟨rfl, .inr ⟨w.heap.size, 1, #[.int .i64 (-1)], rfl, Nat.le_refl _, ?_, Nat.le_refl _, by decide, rfl, rfl⟩⟩
      rw [al_at, sz_al, if_neg (by omega)]; exact heap_alloc_new _ _
  clear hs hN hok hz
  go_enter Tryz.func26, Tryz.ntmps26
  go_wp2_with fail
  generalize hw3 : World.alloc _ _ = w3 at HI0 ⊢
  obtain ⟨b, hb⟩ : ∃ b, w.heap.size + 1 = b := ⟨_, rfl⟩
  have HBb : Hid (w.heap.size ≤ b) := by show _ ≤ _; omega
  rw [hb] at HI0 ⊢
  clear hw3 hb
  go_loopw [12] (fun i wr => ∃ (k : Nat) (tv pv : Value), k ≤ N ∧ i = .int .i64 k ∧ Hid (BlM w.heap.size b tv pv (bldF l k).1 (bldF l k).2 wr ∧ Below w.heap.size w wr)) (fun i _ => N - (intOf i).toNat)
  case atStart => exact ⟨0, _, _, Nat.zero_le _, rfl, HI0⟩
  case round =>
    clear HI0
    obtain ⟨k, tv, pv, hk, rfl, HI⟩ := hrel
    obtain ⟨hL1, hL2⟩ := bldF_len HS.out.2.2.1 k (by rw [HS.out.2.1]; exact hk)
    have m0 := mk_range l k (fun i hi => HS.out.2.2.1.ok i (by rw [HS.out.2.1]; omega))
    by_cases hlt : k < N
    · have hlt' : k < l.length := by rw [HS.out.2.1]; exact hlt
      have HQr := HS.out.1.below HI.out.2
      obtain rfl := HQr.at_ (by omega)
      have c0 := HQr.c0 k hlt'
      have c1 := HQr.c1 k hlt'
      have c2 := HQr.c2 k hlt'
      have c3 := HQr.c3 k hlt'
      have c4 := HQr.c4 k hlt'
      have c5 := HQr.c5 k hlt'
      have c6 := HQr.c6 k hlt'
      have c7 := HQr.c7 k hlt'
      have c8 := HQr.c8 k hlt'
      have hbl : b0 < wr.heap.size := HQr.lt (by omega)
      have hbn := Nat.ne_of_lt hbl
      have hbad := HS.out.2.2.1.ok k hlt'
      have HNx : Hid (bldF l (k + 1) = bldS (l.getD k opr0) (bldF l k)) := rfl
      have HTo := hidD (cTermOf_any (l.getD k opr0))
      have HKo := hidD (kindOf_any (l.getD k opr0))
      obtain ⟨o, ho⟩ : ∃ o, l.getD k opr0 = o := ⟨_, rfl⟩
      rw [ho] at c0 c1 c2 c3 c4 c5 c6 c7 c8 hbad HNx HTo HKo
      obtain ⟨ts, hts⟩ : ∃ ts, (bldF l k).1 = ts := ⟨_, rfl⟩
      obtain ⟨ps, hps⟩ : ∃ ps, (bldF l k).2 = ps := ⟨_, rfl⟩
      rw [hts] at hL2
      rw [hps] at hL1
      have HI1 : Hid (BlM w.heap.size b tv pv ts ps wr ∧ Below w.heap.size w wr) := by rw [← hts, ← hps]; exact HI.out
      have hbS : bldS o (bldF l k) = bldS o (ts, ps) := by rw [← hts, ← hps]
      rw [hbS] at HNx
      obtain ⟨ms, x, rfl⟩ := list_last ps (by omega)
      have hp1 : (ms ++ [x]).getLastD (-1) = x := by simp
      have hp2 : (ms ++ [x]).dropLast = ms := by simp
      rw [List.length_append, List.length_singleton] at hL1
      have htl : ts.length ≤ 24576 := by omega
      have hml : ms.length ≤ 64 := by omega
      have i1 : (k : Int) < (N : Int) := by omega
      have HB1 : Hid (w.heap.size ≤ wr.heap.size) := HI1.out.2.size
      have HW1 := hidD (al_bel wr (.cells #[.int .i64 o.kind, .float .f64 o.x, .float .f64 o.y, .int .i64 o.day, .int .i64 o.to, .int .i64 o.cur, .int .i64 o.count, .int .i64 o.n, .int .i64 o.months] 47))
      have HI2 : Hid (BlM w.heap.size b tv pv ts (ms ++ [x]) (wr.alloc (.cells #[.int .i64 o.kind, .float .f64 o.x, .float .f64 o.y, .int .i64 o.day, .int .i64 o.to, .int .i64 o.cur, .int .i64 o.count, .int .i64 o.n, .int .i64 o.months] 47)) ∧ Below w.heap.size w (wr.alloc (.cells #[.int .i64 o.kind, .float .f64 o.x, .float .f64 o.y, .int .i64 o.day, .int .i64 o.to, .int .i64 o.cur, .int .i64 o.count, .int .i64 o.n, .int .i64 o.months] 47))) := ⟨HI1.out.1.below HW1.out, HI1.out.2.trans (HW1.out.mono HB1.out)⟩
      have HO1 : Hid ((wr.alloc (.cells #[.int .i64 o.kind, .float .f64 o.x, .float .f64 o.y, .int .i64 o.day, .int .i64 o.to, .int .i64 o.cur, .int .i64 o.count, .int .i64 o.n, .int .i64 o.months] 47)).heap[wr.heap.size]? = some (.cells #[.int .i64 o.kind, .float .f64 o.x, .float .f64 o.y, .int .i64 o.day, .int .i64 o.to, .int .i64 o.cur, .int .i64 o.count, .int .i64 o.n, .int .i64 o.months] 47)) := heap_alloc_new _ _
      have hs1 : (wr.alloc (.cells #[.int .i64 o.kind, .float .f64 o.x, .float .f64 o.y, .int .i64 o.day, .int .i64 o.to, .int .i64 o.cur, .int .i64 o.count, .int .i64 o.n, .int .i64 o.months] 47)).heap.size = wr.heap.size + 1 := by simp
      have HS1 := hidD hs1
      unfold opC at HTo HKo
      clear HQr hlt' ho hts hps hbS HI hs1
      by_cases hk1 : o.kind = 1
      · have z : (o.kind == 1) = true := beq_iff_eq.2 hk1
        have HNy : Hid (bldF l (k + 1) = (ts, (ms ++ [x]) ++ [-1])) := by show _ = _; rw [HNx.out]; unfold bldS; exact if_pos hk1
        clear hk1 hbad HNx HTo HKo
        obtain ⟨gp, cp, hpv, _⟩ := int_last HI1.out.1.pieces
        subst hpv
        obtain ⟨r0, r1, rf⟩ := HI1.out.1.cells
        have y1 := rf 1
        have HWa := hidD (al_bel (wr.alloc (.cells #[.int .i64 o.kind, .float .f64 o.x, .float .f64 o.y, .int .i64 o.day, .int .i64 o.to, .int .i64 o.cur, .int .i64 o.count, .int .i64 o.n, .int .i64 o.months] 47)) (.cells #[.int .i64 (-1)] 3))
        have HIa := hidD (HI2.out.1.below HWa.out)
        have HBa : Hid (Below w.heap.size w ((wr.alloc (.cells #[.int .i64 o.kind, .float .f64 o.x, .float .f64 o.y, .int .i64 o.day, .int .i64 o.to, .int .i64 o.cur, .int .i64 o.count, .int .i64 o.n, .int .i64 o.months] 47)).alloc (.cells #[.int .i64 (-1)] 3))) := HI2.out.2.trans (HWa.out.mono HI2.out.2.size)
        have HCa : Hid (∀ j u, (rowV inC [-1])[j]? = some u → ((wr.alloc (.cells #[.int .i64 o.kind, .float .f64 o.x, .float .f64 o.y, .int .i64 o.day, .int .i64 o.to, .int .i64 o.cur, .int .i64 o.count, .int .i64 o.n, .int .i64 o.months] 47)).alloc (.cells #[.int .i64 (-1)] 3)).cell? ⟨wr.heap.size + 1, j, none⟩ = some u) := fun j u hj => by
          have := new_cells (wr.alloc (.cells #[.int .i64 o.kind, .float .f64 o.x, .float .f64 o.y, .int .i64 o.day, .int .i64 o.to, .int .i64 o.cur, .int .i64 o.count, .int .i64 o.n, .int .i64 o.months] 47)) (inC (-1)) 3 j u (by simpa [rowV] using hj)
          rw [HS1.out] at this; exact this
        obtain ⟨M, hM⟩ : ∃ M, ms.length = M := ⟨_, rfl⟩
        have HM := hidD hM
        rw [hM] at r1 hml
        have hbw1 : b < wr.heap.size := lt_of_blk HI1.out.1.box
        have hbn1 := Nat.ne_of_lt hbw1
        clear rf hM HI1 HW1 HO1 hL1 hL2 htl m0 r0
        go_wp2_with (at_builtin; refine wpList_append_g _ Tryz.underlying101 info_int rfl (by decide) rfl (.tmp 23) (.tmp 24) rfl w.heap.size (.slice (some ⟨gp, 0, none⟩) (M + 1) cp) (M + 1) (rowV inC (ms ++ [x])) rfl (by have := HIa.out.pieces; rw [List.length_append, List.length_singleton, HM.out] at this; exact this) HBa.out.size (wr.heap.size + 1) 1 1 (rowV inC [-1]) rfl rfl HCa.out (rowV_one inC_one _) (by omega) (by omega) ?_; intro v5 w5 ho5 hg5; have te := HIa.out.repiece HBb.out HBa.out.size (by rw [HM.out]; exact hg5) (pv' := v5) (ps' := (ms ++ [x]) ++ [-1]) (row_more (by rw [List.length_append, List.length_singleton, HM.out]; exact ho5) rfl); obtain ⟨p5, c5, g5, hv5, _, _, hp5, _⟩ := orow_src ho5; obtain rfl := hp5 (by omega); subst hv5; clear hp5; have HTE := hidD (And.intro te.2.1 (HBa.out.trans te.2.2)); have q5 := (opx_cells te.1 1 rfl).1; have y5 := (opx_cells te.1 1 rfl).2; clear ho5 hg5 te)
        go_roundw
        case rel => exact ⟨k + 1, _, _, by omega, by go_num, by rw [HNy.out]; exact HTE.out⟩
        case measure => simp [intOf]; omega
      · have z : (o.kind == 1) = false := beq_eq_false_iff_ne.2 hk1
        have HTk : Hid (∀ wx, Calls Tryz.prog 48 #[.agg #[.int .i64 o.kind, .float .f64 o.x, .float .f64 o.y, .int .i64 o.day, .int .i64 o.to, .int .i64 o.cur, .int .i64 o.count, .int .i64 o.n, .int .i64 o.months]] wx fun e w' => (∃ xo xt, e = .returned (.agg #[.int .i64 xo, .int .i64 xt, .bool (takO o)])) ∧ Below wx.heap.size wx w') := fun wx => (HKo.out wx).mono fun e w' ⟨xo, xt, xb, he, ha, hb⟩ => ⟨⟨xo, xt, by rw [he, ans_takes ha]; rfl⟩, hb⟩
        have hf2 := fieldC2
        unfold trC tmO at HTo
        dsimp only at HTo
        have HBn : Hid (takO o = true → ∃ ms' y, ms = ms' ++ [y]) := fun ht => by
          have hm : mkN l k ≠ 0 := fun e => by rw [e] at hbad; exact absurd hbad (bad_take ht)
          exact list_last ms (by omega)
        have HN1 : Hid (takO o = false → bldF l (k + 1) = (bsT x (ts.length : Int) (ts ++ [tmO o]), ms ++ [bsI x (ts.length : Int) (ts ++ [tmO o])])) := fun ht => by
          rw [HNx.out]; unfold bldS
          rw [if_neg hk1, if_neg (by rw [ht]; decide)]
          show (bsT ((ms ++ [x]).getLastD (-1)) _ _, (ms ++ [x]).dropLast ++ [bsI ((ms ++ [x]).getLastD (-1)) _ _]) = _
          rw [hp1, hp2]
        have HN2 : Hid (takO o = true → ∀ ms' y, ms = ms' ++ [y] → bldF l (k + 1) = (bsT y ((whT x ts).length : Int) (whT x ts ++ [{ tmO o with a := whI x ts }]), ms' ++ [bsI y ((whT x ts).length : Int) (whT x ts ++ [{ tmO o with a := whI x ts }])])) := fun ht ms' y hy => by
          rw [HNx.out]; unfold bldS
          rw [if_neg hk1, if_pos ht]
          show (bsT ((ms ++ [x]).dropLast.getLastD (-1)) ((whT ((ms ++ [x]).getLastD (-1)) ts).length : Int) (whT ((ms ++ [x]).getLastD (-1)) ts ++ [{ tmO o with a := whI ((ms ++ [x]).getLastD (-1)) ts }]), (ms ++ [x]).dropLast.dropLast ++ [bsI ((ms ++ [x]).dropLast.getLastD (-1)) ((whT ((ms ++ [x]).getLastD (-1)) ts).length : Int) (whT ((ms ++ [x]).getLastD (-1)) ts ++ [{ tmO o with a := whI ((ms ++ [x]).getLastD (-1)) ts }])]) = _
          rw [hp1, hp2, hy]
          simp
        clear hk1 hbad HNx HKo hp1 hp2 HI1 HW1 hL1 m0
        have HFx : Hid (htl = htl ∧ hml = hml) := ⟨rfl, rfl⟩
        go_wp2_with fail
        refine (HTo.out _).mono ?_
        rintro e w2 ⟨rfl, hb2⟩
        have HI3 := hidD (And.intro (HI2.out.1.below hb2) (HI2.out.2.trans (hb2.mono HI2.out.2.size)))
        have HO3 := hidD ((hb2.block _ (lt_of_blk HO1.out)).trans HO1.out)
        have HW3 := hidD (al_bel w2 (.cells #[.int .i64 (oTm o.kind), .int .i64 0, .int .i64 0, .float .f64 o.x, .float .f64 o.y, .int .i64 o.day, .int .i64 o.to, .int .i64 o.cur, .int .i64 o.count, .int .i64 o.n, .int .i64 o.months] 50))
        have HI4 := hidD (And.intro (HI3.out.1.below HW3.out) (HI3.out.2.trans (HW3.out.mono HI3.out.2.size)))
        have HO4 := hidD ((HW3.out.block _ (lt_of_blk HO3.out)).trans HO3.out)
        have HX4 : Hid ((w2.alloc (.cells #[.int .i64 (oTm o.kind), .int .i64 0, .int .i64 0, .float .f64 o.x, .float .f64 o.y, .int .i64 o.day, .int .i64 o.to, .int .i64 o.cur, .int .i64 o.count, .int .i64 o.n, .int .i64 o.months] 50)).heap[w2.heap.size]? = some (.cells #[.int .i64 (oTm o.kind), .int .i64 0, .int .i64 0, .float .f64 o.x, .float .f64 o.y, .int .i64 o.day, .int .i64 o.to, .int .i64 o.cur, .int .i64 o.count, .int .i64 o.n, .int .i64 o.months] 50)) := heap_alloc_new _ _
        have e0 := (opx_cells HO3.out 0 rfl).1
        have e1 := (opx_cells HO3.out 1 rfl).1
        have e2 := (opx_cells HO3.out 2 rfl).1
        have e3 := (opx_cells HO3.out 3 rfl).1
        have e4 := (opx_cells HO3.out 4 rfl).1
        have e5 := (opx_cells HO3.out 5 rfl).1
        have e6 := (opx_cells HO3.out 6 rfl).1
        have e7 := (opx_cells HO3.out 7 rfl).1
        have e8 := (opx_cells HO3.out 8 rfl).1
        have hrw : wr.heap.size < w2.heap.size := lt_of_blk HO3.out
        have hrn := Nat.ne_of_lt hrw
        clear hb2 c0 c1 c2 c3 c4 c5 c6 c7 c8 hbl hbn HI2 HO1
        go_wp2_with fail
        refine (HTk.out _).mono ?_
        rintro e w3 ⟨⟨xo, xt, rfl⟩, hb3⟩
        have HI5 := hidD (And.intro (HI4.out.1.below hb3) (HI4.out.2.trans (hb3.mono HI4.out.2.size)))
        have HX5 := hidD ((hb3.block _ (lt_of_blk HX4.out)).trans HX4.out)
        clear hb3 e0 e1 e2 e3 e4 e5 e6 e7 e8 HI4 HO3 HO4 HX4 HW3 hrw hrn
        obtain ⟨X, hX⟩ : ∃ X, w2.heap.size = X := ⟨_, rfl⟩
        have HXB : Hid (w.heap.size ≤ X) := by show _ ≤ _; rw [← hX]; exact HI3.out.2.size
        have HXb : Hid (X ≠ b) := fun e => by have := lt_of_blk HI3.out.1.box; omega
        have HXo : Hid (some X ≠ tv.ownBlock) := fun e => by have := (HI3.out.1.terms.lt X e.symm).2; omega
        rw [hX] at HX5 ⊢
        clear hX HI3
        cases ht : takO o
        · have HNy := hidD (HN1.out ht)
          have HAd := hidD (blAdd_any w.heap.size b tv pv ts (ms ++ [x]) (tmO o) w3 HI5.out.1 HBb.out (by omega))
          have HBs : Hid (∀ wx v, BlM w.heap.size b v pv (ts ++ [tmO o]) (ms ++ [x]) wx → Calls Tryz.prog 50 #[.pointer (some ⟨b, 0, none⟩), .int .i64 (ts.length : Int)] wx fun e w' => e = .returned (.tuple #[]) ∧ (∃ v v', BlM w.heap.size b v v' (bsT x (ts.length : Int) (ts ++ [tmO o])) (ms ++ [bsI x (ts.length : Int) (ts ++ [tmO o])]) w') ∧ Below w.heap.size wx w') := fun wx v t => blBeside_any w.heap.size b v pv _ ms x _ wx t HBb.out (by simp; omega) (by omega)
          unfold trC tmO at HAd
          dsimp only at HAd
          have d0 := (opx_cells HX5.out 0 rfl).1
          have d1 := (opx_cells HX5.out 1 rfl).1
          have d2 := (opx_cells HX5.out 2 rfl).1
          have d3 := (opx_cells HX5.out 3 rfl).1
          have d4 := (opx_cells HX5.out 4 rfl).1
          have d5 := (opx_cells HX5.out 5 rfl).1
          have d6 := (opx_cells HX5.out 6 rfl).1
          have d7 := (opx_cells HX5.out 7 rfl).1
          have d8 := (opx_cells HX5.out 8 rfl).1
          have d9 := (opx_cells HX5.out 9 rfl).1
          have d10 := (opx_cells HX5.out 10 rfl).1
          clear ht HN1 HN2 HBn
          go_wp2_with fail
          refine HAd.out.mono ?_
          rintro e w4 ⟨rfl, ⟨v4, h4, _⟩, hb4⟩
          have H4 := hidD (And.intro h4 (HI5.out.2.trans hb4))
          clear h4 hb4 d0 d1 d2 d3 d4 d5 d6 d7 d8 d9 d10
          go_wp2_with fail
          refine (HBs.out _ _ H4.out.1).mono ?_
          rintro e w5 ⟨rfl, ⟨v5, v5', h5⟩, hb5⟩
          have H5 := hidD (And.intro h5 (H4.out.2.trans hb5))
          clear h5 hb5
          go_wp2_with fail
          go_roundw
          case rel => exact ⟨k + 1, _, _, by omega, by go_num, by rw [HNy.out]; exact H5.out⟩
          case measure => simp [intOf]; omega
        · obtain ⟨ms', y, rfl⟩ := HBn.out ht
          have HNy := hidD (HN2.out ht ms' y rfl)
          have hwl := whT_len x ts
          have hml' : ms'.length ≤ 64 := by rw [List.length_append] at hml; omega
          have HWh := hidD (blWhole_any w.heap.size b tv pv ts (ms' ++ [y]) x w3 HI5.out.1 HBb.out (by omega) (by omega))
          have HAd : Hid (∀ wx v v', BlM w.heap.size b v v' (whT x ts) (ms' ++ [y]) wx → Calls Tryz.prog 51 #[.pointer (some ⟨b, 0, none⟩), .agg (trC { tmO o with a := whI x ts })] wx fun e w' => e = .returned (.int .i64 ((whT x ts).length : Int)) ∧ (∃ u, BlM w.heap.size b u v' (whT x ts ++ [{ tmO o with a := whI x ts }]) (ms' ++ [y]) w') ∧ Below w.heap.size wx w') := fun wx v v' t => (blAdd_any w.heap.size b v v' _ _ _ wx t HBb.out (by omega)).mono fun e w' h => ⟨h.1, h.2.1.imp fun _ h => h.1, h.2.2⟩
          have HBs : Hid (∀ wx v v', BlM w.heap.size b v v' (whT x ts ++ [{ tmO o with a := whI x ts }]) (ms' ++ [y]) wx → Calls Tryz.prog 50 #[.pointer (some ⟨b, 0, none⟩), .int .i64 ((whT x ts).length : Int)] wx fun e w' => e = .returned (.tuple #[]) ∧ (∃ v v', BlM w.heap.size b v v' (bsT y ((whT x ts).length : Int) (whT x ts ++ [{ tmO o with a := whI x ts }])) (ms' ++ [bsI y ((whT x ts).length : Int) (whT x ts ++ [{ tmO o with a := whI x ts }])]) w') ∧ Below w.heap.size wx w') := fun wx v v' t => blBeside_any w.heap.size b v v' _ ms' y _ wx t HBb.out (by rw [List.length_append, List.length_singleton]; omega) (by omega)
          unfold trC tmO at HAd
          dsimp only at HAd
          generalize whI x ts = A at *
          generalize hLw : (whT x ts).length = LW at *
          have d1 := (opx_cells HX5.out 1 rfl).1
          have f1 := (opx_cells HX5.out 1 rfl).2
          clear ht HN1 HN2 HBn
          go_wp2_with fail
          refine HWh.out.mono ?_
          rintro e w4 ⟨rfl, ⟨v4, v4', h4, hk4⟩, hb4⟩
          have HX6 : Hid (w4.heap[X]? = some (.cells #[.int .i64 (oTm o.kind), .int .i64 0, .int .i64 0, .float .f64 o.x, .float .f64 o.y, .int .i64 o.day, .int .i64 o.to, .int .i64 o.cur, .int .i64 o.count, .int .i64 o.n, .int .i64 o.months] 50)) := by
            show _ = _
            rw [hk4.keep X (lt_of_blk HX5.out) HXb.out HXo.out]; exact HX5.out
          have H4 := hidD (And.intro h4 (HI5.out.2.trans hb4))
          have hXB : w.heap.size ≤ X := HXB.out
          have hXv : ∀ g, v4.ownBlock = some g → g ≠ X := fun g hg e => by
            rcases hk4.lies with h | h
            · rw [hg, e] at h; exact HXo.out h
            · have := h g hg; have := lt_of_blk HX5.out; omega
          clear h4 hb4 hk4 d1 f1
          have d1 := (opx_cells HX6.out 1 rfl).1
          have f1 := (opx_cells HX6.out 1 rfl).2
          have HX7 : Hid ((w4.setCell ⟨X, 1, none⟩ (.int .i64 A)).heap[X]? = some (.cells #[.int .i64 (oTm o.kind), .int .i64 A, .int .i64 0, .float .f64 o.x, .float .f64 o.y, .int .i64 o.day, .int .i64 o.to, .int .i64 o.cur, .int .i64 o.count, .int .i64 o.n, .int .i64 o.months] 50)) := (heap_setCell_same w4 X 1 _ _ _ HX6.out).trans rfl
          have H7 : Hid (BlM w.heap.size b v4 v4' (whT x ts) (ms' ++ [y]) (w4.setCell ⟨X, 1, none⟩ (.int .i64 A)) ∧ Below w.heap.size w (w4.setCell ⟨X, 1, none⟩ (.int .i64 A))) := by
            have t4 := H4.out.1
            refine ⟨⟨(blkF_far _ _ _ _ HXb.out.symm).trans t4.box, orow_keep t4.terms fun g hg => blkF_far _ _ _ _ fun e => hXv g hg e, orow_keep t4.pieces fun g hg => blkF_far _ _ _ _ (orow_box t4.pieces HX6.out (by decide) g hg)⟩, H4.out.2.setCell (p := ⟨X, 1, none⟩) hXB _⟩
          obtain ⟨w7, hw7⟩ : ∃ w7, w4.setCell ⟨X, 1, none⟩ (.int .i64 A) = w7 := ⟨_, rfl⟩
          rw [hw7] at HX7 H7
          have x0 := (opx_cells HX7.out 0 rfl).1
          have x1 := (opx_cells HX7.out 1 rfl).1
          have x2 := (opx_cells HX7.out 2 rfl).1
          have x3 := (opx_cells HX7.out 3 rfl).1
          have x4 := (opx_cells HX7.out 4 rfl).1
          have x5 := (opx_cells HX7.out 5 rfl).1
          have x6 := (opx_cells HX7.out 6 rfl).1
          have x7 := (opx_cells HX7.out 7 rfl).1
          have x8 := (opx_cells HX7.out 8 rfl).1
          have x9 := (opx_cells HX7.out 9 rfl).1
          have x10 := (opx_cells HX7.out 10 rfl).1
          go_wp2_with fail
          refine (HAd.out _ _ _ H7.out.1).mono ?_
          rintro e w8 ⟨rfl, ⟨v8, h8⟩, hb8⟩
          have H8 := hidD (And.intro h8 (H7.out.2.trans hb8))
          clear h8 hb8 x0 x1 x2 x3 x4 x5 x6 x7 x8 x9 x10
          go_wp2_with fail
          refine (HBs.out _ _ _ H8.out.1).mono ?_
          rintro e w9 ⟨rfl, ⟨v9, v9', h9⟩, hb9⟩
          have H9 := hidD (And.intro h9 (H8.out.2.trans hb9))
          clear h9 hb9
          go_wp2_with fail
          go_roundw
          case rel => exact ⟨k + 1, _, _, by omega, by go_num, by rw [HNy.out]; exact H9.out⟩
          case measure => simp [intOf]; omega
    · obtain rfl : k = N := by omega
      have i1 : ¬ (k : Int) < (k : Int) := by omega
      obtain ⟨ts, hts⟩ : ∃ ts, (bldF l k).1 = ts := ⟨_, rfl⟩
      obtain ⟨ps, hps⟩ : ∃ ps, (bldF l k).2 = ps := ⟨_, rfl⟩
      have hz := HS.out.2.2.2
      rw [hz, hps] at hL1
      rw [hts] at hL2
      obtain ⟨x, rfl⟩ : ∃ x, ps = [x] := by
        match ps, (show ps.length = 1 by omega) with
        | [x], _ => exact ⟨x, rfl⟩
      have HE : Hid ((bldF l k).2.getLastD (-1) = x ∧ (bldF l k).1 = ts) := by rw [hps, hts]; exact ⟨rfl, rfl⟩
      have HI1 : Hid (BlM w.heap.size b tv pv ts ([] ++ [x]) wr ∧ Below w.heap.size w wr) := by rw [← hts]; have := HI.out; rw [hps] at this; exact this
      have HWh := hidD (blWhole_any w.heap.size b tv pv ts [] x wr HI1.out.1 HBb.out (by omega) (by simp))
      have HB1 : Hid (Below w.heap.size w wr) := HI1.out.2
      clear hts hps hz HI HI1 hL1 hL2 m0
      go_wp2_with fail
      refine HWh.out.mono ?_
      rintro e w4 ⟨rfl, ⟨v4, v4', h4, _⟩, hb4⟩
      have H4 := hidD (And.intro h4 (HB1.out.trans hb4))
      clear h4 hb4
      obtain ⟨p4, c4, g4, hv4, _⟩ := orow_src H4.out.1.terms
      subst hv4
      have r0 := H4.out.1.cells.1
      go_wp2_with fail
      go_ret
      refine ⟨⟨_, rfl, ?_⟩, H4.out.2⟩
      rw [HE.out.1, HE.out.2]
      exact H4.out.1.terms
end Go.Proofs.YtienedhaogjahaaGreatDoor
namespace Go.Proofs.YtienedhaogjahaaGreatDoor
open Go.RowKit

theorem CodR.unique {ts : List Trm} {i K K' : Nat} {l l' : List Opr} (h : CodR ts i l K) (h' : CodR ts i l' K') : l = l' ∧ K = K' := by
  induction h generalizing l' K' with
  | zero i hi hk =>
    cases h' with
    | zero => exact ⟨rfl, rfl⟩
    | leaf _ _ h => omega
    | both _ _ _ _ _ _ _ _ h => omega
    | one _ _ _ _ _ h => omega
  | leaf i hi hk =>
    cases h' with
    | zero _ _ h => omega
    | leaf => exact ⟨rfl, rfl⟩
    | both _ _ _ _ _ _ _ _ h => omega
    | one _ _ _ _ _ h => omega
  | both i a b la lb ka kb hi hk ha hb h1 h2 _ _ iha ihb =>
    cases h' with
    | zero _ _ h => omega
    | leaf _ _ h => omega
    | both _ a' b' la' lb' ka' kb' _ _ ha' hb' _ _ ca' cb' =>
      obtain rfl : a = a' := by omega
      obtain rfl : b = b' := by omega
      obtain ⟨e1, e2⟩ := iha ca'
      obtain ⟨e3, e4⟩ := ihb cb'
      rw [e1, e2, e3, e4]; exact ⟨rfl, rfl⟩
    | one _ _ _ _ _ h => omega
  | one i a la ka hi hk ha h1 _ iha =>
    cases h' with
    | zero _ _ h => omega
    | leaf _ _ h => omega
    | both _ _ _ _ _ _ _ _ h => omega
    | one _ a' la' ka' _ _ ha' _ ca' =>
      obtain rfl : a = a' := by omega
      obtain ⟨e1, e2⟩ := iha ca'
      rw [e1, e2]; exact ⟨rfl, rfl⟩
theorem getT_app {ts us : List Trm} {i : Nat} (h : i < ts.length) : (ts ++ us).getD i trm0 = ts.getD i trm0 := by
  simp [List.getD, List.getElem?_append_left h]
theorem CodR.more {ts : List Trm} {i K : Nat} {l : List Opr} (h : CodR ts i l K) (us : List Trm) : CodR (ts ++ us) i l K := by
  have hl : ∀ {i}, i < ts.length → i < (ts ++ us).length := fun h => by rw [List.length_append]; omega
  induction h with
  | zero i hi hk => exact .zero i (hl hi) (by rw [getT_app hi]; exact hk)
  | leaf i hi hk =>
    have := CodR.leaf (ts := ts ++ us) i (hl hi) (by rw [getT_app hi]; exact hk)
    rw [getT_app hi] at this; exact this
  | both i a b la lb ka kb hi hk ha hb h1 h2 _ _ iha ihb => exact .both i a b la lb ka kb (hl hi) (by rw [getT_app hi]; exact hk) (by rw [getT_app hi]; exact ha) (by rw [getT_app hi]; exact hb) h1 h2 iha ihb
  | one i a la ka hi hk ha h1 _ iha =>
    have := CodR.one (ts := ts ++ us) i a la ka (hl hi) (by rw [getT_app hi]; exact hk) (by rw [getT_app hi]; exact ha) h1 iha
    rw [getT_app hi] at this; exact this
def Pc (ts : List Trm) (x : Int) (c : List Opr) : Prop := (x = -1 ∧ c = []) ∨ ∃ (p K : Nat), x = (p : Int) ∧ CodR ts p c K
theorem Pc.more {ts : List Trm} {x : Int} {c : List Opr} (h : Pc ts x c) (us : List Trm) : Pc (ts ++ us) x c := by
  rcases h with h | ⟨p, K, h1, h2⟩
  · exact .inl h
  · exact .inr ⟨p, K, h1, h2.more us⟩
inductive PcR (ts : List Trm) : List Int → List Opr → Prop
  | one (x : Int) (c : List Opr) : Pc ts x c → PcR ts [x] c
  | more (ps : List Int) (c : List Opr) (x : Int) (c' : List Opr) : PcR ts ps c → Pc ts x c' → PcR ts (ps ++ [x]) (c ++ markO :: c')
theorem PcR.ext {ts : List Trm} {ps : List Int} {c : List Opr} (h : PcR ts ps c) (us : List Trm) : PcR (ts ++ us) ps c := by
  induction h with
  | one x c h => exact .one x c (h.more us)
  | more ps c x c' _ h ih => exact .more ps c x c' ih (h.more us)
theorem PcR.last {ts : List Trm} {ms : List Int} {x : Int} {c : List Opr} (h : PcR ts (ms ++ [x]) c) : ∃ c0 c1, c = c0 ++ c1 ∧ Pc ts x c1 ∧ (∀ us y c2, Pc (ts ++ us) y c2 → PcR (ts ++ us) (ms ++ [y]) (c0 ++ c2)) ∧ (∀ ms' y, ms = ms' ++ [y] → ∃ d, c0 = d ++ [markO] ∧ PcR ts ms d) := by
  generalize hps : ms ++ [x] = ps at h
  cases h with
  | one x' c hp =>
    obtain ⟨rfl, rfl⟩ : ms = [] ∧ x = x' := by
      have hl := congrArg List.length hps
      simp at hl
      subst hl
      exact ⟨rfl, by simpa using hps⟩
    exact ⟨[], c, rfl, hp, fun us y c2 h => .one y c2 h, fun ms' y e => by simp at e⟩
  | more ps' c' x' c'' hr hp =>
    obtain ⟨rfl, rfl⟩ : ms = ps' ∧ x = x' := by simpa using List.append_inj' hps rfl
    refine ⟨c' ++ [markO], c'', by simp, hp, fun us y c2 h => ?_, fun ms' y e => ⟨c', rfl, hr⟩⟩
    have := PcR.more ms c' y c2 (hr.ext us) h
    simpa using this
theorem takO_iff {o : Opr} : takO o = true ↔ 4 ≤ o.kind ∧ o.kind ≤ 7 := by
  unfold takO
  rw [Bool.and_eq_true, decide_eq_true_iff, decide_eq_true_iff]
theorem Pc.lt {ts : List Trm} {x : Int} {c : List Opr} (h : Pc ts x c) : ∀ p : Nat, x = (p : Int) → p < ts.length := by
  intro p hp
  rcases h with ⟨rfl, _⟩ | ⟨q, K, rfl, hc⟩
  · omega
  · have hq : q < ts.length := by cases hc <;> assumption
    omega
end Go.Proofs.YtienedhaogjahaaGreatDoor
namespace Go.Proofs.YtienedhaogjahaaGreatDoor
open Go.RowKit

theorem sh_deep {ts : List Trm} {n : Nat} {F D : List Int} (h : shP ts n = some (F, D)) : ∀ i < n, 1 ≤ D.getD i 0 ∧ ((ts.getD i trm0).kind = 5 → ∀ a b : Nat, (ts.getD i trm0).a = (a : Int) → (ts.getD i trm0).b = (b : Int) → D.getD a 0 < D.getD i 0 ∧ D.getD b 0 < D.getD i 0) ∧ (3 < (ts.getD i trm0).kind → (ts.getD i trm0).kind ≠ 5 → ∀ a : Nat, (ts.getD i trm0).a = (a : Int) → D.getD a 0 < D.getD i 0) := by
  induction n generalizing F D with
  | zero => intro i hi; omega
  | succ n ih =>
    cases e : shP ts n with
    | none =>
      have : shP ts (n + 1) = none := by show (shP ts n).bind _ = none; rw [e]; rfl
      rw [this] at h; cases h
    | some s =>
      obtain ⟨F', D'⟩ := s
      have hx := shP_next e
      rw [h] at hx
      obtain ⟨hI, _⟩ := shP_inv e
      have hp := sh_parts h
      cases e2 : shS n (ts.getD n trm0) F' D' with
      | none => rw [e2] at hx; cases hx
      | some r =>
        obtain ⟨f, d⟩ := r
        rw [e2] at hx
        injection hx with hx
        injection hx with hx1 hx2
        subst hx1 hx2
        have ld := hI.ld
        intro i hi
        obtain ⟨hfi, hpi⟩ := hp i hi
        have hki := fit_kind hfi
        by_cases hin : i < n
        · have hd := ih e i hin
          rw [getD_app (by omega)]
          refine ⟨hd.1, fun h5 a b ha hb => ?_, fun h3 h5 a ha => ?_⟩
          · have hab : a < i ∧ b < i := by
              rcases hpi with ⟨h, _⟩ | ⟨_, a', h1, h2, h3, h4, _⟩ | ⟨h, _⟩ <;> omega
            rw [getD_app (by omega), getD_app (by omega)]
            exact hd.2.1 h5 a b ha hb
          · have hab : a < i := by
              rcases hpi with ⟨h, _⟩ | ⟨h, _⟩ | ⟨_, h1, h2, _⟩ <;> omega
            rw [getD_app (by omega)]
            exact hd.2.2 h3 h5 a ha
        · obtain rfl : i = n := by omega
          rw [getD_end ld.symm]
          unfold shS at e2
          split at e2
          · cases e2
          split at e2
          · rename_i h3
            split at e2
            · injection e2 with e2; injection e2 with e3 e4
              exact ⟨by omega, fun h5 => by omega, fun h => by omega⟩
            · cases e2
          split at e2
          · rename_i h3 h5
            split at e2
            · rename_i hc
              injection e2 with e2; injection e2 with e3 e4
              have hb := hI.d0 (i - 1) (by omega)
              have hbf := hI.f0 (i - 1) (by omega)
              refine ⟨by omega, fun _ a b ha hbb => ?_, fun _ h => absurd h5 h⟩
              have ea : (ts.getD i trm0).a.toNat = a := by omega
              have eb : b = i - 1 := by omega
              rw [ea] at e4
              rw [getD_app (by omega), getD_app (by omega), eb]
              omega
            · cases e2
          · rename_i h3 h5
            split at e2
            · rename_i hc
              injection e2 with e2; injection e2 with e3 e4
              have hb := hI.d0 (i - 1) (by omega)
              refine ⟨by omega, fun h => absurd h h5, fun _ _ a ha => ?_⟩
              have eb : a = i - 1 := by omega
              rw [getD_app (by omega), eb]
              omega
            · cases e2
theorem fld_ab (t : Trm) (a b : Int) : fldB { t with a := a, b := b } = fldB t := by
  obtain ⟨k, a0, b0, x, y, day, to, cur, count, n, months⟩ := t
  simp [fldB, eqT, tn1, tn2, tn3, tn4, tn5, tn6, tn7, tn8]
theorem opT_kind {t : Trm} (h : fitT t = true) (h1 : t.kind ≠ 1) (h5 : t.kind ≠ 5) : oTm (tOp t.kind) = t.kind ∧ (tOp t.kind ≠ 1) := by
  have hk := fit_kind h
  unfold tOp
  by_cases h4 : t.kind ≤ 4
  · rw [if_pos ⟨by omega, h4⟩]
    exact ⟨by unfold oTm; rw [if_pos ⟨by omega, h4⟩], by omega⟩
  · rw [if_neg (by omega), if_pos (by omega)]
    exact ⟨by unfold oTm; rw [if_neg (by omega), if_pos (by omega)]; omega, by omega⟩
theorem fit_opT {t : Trm} (hu : TrU t) (h : fitT t = true) (h1 : t.kind ≠ 1) (h5 : t.kind ≠ 5) : fitO (opT t) = true := by
  rw [← fit_same (opT t) ⟨hu.x, hu.y⟩]
  obtain ⟨e1, e2⟩ := opT_kind h h1 h5
  unfold fitD
  rw [if_neg (show ¬ (opT t).kind = 1 from e2)]
  have e3 : oTm (opT t).kind = t.kind := e1
  have hk := fit_kind h
  rw [e3, decide_eq_true (by omega), Bool.true_and]
  have e4 : tmO (opT t) = { t with a := 0, b := 0 } := by
    unfold tmO
    rw [e3]; rfl
  rw [e4, fld_ab]
  unfold fitT at h
  rw [Bool.and_eq_true] at h
  exact h.1
theorem fit_mark : fitO markO = true := by decide +kernel
theorem mk_one (L : List Opr) (k : Nat) : mkN L (k + 1) = if (L.getD k opr0).kind = 1 then mkN L k + 1 else if takO (L.getD k opr0) then mkN L k - 1 else mkN L k := rfl
theorem cod_marks {ts : List Trm} {F D : List Int} (h : shP ts ts.length = some (F, D)) (hu : ∀ i < ts.length, TrU (ts.getD i trm0)) {i K : Nat} {l : List Opr} (hc : CodR ts i l K) : ∀ (L : List Opr) (a : Nat) (m : Int), (∀ j < l.length, L.getD (a + j) opr0 = l.getD j opr0) → mkN L a = m → 0 ≤ m → m + D.getD i 0 ≤ 64 → (∀ j < l.length, badO (L.getD (a + j) opr0) (mkN L (a + j)) = 0) ∧ mkN L (a + l.length) = m := by
  induction hc with
  | zero i hi hk => intro L a m _ hm _ _; exact ⟨fun j hj => by simp at hj, hm⟩
  | leaf i hi hk =>
    intro L a m hs hm h0 h64
    have hf := (sh_parts h i hi).1
    have e := hs 0 (by simp)
    rw [Nat.add_zero] at e
    have e' : L.getD a opr0 = opT (ts.getD i trm0) := e
    have hfo := fit_opT (hu i hi) hf (by omega) (by omega)
    have hkk : (opT (ts.getD i trm0)).kind = (ts.getD i trm0).kind := by show tOp _ = _; unfold tOp; rw [if_pos (by omega)]
    have htk : takO (opT (ts.getD i trm0)) = false := by
      cases ht : takO (opT (ts.getD i trm0)) with
      | false => rfl
      | true => have := takO_iff.1 ht; omega
    refine ⟨fun j hj => ?_, ?_⟩
    · obtain rfl : j = 0 := by simpa using hj
      rw [Nat.add_zero, e']
      unfold badO
      rw [if_neg (by rw [hfo, htk]; simp), if_neg (by omega)]
    · show mkN L (a + 1) = m
      rw [mk_one, e', htk, if_neg (by omega)]
      exact hm
  | both i x y la lb ka kb hi hk ha hb h1 h2 _ _ iha ihb =>
    intro L a m hs hm h0 h64
    obtain ⟨d1, d2, _⟩ := sh_deep h i hi
    obtain ⟨dx, dy⟩ := d2 hk x y ha hb
    have ga : ∀ j < la.length, L.getD (a + j) opr0 = la.getD j opr0 := fun j hj => by
      rw [hs j (by rw [List.length_append]; omega)]
      simp [List.getD, List.getElem?_append_left hj]
    have gb : ∀ j < lb.length, L.getD (a + la.length + j) opr0 = lb.getD j opr0 := fun j hj => by
      rw [Nat.add_assoc, hs (la.length + j) (by rw [List.length_append]; omega)]
      simp [List.getD, List.getElem?_append_right]
    obtain ⟨p1, p2⟩ := iha L a m ga hm h0 (by omega)
    obtain ⟨q1, q2⟩ := ihb L (a + la.length) m gb p2 h0 (by omega)
    refine ⟨fun j hj => ?_, by rw [List.length_append, ← Nat.add_assoc]; exact q2⟩
    rw [List.length_append] at hj
    by_cases hjl : j < la.length
    · exact p1 j hjl
    · have := q1 (j - la.length) (by omega)
      rw [show a + la.length + (j - la.length) = a + j by omega] at this
      exact this
  | one i x la ka hi hk ha h1 _ iha =>
    intro L a m hs hm h0 h64
    obtain ⟨d1, _, d2⟩ := sh_deep h i hi
    have dx := d2 (by omega) (by omega) x ha
    have d0 := (sh_deep h x (by omega)).1
    have hf := (sh_parts h i hi).1
    have hfo := fit_opT (hu i hi) hf (by omega) (by omega)
    have hkk : (opT (ts.getD i trm0)).kind = tOp (ts.getD i trm0).kind := rfl
    have hk47 : 4 ≤ tOp (ts.getD i trm0).kind ∧ tOp (ts.getD i trm0).kind ≤ 7 := by
      unfold tOp
      rcases hk with hk | hk
      · rw [if_pos (by omega)]; omega
      · rw [if_neg (by omega), if_pos (by omega)]; omega
    have htk : takO (opT (ts.getD i trm0)) = true := takO_iff.2 hk47
    have hll : (markO :: (la ++ [opT (ts.getD i trm0)])).length = la.length + 2 := by simp
    rw [hll] at hs ⊢
    have e0 := hs 0 (by omega)
    rw [Nat.add_zero] at e0
    have e0' : L.getD a opr0 = markO := e0
    have ga : ∀ j < la.length, L.getD (a + 1 + j) opr0 = la.getD j opr0 := fun j hj => by
      rw [show a + 1 + j = a + (j + 1) by omega, hs (j + 1) (by omega)]
      simp [List.getD, List.getElem?_append_left hj]
    have e1 : L.getD (a + (la.length + 1)) opr0 = opT (ts.getD i trm0) := by
      rw [hs (la.length + 1) (by omega)]
      simp [List.getD]
    have m1 : mkN L (a + 1) = m + 1 := by rw [mk_one, e0', if_pos (show markO.kind = 1 from rfl), hm]
    obtain ⟨p1, p2⟩ := iha L (a + 1) (m + 1) ga m1 (by omega) (by omega)
    rw [show a + 1 + la.length = a + (la.length + 1) by omega] at p2
    refine ⟨fun j hj => ?_, ?_⟩
    · by_cases hj0 : j = 0
      · rw [hj0, Nat.add_zero, e0', hm]
        unfold badO
        rw [if_neg (by rw [fit_mark, mark_not_takes rfl]; simp), if_neg (by omega)]
      · by_cases hjl : j = la.length + 1
        · rw [hjl, e1, p2]
          unfold badO
          rw [if_neg (by rw [hfo]; simp; omega), if_neg (by omega)]
        · have := p1 (j - 1) (by omega)
          rw [show a + 1 + (j - 1) = a + j by omega] at this
          exact this
    · rw [show a + (la.length + 2) = a + (la.length + 1) + 1 by omega, mk_one, e1, if_neg (by omega), if_pos htk, p2]
      omega
theorem cod_mea {ts : List Trm} {D A : Int} (hm : MesR ts D 0 A) (hu : ∀ i < ts.length, TrU (ts.getD i trm0)) : 1 ≤ ts.length ∧ ts.length ≤ 1024 ∧ ∃ l K M, CodR ts (ts.length - 1) l K ∧ K ≤ 2048 ∧ MeaR l M 0 0 := by
  cases hm with
  | ok p d hl hx hd =>
    have hn : 1 ≤ ts.length := by
      cases e : ts.length with
      | zero => rw [e] at hx; cases hx
      | succ n => omega
    rcases sh_both ts ts.length with ⟨_, h2⟩ | ⟨F, D', xs, h1, h2, hc, hI⟩
    · rw [h2] at hx; cases hx
    · rw [hx] at h2
      injection h2 with h2
      subst h2
      obtain ⟨l, K, hcod, hlk, hK⟩ := cod_ex h1 (ts.length - 1) (by omega)
      have f0 := hI.f0 (ts.length - 1) (by omega)
      have hd1 : D'.getD (ts.length - 1) 0 = D := by
        have hF : F.getD (ts.length - 1) 0 = 0 := by
          rcases Int.lt_or_le 0 (F.getD (ts.length - 1) 0) with h | h
          · have := chn_many hc hn h
            simp at this
          · omega
        have := chn_one hc hn hF
        injection this with this
        injection this with _ this
        exact this.symm
      obtain ⟨p1, p2⟩ := cod_marks h1 hu hcod l 0 0 (fun j _ => by rw [Nat.zero_add]) rfl (Int.le_refl _) (by rw [hd1]; omega)
      rw [Nat.zero_add] at p2
      refine ⟨hn, hl, l, K, moN l l.length, hcod, by omega, .fine (by omega) (fun i hi => ?_) (by rw [p2]; decide)⟩
      have := p1 i hi
      rw [Nat.zero_add] at this
      exact this
theorem cod_len2 {ts : List Trm} {i K : Nat} {l : List Opr} (h : CodR ts i l K) : l.length ≤ 2 * K := by
  induction h with
  | zero => simp
  | leaf => simp
  | both => rw [List.length_append]; omega
  | one => rw [List.length_cons, List.length_append, List.length_singleton]; omega
end Go.Proofs.YtienedhaogjahaaGreatDoor
