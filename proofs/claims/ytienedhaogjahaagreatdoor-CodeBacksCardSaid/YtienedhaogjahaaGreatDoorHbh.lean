/- The document's Of and Same of terms. The document's Marks, whatever code. -/
import Derived.Test.YtienedhaogjahaaGreatDoorHbg
import Derived.Test.YtienedhaogjahaaGreatDoorHbe
namespace Go.Proofs.YtienedhaogjahaaGreatDoor
open Go.RowKit

structure TDS (w : World) (p : Option Addr) (b off : Nat) (ts : List Trm) : Prop where
  at_ : 0 < ts.length → p = some ⟨b, off, none⟩
  lt : 0 < ts.length → b < w.heap.size
  c0 : ∀ i < ts.length, w.cell? ⟨b, off + i * 11, none⟩ = some (.int .i64 (ts.getD i trm0).kind)
  c1 : ∀ i < ts.length, w.cell? ⟨b, off + i * 11 + 1, none⟩ = some (.int .i64 (ts.getD i trm0).a)
  c2 : ∀ i < ts.length, w.cell? ⟨b, off + i * 11 + 2, none⟩ = some (.int .i64 (ts.getD i trm0).b)
  c3 : ∀ i < ts.length, w.cell? ⟨b, off + i * 11 + 3, none⟩ = some (.int .u64 (ts.getD i trm0).x)
  c4 : ∀ i < ts.length, w.cell? ⟨b, off + i * 11 + 4, none⟩ = some (.int .u64 (ts.getD i trm0).y)
  c5 : ∀ i < ts.length, w.cell? ⟨b, off + i * 11 + 5, none⟩ = some (.int .i64 (ts.getD i trm0).day)
  c6 : ∀ i < ts.length, w.cell? ⟨b, off + i * 11 + 6, none⟩ = some (.int .i64 (ts.getD i trm0).to)
  c7 : ∀ i < ts.length, w.cell? ⟨b, off + i * 11 + 7, none⟩ = some (.int .i64 (ts.getD i trm0).cur)
  c8 : ∀ i < ts.length, w.cell? ⟨b, off + i * 11 + 8, none⟩ = some (.int .i64 (ts.getD i trm0).count)
  c9 : ∀ i < ts.length, w.cell? ⟨b, off + i * 11 + 9, none⟩ = some (.int .i64 (ts.getD i trm0).n)
  c10 : ∀ i < ts.length, w.cell? ⟨b, off + i * 11 + 10, none⟩ = some (.int .i64 (ts.getD i trm0).months)
theorem TDS.below {w w' : World} {p : Option Addr} {b off : Nat} {ts : List Trm} (h : TDS w p b off ts) (hb : Below w.heap.size w w') : TDS w' p b off ts := by
  have k : ∀ i, i < ts.length → ∀ j, w'.cell? ⟨b, j, none⟩ = w.cell? ⟨b, j, none⟩ := fun i hi j => World.cell?_of_block (w := w) (a := ⟨b, j, none⟩) (hb.block b (h.lt (by omega)))
  exact ⟨h.at_, fun hn => Nat.lt_of_lt_of_le (h.lt hn) hb.size, fun i hi => (k i hi _).trans (h.c0 i hi), fun i hi => (k i hi _).trans (h.c1 i hi), fun i hi => (k i hi _).trans (h.c2 i hi), fun i hi => (k i hi _).trans (h.c3 i hi), fun i hi => (k i hi _).trans (h.c4 i hi), fun i hi => (k i hi _).trans (h.c5 i hi), fun i hi => (k i hi _).trans (h.c6 i hi), fun i hi => (k i hi _).trans (h.c7 i hi), fun i hi => (k i hi _).trans (h.c8 i hi), fun i hi => (k i hi _).trans (h.c9 i hi), fun i hi => (k i hi _).trans (h.c10 i hi)⟩
theorem trD_size (t : Trm) : (trD t).size = 11 := rfl
theorem trD_one (t : Trm) : ∀ u ∈ (trD t).toList, u.oneCell' = true := fun u h => by
  simp only [trD, List.mem_cons, List.not_mem_nil, or_false] at h
  rcases h with rfl | rfl | rfl | rfl | rfl | rfl | rfl | rfl | rfl | rfl | rfl <;> rfl
theorem info_trD : (Tryz.prog.info? 64).map (fun i => (i.zero, i.size, i.bytes)) = some (some (.agg #[.int .i64 0, .int .i64 0, .int .i64 0, .int .u64 0, .int .u64 0, .int .i64 0, .int .i64 0, .int .i64 0, .int .i64 0, .int .i64 0, .int .i64 0]), 11, 88) := by kernel_rfl
theorem tds_of {w : World} {B n c : Nat} {p : Option Addr} {l : List Trm} (h : w.ownsRow B 64 11 (.slice p n c) n (rowV trD l)) (hn : l.length = n) : ∃ g, TDS w p g 0 l := by
  obtain ⟨p', c', g, hv, _, _, hp, _, hb, hc, _⟩ := orow_src h
  injection hv with hv1 hv2 hv3
  subst hv1 hv3
  have hg : ∀ i < l.length, ∀ j < 11, w.cell? ⟨g, i * 11 + j, none⟩ = (trD (l.getD i trm0))[j]? := fun i hi j hj => by
    rw [hc _ (by omega), rowV_get trD_size trm0 l i j hi hj]
  refine ⟨g, ⟨fun h => hp (by omega), fun h => (hb _ (hp (by omega))).2.2, ?_, ?_, ?_, ?_, ?_, ?_, ?_, ?_, ?_, ?_, ?_⟩⟩ <;> intro i hi <;> rw [Nat.zero_add]
  · exact hg i hi 0 (by decide)
  · exact hg i hi 1 (by decide)
  · exact hg i hi 2 (by decide)
  · exact hg i hi 3 (by decide)
  · exact hg i hi 4 (by decide)
  · exact hg i hi 5 (by decide)
  · exact hg i hi 6 (by decide)
  · exact hg i hi 7 (by decide)
  · exact hg i hi 8 (by decide)
  · exact hg i hi 9 (by decide)
  · exact hg i hi 10 (by decide)
theorem takeT_next (l : List Trm) (k : Nat) (hk : k < l.length) : l.take (k + 1) = l.take k ++ [l.getD k trm0] := by
  rw [List.take_add_one, List.getElem?_eq_getElem hk]
  simp [List.getD, List.getElem?_eq_getElem hk]
set_option maxRecDepth 20000 in
set_option maxHeartbeats 12800000 in
theorem r17Of_any (l : List Trm) (N : Nat) (p : Option Addr) (b off c : Nat) (w : World) (hl : TSrc w p b off l) (hN : l.length = N) (hc : N * 88 ≤ 140737488355328) :
    Calls Tryz.prog 10 #[.slice p N c] w fun e w' => (∃ q cp, e = .returned (.slice q N cp) ∧ w'.ownsRow w.heap.size 64 11 (.slice q N cp) N (rowV trD l)) ∧ Below w.heap.size w w' := by
  have HN := hidD hN
  have HQ := hidD hl
  have HP : Hid (0 < N → p = some ⟨b, off, none⟩) := fun h => hl.at_ (by omega)
  have HC := hidD hc
  have hc2 : N ≤ 140737488355328 := by omega
  have hst := store_fltD
  have HO0 := hidD (orow_nil w.heap.size w 64 11)
  clear hl hN hc
  go_enter Tryz.func10, Tryz.ntmps10
  go_wp2_with fail
  go_loopw [3, 4] (fun g i wr => ∃ (k : Nat) (q : Option Addr) (cp : Nat), k ≤ N ∧ i = .int .i64 k ∧ g = .slice q k cp ∧ Hid (wr.ownsRow w.heap.size 64 11 (.slice q k cp) k (rowV trD (l.take k))) ∧ Hid (Below w.heap.size w wr)) (fun _ i _ => N - (intOf i).toNat)
  case atStart => exact ⟨0, none, 0, Nat.zero_le _, rfl, rfl, HO0, Below.refl _ _⟩
  case round =>
    clear HO0
    obtain ⟨k, q, cp, hk, rfl, rfl, HO, HB⟩ := hrel
    by_cases hlt : k < N
    · obtain rfl := HP.out (by omega)
      have hlt' : k < l.length := by rw [HN.out]; exact hlt
      have HQr := HQ.out.below HB.out
      have c0 := HQr.c0 k hlt'
      have c1 := HQr.c1 k hlt'
      have c2 := HQr.c2 k hlt'
      have c3 := HQr.c3 k hlt'
      have c4 := HQr.c4 k hlt'
      have c5 := HQr.c5 k hlt'
      have c6 := HQr.c6 k hlt'
      have c7 := HQr.c7 k hlt'
      have c8 := HQr.c8 k hlt'
      have c9 := HQr.c9 k hlt'
      have c10 := HQr.c10 k hlt'
      have hbl : b < wr.heap.size := Nat.lt_of_lt_of_le (HQ.out.lt (by rw [HN.out]; omega)) HB.out.size
      have HS : Hid (rowV trD (l.take (k + 1)) = rowV trD (l.take k) ++ rowV trD [l.getD k trm0]) := by
        show _ = _
        rw [takeT_next l k hlt', rowV_append]
      obtain ⟨f, hf⟩ : ∃ f, l.getD k trm0 = f := ⟨_, rfl⟩
      rw [hf] at HS c0 c1 c2 c3 c4 c5 c6 c7 c8 c9 c10
      clear hf HQr hlt'
      obtain ⟨qk, qa, qb, qx, qy, qd, qt, qc, qo, qn, qm⟩ := f
      dsimp only at *
      have hbn : b ≠ wr.heap.size := Nat.ne_of_lt hbl
      have g3 : (0 : Int) ≤ (k : Int) := by omega
      have g4 : (k : Int) < (N : Int) := by omega
      go_wp2_with fail
      have HT1 : Hid ((wr.alloc (.cells #[.int .i64 qk, .int .i64 qa, .int .i64 qb, .float .f64 qx, .float .f64 qy, .int .i64 qd, .int .i64 qt, .int .i64 qc, .int .i64 qo, .int .i64 qn, .int .i64 qm] 50)).heap[wr.heap.size]? = some (.cells #[.int .i64 qk, .int .i64 qa, .int .i64 qb, .float .f64 qx, .float .f64 qy, .int .i64 qd, .int .i64 qt, .int .i64 qc, .int .i64 qo, .int .i64 qn, .int .i64 qm] 50)) := heap_alloc_new _ _
      have HBa : Hid (Below wr.heap.size wr (wr.alloc (.cells #[.int .i64 qk, .int .i64 qa, .int .i64 qb, .float .f64 qx, .float .f64 qy, .int .i64 qd, .int .i64 qt, .int .i64 qc, .int .i64 qo, .int .i64 qn, .int .i64 qm] 50))) := (Below.refl _ _).alloc (Nat.le_refl _) _
      have hs1 : (wr.alloc (.cells #[.int .i64 qk, .int .i64 qa, .int .i64 qb, .float .f64 qx, .float .f64 qy, .int .i64 qd, .int .i64 qt, .int .i64 qc, .int .i64 qo, .int .i64 qn, .int .i64 qm] 50)).heap.size = wr.heap.size + 1 := by simp
      obtain ⟨R, hR⟩ : ∃ R, wr.heap.size = R := ⟨_, rfl⟩
      obtain ⟨w1, hw1⟩ : ∃ w1, wr.alloc (.cells #[.int .i64 qk, .int .i64 qa, .int .i64 qb, .float .f64 qx, .float .f64 qy, .int .i64 qd, .int .i64 qt, .int .i64 qc, .int .i64 qo, .int .i64 qn, .int .i64 qm] 50) = w1 := ⟨_, rfl⟩
      rw [hw1] at HT1 HBa hs1 ⊢
      have HR := hidD hs1
      have hRR := hidD hR
      rw [hR] at HT1 ⊢
      have HB1 := hidD (HB.out.trans (HBa.out.mono HB.out.size))
      have HO1 := hidD (orow_below HO.out HBa.out)
      have HNe : Hid (some R ≠ (Value.slice q k cp).ownBlock) := fun e => by have := (HO.out.lt R e.symm).2; have := hRR.out; omega
      clear hw1 hR hs1 c0 c1 c2 c3 c4 c5 c6 c7 c8 c9 c10 hbl hbn HB HO HBa
      have z0 := (opx_cells HT1.out 0 rfl).1
      have z1 := (opx_cells HT1.out 1 rfl).1
      have z2 := (opx_cells HT1.out 2 rfl).1
      have z3 := (opx_cells HT1.out 3 rfl).1
      have z4 := (opx_cells HT1.out 4 rfl).1
      have z5 := (opx_cells HT1.out 5 rfl).1
      have z6 := (opx_cells HT1.out 6 rfl).1
      have z7 := (opx_cells HT1.out 7 rfl).1
      have z8 := (opx_cells HT1.out 8 rfl).1
      have z9 := (opx_cells HT1.out 9 rfl).1
      have z10 := (opx_cells HT1.out 10 rfl).1
      have HBw := hidD ((Below.refl w1.heap.size w1).drew.alloc (Nat.le_refl _) (.cells #[.int .i64 qk, .int .i64 qa, .int .i64 qb, .int .u64 (qx : Int), .int .u64 (qy : Int), .int .i64 qd, .int .i64 qt, .int .i64 qc, .int .i64 qo, .int .i64 qn, .int .i64 qm] 64))
      have HO4 := hidD (orow_below HO1.out HBw.out)
      have HB4 := hidD (HB1.out.trans (HBw.out.mono HB1.out.size))
      have HFc : Hid (∀ j u, (rowV trD [⟨qk, qa, qb, qx, qy, qd, qt, qc, qo, qn, qm⟩])[j]? = some u → (w1.drew.alloc (.cells #[.int .i64 qk, .int .i64 qa, .int .i64 qb, .int .u64 (qx : Int), .int .u64 (qy : Int), .int .i64 qd, .int .i64 qt, .int .i64 qc, .int .i64 qo, .int .i64 qn, .int .i64 qm] 64)).cell? ⟨w1.heap.size, j, none⟩ = some u) := by
        intro j u hj
        have e : rowV trD [⟨qk, qa, qb, qx, qy, qd, qt, qc, qo, qn, qm⟩] = (#[.int .i64 qk, .int .i64 qa, .int .i64 qb, .int .u64 (qx : Int), .int .u64 (qy : Int), .int .i64 qd, .int .i64 qt, .int .i64 qc, .int .i64 qo, .int .i64 qn, .int .i64 qm] : Array Value).toList := by simp [rowV, trD]
        rw [e] at hj
        exact new_cells w1.drew _ 64 j u hj
      have HK : Hid ((w1.drew.alloc (.cells #[.int .i64 qk, .int .i64 qa, .int .i64 qb, .int .u64 (qx : Int), .int .u64 (qy : Int), .int .i64 qd, .int .i64 qt, .int .i64 qc, .int .i64 qo, .int .i64 qn, .int .i64 qm] 64)).cell? ⟨R, 0, none⟩ = some (.int .i64 qk) ∧ (w1.drew.alloc (.cells #[.int .i64 qk, .int .i64 qa, .int .i64 qb, .int .u64 (qx : Int), .int .u64 (qy : Int), .int .i64 qd, .int .i64 qt, .int .i64 qc, .int .i64 qo, .int .i64 qn, .int .i64 qm] 64)).cell? ⟨R, 1, none⟩ = some (.int .i64 qa) ∧ (w1.drew.alloc (.cells #[.int .i64 qk, .int .i64 qa, .int .i64 qb, .int .u64 (qx : Int), .int .u64 (qy : Int), .int .i64 qd, .int .i64 qt, .int .i64 qc, .int .i64 qo, .int .i64 qn, .int .i64 qm] 64)).cell? ⟨R, 2, none⟩ = some (.int .i64 qb) ∧ (w1.drew.alloc (.cells #[.int .i64 qk, .int .i64 qa, .int .i64 qb, .int .u64 (qx : Int), .int .u64 (qy : Int), .int .i64 qd, .int .i64 qt, .int .i64 qc, .int .i64 qo, .int .i64 qn, .int .i64 qm] 64)).cell? ⟨R, 3, none⟩ = some (.float .f64 qx) ∧ (w1.drew.alloc (.cells #[.int .i64 qk, .int .i64 qa, .int .i64 qb, .int .u64 (qx : Int), .int .u64 (qy : Int), .int .i64 qd, .int .i64 qt, .int .i64 qc, .int .i64 qo, .int .i64 qn, .int .i64 qm] 64)).cell? ⟨R, 4, none⟩ = some (.float .f64 qy) ∧ (w1.drew.alloc (.cells #[.int .i64 qk, .int .i64 qa, .int .i64 qb, .int .u64 (qx : Int), .int .u64 (qy : Int), .int .i64 qd, .int .i64 qt, .int .i64 qc, .int .i64 qo, .int .i64 qn, .int .i64 qm] 64)).cell? ⟨R, 5, none⟩ = some (.int .i64 qd) ∧ (w1.drew.alloc (.cells #[.int .i64 qk, .int .i64 qa, .int .i64 qb, .int .u64 (qx : Int), .int .u64 (qy : Int), .int .i64 qd, .int .i64 qt, .int .i64 qc, .int .i64 qo, .int .i64 qn, .int .i64 qm] 64)).cell? ⟨R, 6, none⟩ = some (.int .i64 qt) ∧ (w1.drew.alloc (.cells #[.int .i64 qk, .int .i64 qa, .int .i64 qb, .int .u64 (qx : Int), .int .u64 (qy : Int), .int .i64 qd, .int .i64 qt, .int .i64 qc, .int .i64 qo, .int .i64 qn, .int .i64 qm] 64)).cell? ⟨R, 7, none⟩ = some (.int .i64 qc) ∧ (w1.drew.alloc (.cells #[.int .i64 qk, .int .i64 qa, .int .i64 qb, .int .u64 (qx : Int), .int .u64 (qy : Int), .int .i64 qd, .int .i64 qt, .int .i64 qc, .int .i64 qo, .int .i64 qn, .int .i64 qm] 64)).cell? ⟨R, 8, none⟩ = some (.int .i64 qo) ∧ (w1.drew.alloc (.cells #[.int .i64 qk, .int .i64 qa, .int .i64 qb, .int .u64 (qx : Int), .int .u64 (qy : Int), .int .i64 qd, .int .i64 qt, .int .i64 qc, .int .i64 qo, .int .i64 qn, .int .i64 qm] 64)).cell? ⟨R, 9, none⟩ = some (.int .i64 qn) ∧ (w1.drew.alloc (.cells #[.int .i64 qk, .int .i64 qa, .int .i64 qb, .int .u64 (qx : Int), .int .u64 (qy : Int), .int .i64 qd, .int .i64 qt, .int .i64 qc, .int .i64 qo, .int .i64 qn, .int .i64 qm] 64)).cell? ⟨R, 10, none⟩ = some (.int .i64 qm)) := by
        refine ⟨?_, ?_, ?_, ?_, ?_, ?_, ?_, ?_, ?_, ?_, ?_⟩ <;> (rw [World.cell?_of_block (w := w1) (HBw.out.block _ (by rw [HR.out]; rw [← hRR.out]; exact Nat.lt_succ_self _))]; assumption)
      have HKf : Hid (∀ x : World, x.heap[R]? = (w1.drew.alloc (.cells #[.int .i64 qk, .int .i64 qa, .int .i64 qb, .int .u64 (qx : Int), .int .u64 (qy : Int), .int .i64 qd, .int .i64 qt, .int .i64 qc, .int .i64 qo, .int .i64 qn, .int .i64 qm] 64)).heap[R]? → x.cell? ⟨R, 0, none⟩ = some (.int .i64 qk) ∧ x.cell? ⟨R, 1, none⟩ = some (.int .i64 qa) ∧ x.cell? ⟨R, 2, none⟩ = some (.int .i64 qb) ∧ x.cell? ⟨R, 3, none⟩ = some (.float .f64 qx) ∧ x.cell? ⟨R, 4, none⟩ = some (.float .f64 qy) ∧ x.cell? ⟨R, 5, none⟩ = some (.int .i64 qd) ∧ x.cell? ⟨R, 6, none⟩ = some (.int .i64 qt) ∧ x.cell? ⟨R, 7, none⟩ = some (.int .i64 qc) ∧ x.cell? ⟨R, 8, none⟩ = some (.int .i64 qo) ∧ x.cell? ⟨R, 9, none⟩ = some (.int .i64 qn) ∧ x.cell? ⟨R, 10, none⟩ = some (.int .i64 qm)) := fun x hx => by
        obtain ⟨k0, k1, k2, k3, k4, k5, k6, k7, k8, k9, k10⟩ := HK.out
        exact ⟨(World.cell?_of_block (a := ⟨R, 0, none⟩) hx).trans k0, (World.cell?_of_block (a := ⟨R, 1, none⟩) hx).trans k1, (World.cell?_of_block (a := ⟨R, 2, none⟩) hx).trans k2, (World.cell?_of_block (a := ⟨R, 3, none⟩) hx).trans k3, (World.cell?_of_block (a := ⟨R, 4, none⟩) hx).trans k4, (World.cell?_of_block (a := ⟨R, 5, none⟩) hx).trans k5, (World.cell?_of_block (a := ⟨R, 6, none⟩) hx).trans k6, (World.cell?_of_block (a := ⟨R, 7, none⟩) hx).trans k7, (World.cell?_of_block (a := ⟨R, 8, none⟩) hx).trans k8, (World.cell?_of_block (a := ⟨R, 9, none⟩) hx).trans k9, (World.cell?_of_block (a := ⟨R, 10, none⟩) hx).trans k10⟩
      have hRl : R < (w1.drew.alloc (.cells #[.int .i64 qk, .int .i64 qa, .int .i64 qb, .int .u64 (qx : Int), .int .u64 (qy : Int), .int .i64 qd, .int .i64 qt, .int .i64 qc, .int .i64 qo, .int .i64 qn, .int .i64 qm] 64)).heap.size := by have := HR.out; have := hRR.out; simp; omega
      have HRl := hidD hRl
      clear hRl
      go_region_held3 (fun x => x.cell? ⟨R, 0, none⟩ = some (.int .i64 qk) ∧ x.cell? ⟨R, 1, none⟩ = some (.int .i64 qa) ∧ x.cell? ⟨R, 2, none⟩ = some (.int .i64 qb) ∧ x.cell? ⟨R, 3, none⟩ = some (.float .f64 qx) ∧ x.cell? ⟨R, 4, none⟩ = some (.float .f64 qy) ∧ x.cell? ⟨R, 5, none⟩ = some (.int .i64 qd) ∧ x.cell? ⟨R, 6, none⟩ = some (.int .i64 qt) ∧ x.cell? ⟨R, 7, none⟩ = some (.int .i64 qc) ∧ x.cell? ⟨R, 8, none⟩ = some (.int .i64 qo) ∧ x.cell? ⟨R, 9, none⟩ = some (.int .i64 qn) ∧ x.cell? ⟨R, 10, none⟩ = some (.int .i64 qm)) (first | exact HK.out | exact HK5.out | go_keep) (first | (go_at_call 25; (with_reducible refine (turned (bits_any qx _)).mono ?_); rintro e wb ⟨rfl, rfl⟩) | (go_at_call 25; (with_reducible refine (turned (bits_any qy _)).mono ?_); rintro e wb ⟨rfl, rfl⟩) | (refine step_append_g Tryz.underlying31 info_trD rfl (by decide) rfl (.tmp 16) (.tmp 42) rfl w.heap.size (.slice q k cp) k (rowV trD (l.take k)) rfl HO4.out HB4.out.size w1.heap.size 1 1 (rowV trD [⟨qk, qa, qb, qx, qy, qd, qt, qc, qo, qn, qm⟩]) rfl rfl HFc.out (rowV_one trD_one _) (by omega) (by have := HC.out; omega) ?_; intro v5 w5 ho5 hg5; rw [← HS.out] at ho5; have HB5 := hidD (HB4.out.trans (orow_grown HO4.out hg5 HB4.out.size)); obtain ⟨q5, k5, g5, hv5, _, _, hp5, _⟩ := orow_src ho5; obtain rfl := hp5 (by omega); subst hv5; clear hp5; have HO5 := hidD ho5; have HK5 := hidD (HKf.out w5 (hg5.block R HRl.out HNe.out)); clear ho5 hg5))
      all_goals
        go_wp2_with fail
        go_roundw
        case rel => exact ⟨k + 1, some ⟨g5, 0, none⟩, k5, by omega, by go_num, rfl, HO5, HB5⟩
        case measure => simp [intOf]; omega
    · obtain rfl : k = N := by omega
      go_wp2_with fail
      go_ret
      refine ⟨⟨_, _, rfl, ?_⟩, HB.out⟩
      have := HO.out
      rw [← HN.out, List.take_length, HN.out] at this
      exact this
theorem eqT_refl (p : Trm) : eqT p p = true := by simp [eqT]
theorem eqT_nrun (p q : Trm) (w : World) : (binOp .neq 64 (.agg (trD p)) (.agg (trD q))).run Tryz.prog w = .ok (.bool (!(eqT p q))) w := by
  have h := eqT_run p q w
  rw [run_eql_struct] at h
  rw [run_neq_struct]
  generalize (Op.equalIn 10000 64 (.agg (trD p)) (.agg (trD q))).run Tryz.prog w = z at h ⊢
  cases z with
  | ok b w' =>
    have h' : Result.ok (Value.bool b) w' = Result.ok (Value.bool (eqT p q)) w := h
    injection h' with h1 h2
    injection h1 with h1
    subst h1 h2
    rfl
  | _ => cases h
set_option maxRecDepth 20000 in
set_option maxHeartbeats 12800000 in
theorem r17Same_same (l : List Trm) (N : Nat) (p q : Option Addr) (b off c g off' c' : Nat) (w : World) (hl : TSrc w p b off l) (hm : TDS w q g off' l) (hN : l.length = N) (hc : N * 88 ≤ 140737488355328) :
    Calls Tryz.prog 15 #[.slice p N c, .slice q N c'] w fun e w' => e = .returned (.bool true) ∧ Below w.heap.size w w' := by
  have HO := hidD (r17Of_any l N p b off c w hl hN hc)
  have HS := hidD (And.intro hm hN)
  have hc2 : N ≤ 140737488355328 := by omega
  clear hl hm hc hN
  go_enter Tryz.func15, Tryz.ntmps15
  go_wp2_with fail
  refine HO.out.mono ?_
  rintro e w1 ⟨⟨k0, cq, rfl, ho⟩, hb⟩
  obtain ⟨g2, hd⟩ := tds_of ho HS.out.2
  have H1 := hidD (And.intro hb hd)
  clear ho hb hd HO
  go_wp2_with fail
  go_loopw [6] (fun i wr => ∃ k : Nat, k ≤ N ∧ i = .int .i64 k ∧ Hid (Below w.heap.size w wr) ∧ Hid (TDS wr k0 g2 0 l)) (fun i _ => N - (intOf i).toNat)
  case atStart => exact ⟨0, Nat.zero_le _, rfl, H1.out.1, H1.out.2⟩
  case round =>
    obtain ⟨k, hk, rfl, HB, HD⟩ := hrel
    by_cases hlt : k < N
    · have hlt' : k < l.length := by rw [HS.out.2]; exact hlt
      have HSr := hidD (HS.out.1.below HB.out)
      obtain rfl := HSr.out.at_ (by omega)
      obtain rfl := HD.out.at_ (by omega)
      have c0 := HSr.out.c0 k hlt'
      have d0 := HD.out.c0 k hlt'
      have c1 := HSr.out.c1 k hlt'
      have d1 := HD.out.c1 k hlt'
      have c2 := HSr.out.c2 k hlt'
      have d2 := HD.out.c2 k hlt'
      have c3 := HSr.out.c3 k hlt'
      have d3 := HD.out.c3 k hlt'
      have c4 := HSr.out.c4 k hlt'
      have d4 := HD.out.c4 k hlt'
      have c5 := HSr.out.c5 k hlt'
      have d5 := HD.out.c5 k hlt'
      have c6 := HSr.out.c6 k hlt'
      have d6 := HD.out.c6 k hlt'
      have c7 := HSr.out.c7 k hlt'
      have d7 := HD.out.c7 k hlt'
      have c8 := HSr.out.c8 k hlt'
      have d8 := HD.out.c8 k hlt'
      have c9 := HSr.out.c9 k hlt'
      have d9 := HD.out.c9 k hlt'
      have c10 := HSr.out.c10 k hlt'
      have d10 := HD.out.c10 k hlt'
      simp only [Nat.zero_add] at d0 d1 d2 d3 d4 d5 d6 d7 d8 d9 d10
      have heq := fun w => eqT_nrun (l.getD k trm0) (l.getD k trm0) w
      rw [eqT_refl] at heq
      generalize l.getD k trm0 = o at *
      unfold trD at heq
      have i1 : (k : Int) < (N : Int) := by omega
      clear hlt'
      go_wp2_with fail
      go_quiet (fail)
      go_wp2_with fail
      go_roundw
      case rel => exact ⟨k + 1, by omega, by simp, below_drewNm HB.out, HD.out.below (below_drewNm (Below.refl _ _))⟩
      case measure => simp [intOf]; omega
    · obtain rfl : k = N := by omega
      go_wp2_with fail
      go_ret
      exact ⟨rfl, HB.out⟩
end Go.Proofs.YtienedhaogjahaaGreatDoor
namespace Go.Proofs.YtienedhaogjahaaGreatDoor
open Go.RowKit

theorem MeaR.none {l : List Opr} {M E A : Int} (h : MeaR l M E A) (he : E ≠ 0) : M = 0 := by
  cases h with
  | long => rfl
  | bad => rfl
  | left => rfl
  | fine => exact absurd rfl he
end Go.Proofs.YtienedhaogjahaaGreatDoor
