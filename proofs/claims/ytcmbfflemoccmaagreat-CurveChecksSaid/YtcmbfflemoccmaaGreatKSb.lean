/- Single of a curve that may not be; the document's Same of two empty curves. -/
import Derived.Test.YtcmbfflemoccmaaGreatHbt
namespace Go.Proofs.YtcmbfflemoccmaaGreat
open Go.RowKit

structure SgB (w : World) (base kind : Int) (vd vf : Value) (wr : World) : Prop where
  t0 : wr.cell? ⟨w.heap.size, 0, none⟩ = some (.int .i64 base)
  t1 : wr.cell? ⟨w.heap.size, 1, none⟩ = some (.int .i64 kind)
  t2 : wr.cell? ⟨w.heap.size, 2, none⟩ = some vd
  t3 : wr.cell? ⟨w.heap.size, 3, none⟩ = some vf
  d0 : wr.cell? ⟨w.heap.size + 1, 0, none⟩ = some (.int .i64 0)
  d1 : wr.cell? ⟨w.heap.size + 1, 1, none⟩ = some (.int .i64 0)
  d2 : wr.cell? ⟨w.heap.size + 1, 2, none⟩ = some (.slice none 0 0)
  d3 : wr.cell? ⟨w.heap.size + 1, 3, none⟩ = some (.slice none 0 0)
  fz : ∀ i, wr.frozen? ⟨w.heap.size + 1, i, none⟩ = false
  bl : Below w.heap.size w wr
  sz : w.heap.size + 2 ≤ wr.heap.size
theorem SgB.stay {w wr w' : World} {base kind : Int} {vd vf : Value} (h : SgB w base kind vd vf wr) (hb : Below (w.heap.size + 2) wr w') : SgB w base kind vd vf w' := by
  have c : ∀ k < 2, ∀ j, w'.cell? ⟨w.heap.size + k, j, none⟩ = wr.cell? ⟨w.heap.size + k, j, none⟩ := fun k hk j => hb.cell (p := ⟨w.heap.size + k, j, none⟩) (by show w.heap.size + k < _; omega)
  have g : ∀ k < 2, ∀ j, w'.frozen? ⟨w.heap.size + k, j, none⟩ = wr.frozen? ⟨w.heap.size + k, j, none⟩ := fun k hk j => hb.frozen (p := ⟨w.heap.size + k, j, none⟩) (by show w.heap.size + k < _; omega)
  exact ⟨(c 0 (by omega) 0).trans h.t0, (c 0 (by omega) 1).trans h.t1, (c 0 (by omega) 2).trans h.t2, (c 0 (by omega) 3).trans h.t3, (c 1 (by omega) 0).trans h.d0, (c 1 (by omega) 1).trans h.d1, (c 1 (by omega) 2).trans h.d2, (c 1 (by omega) 3).trans h.d3, fun i => (g 1 (by omega) i).trans (h.fz i), h.bl.trans (hb.mono (by omega)), Nat.le_trans h.sz hb.size⟩
theorem sgB_at (w : World) (base kind : Int) (vd vf : Value) : SgB w base kind vd vf ((w.alloc (.cells #[.int .i64 base, .int .i64 kind, vd, vf] 25)).alloc (.cells #[.int .i64 0, .int .i64 0, .slice none 0 0, .slice none 0 0] 25)) := by
  have hA : ∀ (w : World) o, Below w.heap.size w (w.alloc o) := fun w o => (Below.refl _ _).alloc (Nat.le_refl _) _
  generalize hw1 : w.alloc (.cells #[.int .i64 base, .int .i64 kind, vd, vf] 25) = w1
  have z1 : w1.heap.size = w.heap.size + 1 := by rw [← hw1]; simp
  have c1 : ∀ j, w1.cell? ⟨w.heap.size, j, none⟩ = (#[.int .i64 base, .int .i64 kind, vd, vf] : Array Value)[j]? := fun j => by rw [← hw1]; exact newC0 w _ _ j
  have c2 : ∀ j, (w1.alloc (.cells #[.int .i64 0, .int .i64 0, .slice none 0 0, .slice none 0 0] 25)).cell? ⟨w.heap.size + 1, j, none⟩ = (#[.int .i64 0, .int .i64 0, .slice none 0 0, .slice none 0 0] : Array Value)[j]? := fun j => by rw [← z1]; exact newC0 w1 _ _ j
  have k2 : ∀ j o, (w1.alloc o).cell? ⟨w.heap.size, j, none⟩ = w1.cell? ⟨w.heap.size, j, none⟩ := fun j o => (hA w1 _).cell (p := ⟨w.heap.size, j, none⟩) (by show w.heap.size < w1.heap.size; omega)
  have g2 : ∀ j o t, (w1.alloc (.cells o t)).frozen? ⟨w.heap.size + 1, j, none⟩ = false := fun j o t => by rw [← z1]; exact World.frozen?_alloc_new _ _ _ _
  have b1 : Below w.heap.size w w1 := by rw [← hw1]; exact hA w _
  exact ⟨(k2 0 _).trans (c1 0), (k2 1 _).trans (c1 1), (k2 2 _).trans (c1 2), (k2 3 _).trans (c1 3), c2 0, c2 1, c2 2, c2 3, fun i => g2 i _ _, b1.alloc b1.size _, by simp; omega⟩
set_option maxRecDepth 20000 in
set_option maxHeartbeats 1600000 in
theorem curSingle_bad (base kind E : Int) (vd vf : Value) (w : World) (hE : E ≠ 0) (HC : Hid (∀ wx, Below w.heap.size w wx → Calls Tryz.prog 10 #[.agg #[.int .i64 base, .int .i64 kind, vd, vf]] wx fun e w' => e = .returned (.int .i64 E) ∧ Below wx.heap.size wx w')) :
    Calls Tryz.prog 19 #[.agg #[.int .i64 base, .int .i64 kind, vd, vf]] w fun e w' => e = .returned (.tuple #[.agg #[.int .i64 0, .int .i64 0, .slice none 0 0, .slice none 0 0], .int .i64 E]) ∧ Below w.heap.size w w' := by
  have HB := hideS (sgB_at w base kind vd vf)
  have d1 : (E != 0) = true := bne_iff_ne.2 hE
  clear hE
  go_enter Tryz.func19, Tryz.ntmps19
  go_wp2_with fail
  refine (HC.out _ HB.out.bl).mono ?_
  rintro e w2 ⟨rfl, hb2⟩
  have HB2 := hideS (HB.out.stay (hb2.mono HB.out.sz))
  clear hb2 HB HC
  have q0 := HB2.out.d0
  have q1 := HB2.out.d1
  have q2 := HB2.out.d2
  have q3 := HB2.out.d3
  have z0 := HB2.out.fz 0
  have z1 := HB2.out.fz 1
  have z2 := HB2.out.fz 2
  have z3 := HB2.out.fz 3
  go_wp2_with fail
  have hs : ∀ j, w.heap.size ≤ (⟨w.heap.size + 1, j, none⟩ : Addr).block := fun j => by show w.heap.size ≤ w.heap.size + 1; omega
  have hbl : Below w.heap.size w ((((w2.setCell ⟨w.heap.size + 1, 0, none⟩ (.int .i64 0)).setCell ⟨w.heap.size + 1, 1, none⟩ (.int .i64 0)).setCell ⟨w.heap.size + 1, 2, none⟩ (.slice none 0 0)).setCell ⟨w.heap.size + 1, 3, none⟩ (.slice none 0 0)) := (((HB2.out.bl.setCell (hs 0) _).setCell (hs 1) _).setCell (hs 2) _).setCell (hs 3) _
  refine bodyPost_ret (v := .tuple #[.agg #[.int .i64 0, .int .i64 0, .slice none 0 0, .slice none 0 0], .int .i64 E]) (by simp [results, Tryz.results19, go_sem, q0, q1, q2, q3]) rfl ?_
  exact ⟨rfl, hbl⟩
set_option maxRecDepth 20000 in
set_option maxHeartbeats 1600000 in
theorem ref11Same_nil (w : World) : Calls Tryz.prog 21 #[.agg #[.int .i64 0, .int .i64 0, .slice none 0 0, .slice none 0 0], .agg #[.int .i64 0, .int .i64 0, .slice none 0 0, .slice none 0 0]] w fun e w' => e = .returned (.bool true) ∧ Below w.heap.size w w' := by
  obtain ⟨w2, hw2⟩ : ∃ w2, (w.alloc (.cells #[.int .i64 0, .int .i64 0, .slice none 0 0, .slice none 0 0] 25)).alloc (.cells #[.int .i64 0, .int .i64 0, .slice none 0 0, .slice none 0 0] 32) = w2 := ⟨_, rfl⟩
  have HL : Hid (Below w.heap.size w w2) := by show Below _ _ _; rw [← hw2]; exact ((Below.refl _ _).alloc (Nat.le_refl _) _).alloc (by simp) _
  have c0 : w2.cell? ⟨w.heap.size, 0, none⟩ = some (.int .i64 0) := by rw [← hw2]; simp
  have c1 : w2.cell? ⟨w.heap.size, 1, none⟩ = some (.int .i64 0) := by rw [← hw2]; simp
  have c2 : w2.cell? ⟨w.heap.size, 2, none⟩ = some (.slice none 0 0) := by rw [← hw2]; simp
  have c3 : w2.cell? ⟨w.heap.size, 3, none⟩ = some (.slice none 0 0) := by rw [← hw2]; simp
  have d0 : w2.cell? ⟨w.heap.size + 1, 0, none⟩ = some (.int .i64 0) := by rw [← hw2]; simp
  have d1 : w2.cell? ⟨w.heap.size + 1, 1, none⟩ = some (.int .i64 0) := by rw [← hw2]; simp
  have d2 : w2.cell? ⟨w.heap.size + 1, 2, none⟩ = some (.slice none 0 0) := by rw [← hw2]; simp
  have d3 : w2.cell? ⟨w.heap.size + 1, 3, none⟩ = some (.slice none 0 0) := by rw [← hw2]; simp
  go_enter Tryz.func21, Tryz.ntmps21
  go_wp2_with fail
  clear hw2
  go_loop [5] (fun i => i = .int .i64 0) (fun _ => 0)
  case atStart => exact rfl
  case round =>
    obtain rfl := hrel
    go_wp2_with fail
    go_loop [6] (fun i => i = .int .i64 0) (fun _ => 0)
    case atStart => exact rfl
    case round =>
      obtain rfl := hrel
      go_wp2_with fail
      go_ret
      exact ⟨rfl, HL.out⟩
end Go.Proofs.YtcmbfflemoccmaaGreat
