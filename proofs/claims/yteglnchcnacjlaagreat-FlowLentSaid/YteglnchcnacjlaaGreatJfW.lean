/- The contract of package flow's Shift. -/
import Derived.Test.YteglnchcnacjlaaGreatHao
import Derived.Test.YteglnchcnacjlaaGreatHak
namespace Go.Proofs.YteglnchcnacjlaaGreat
open Go.RowKit

def shfF (g : Int → Option Int) (f : Flw) : Option Flw := (g f.day).map fun n => ⟨n, f.am, f.cur⟩
theorem FBx.dy {w wr : World} {f : Flw} (h : wr.heap[w.heap.size]? = some (.cells #[.int .i64 f.day, .float .f64 f.am, .int .i64 f.cur] 29)) (hb : Below w.heap.size w wr) (n : Int) : FBx w ⟨n, f.am, f.cur⟩ (wr.setCell ⟨w.heap.size, 0, none⟩ (.int .i64 n)) :=
  fbx_of (set_blockJ _ h) (hb.setCell (p := ⟨w.heap.size, 0, none⟩) (Nat.le_refl _) _)

set_option maxRecDepth 20000 in
set_option maxHeartbeats 3200000 in
theorem jShift_any (l : List Flw) (p : Option Addr) (b off c N : Nat) (mo : Int) (g : Int → Option Int) (w : World) (hl : JSrc aF w p b off l) (hN : l.length = N) (hc : N * 24 ≤ 140737488355328)
    (hg : ∀ n w, Calls Tryz.prog 20 #[.int .i64 n, .int .i64 mo, .bool false] w fun e w' => e = .returned (.tuple #[.int .i64 ((g n).getD 0), .int .i64 (if (g n).isSome then 0 else 51)]) ∧ w' = w) :
    Calls Tryz.prog 8 #[.slice p N c, .int .i64 mo] w fun e w' => LstO aF 29 (mapO (shfF g) l N) 51 w.heap.size e w' ∧ Below w.heap.size w w' := by
  have HN := hideS hN
  have HQ := hideS hl
  have HP : Hid (0 < N → p = some ⟨b, off, none⟩) := fun h => hl.at_ (by omega)
  have HC := hideS hc
  have HG := hideS hg
  have hc2 : N ≤ 140737488355328 := by omega
  have HO0 := hideS (fown_nil aF w w.heap.size 29)
  obtain ⟨Lo, hLo⟩ : ∃ Lo, LstO aF 29 (mapO (shfF g) l N) 51 w.heap.size = Lo := ⟨_, rfl⟩
  rw [hLo]
  have HLo := hideS hLo
  clear hl hN hc hg hLo
  go_enter Tryz.func8, Tryz.ntmps8
  go_wp2_with fail
  go_loopw [6, 13] (fun v i wr => ∃ (k : Nat) (m : List Flw) (q : Option Addr) (cp : Nat), k ≤ N ∧ i = .int .i64 k ∧ v = .slice q k cp ∧ Hid (mapO (shfF g) l k = some m) ∧ Hid (wr.ownsRow w.heap.size 29 3 (.slice q k cp) k (rowF aF m)) ∧ Hid (Below w.heap.size w wr)) (fun _ i _ => N - (intOf i).toNat)
  case atStart => exact ⟨0, [], none, 0, Nat.zero_le _, rfl, rfl, rfl, HO0, Below.refl _ _⟩
  case round =>
    clear HO0
    obtain ⟨k, m, q, cp, hk, rfl, rfl, HM, HO, HB⟩ := hrel
    by_cases hlt : k < N
    · obtain rfl := HP.out (by omega)
      obtain ⟨c0, c1, c2⟩ := (HQ.out.below HB.out).cell k (by rw [HN.out]; exact hlt)
      have h3 := setF_blk wr (l.getD k flw0)
      have HQB := hideS (setF_box wr (l.getD k flw0))
      have HQ2 := hideS (fun n => FBx.dy h3 (setF_box wr (l.getD k flw0)).bl n)
      have HSt := hideS (fun h => mapO_stop (g := shfF g) (l := l) (k := k) h N hlt)
      have HSu := hideS (fun f h => mapO_succ (f := f) HM.out h)
      have HGd : Hid (shfF g (l.getD k flw0) = (g (l.getD k flw0).day).map fun n => ⟨n, (l.getD k flw0).am, (l.getD k flw0).cur⟩) := rfl
      obtain ⟨⟨z0, z1, z2⟩, fz⟩ := zeroF_cells wr
      have y0 := fz 0
      have y1 := fz 1
      have y2 := fz 2
      clear fz h3
      obtain ⟨f, hf⟩ : ∃ f, l.getD k flw0 = f := ⟨_, rfl⟩
      rw [hf] at HQB HQ2 c0 c1 c2 HSt HSu HGd
      clear hf
      obtain ⟨qd, qa, qc⟩ := f
      dsimp only [aF] at *
      have HGq := hideS (HG.out qd)
      obtain ⟨w2, hw2⟩ : ∃ w2, wr.alloc zeroF = w2 := ⟨_, rfl⟩
      rw [hw2] at z0 z1 z2 y0 y1 y2 HQB HQ2
      unfold zeroF at hw2
      obtain ⟨w3, hw3⟩ : ∃ w3, setF w2 wr.heap.size ⟨qd, qa, qc⟩ = w3 := ⟨_, rfl⟩
      rw [hw3] at HQB HQ2
      unfold setF at hw3
      dsimp only at hw3
      have t0 := HQB.out.t0
      have t1 := HQB.out.t1
      have t2 := HQB.out.t2
      have x0 := HQB.out.fz 0
      dsimp only at t0 t1 t2
      have hst := store_flj
      cases hgq : g qd with
      | none =>
        rw [hgq] at HGq HGd
        have HE : Hid (∀ wx, Lo (.returned (.tuple #[.slice none 0 0, .int .i64 51])) wx) := fun wx => by
          rw [← HLo.out]; exact Or.inl ⟨HSt.out HGd.out, rfl⟩
        have HB4 := hideS (HB.out.trans (HQB.out.bl.mono HB.out.size))
        clear hgq
        dsimp only [Option.getD, Option.isSome] at HGq
        go_wp2_with fail
        refine (turned (HGq.out _)).mono ?_
        rintro e w5 ⟨rfl, rfl⟩
        go_wp2_with fail
        go_ret2
        exact ⟨HE.out _, HB4.out⟩
      | some n =>
        rw [hgq] at HGq HGd
        dsimp only [Option.getD, Option.isSome] at HGq
        have HS := hideS (HSu.out _ HGd.out)
        obtain ⟨w4, hw4⟩ : ∃ w4, w3.setCell ⟨wr.heap.size, 0, none⟩ (.int .i64 n) = w4 := ⟨_, rfl⟩
        have HQ4 := hideS (HQ2.out n)
        rw [hw4] at HQ4
        have s0 := HQ4.out.t0
        have s1 := HQ4.out.t1
        have s2 := HQ4.out.t2
        dsimp only at s0 s1 s2
        have HBw := hideS (HQ4.out.bl.trans (((Below.refl w4.heap.size w4).alloc (Nat.le_refl _) (.cells #[.int .i64 n, .float .f64 qa, .int .i64 qc] 29)).mono HQ4.out.bl.size))
        have HO4 := hideS (fown_below HO.out HBw.out)
        have HFc := hideS (fcells_new w4 ⟨n, qa, qc⟩)
        have HB4 := hideS (HB.out.trans (HBw.out.mono HB.out.size))
        clear hgq
        go_wp2_with fail
        refine (turned (HGq.out _)).mono ?_
        rintro e w5 ⟨rfl, rfl⟩
        go_wp2_with (at_builtin; refine wpList_append_f1 _ rfl (.tmp 29) (.tmp 31) rfl w.heap.size (.slice q k cp) k m rfl HO4.out HB4.out.size w4.heap.size ⟨n, qa, qc⟩ rfl HFc.out (by have := HC.out; omega) ?_; intro v5 w5 ho5 hb5; have HB5 := hideS (HB4.out.trans hb5); obtain ⟨q5, g5, k5, hv5, _, _, _, hm5⟩ := fown_src ho5 (mapO_len HS.out); subst hv5; have HO5 := hideS ho5; clear ho5 hb5)
        go_roundw
        case rel => exact ⟨k + 1, _, q5, k5, by omega, by go_num, rfl, HS, HO5, HB5⟩
        case measure => simp [intOf]; omega
    · obtain rfl : k = N := by omega
      go_wp2_with fail
      go_ret2
      refine ⟨?_, HB.out⟩
      rw [← HLo.out, HM.out]
      refine Or.inr ⟨m, _, rfl, rfl, ?_⟩
      rw [mapO_len HM.out]; exact HO.out
end Go.Proofs.YteglnchcnacjlaaGreat
