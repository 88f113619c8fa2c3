/- Package deal: give. Package deal: scale. Package deal: the flows of awake17's deal, in plain words. -/
import Derived.Test.YtiiajhomdpfafaaGreatDoorHbf
import Derived.Test.YtiiajhomdpfafaaGreatDoorHav
namespace Go.Proofs.YtiiajhomdpfafaaGreatDoor
open Go.RowKit

theorem JSrc.drop {w : World} {p : Option Addr} {b : Nat} {l : List Flw} (h : JSrc aF w p b 0 l) (k : Nat) (hk : k < l.length) : JSrc aF w (some ⟨b, k * 3, none⟩) b (k * 3) (l.drop k) :=
  ⟨fun _ => rfl, fun _ => h.lt (by omega), fun i hi => by
    rw [List.length_drop] at hi
    have hc := h.cell (k + i) (by omega)
    have e1 : 0 + (k + i) * 3 = k * 3 + i * 3 := by omega
    have e2 : (l.drop k).getD i flw0 = l.getD (k + i) flw0 := by simp [List.getD]
    rw [e1] at hc
    rw [e2]; exact hc⟩
set_option maxRecDepth 20000 in
set_option maxHeartbeats 25600000 in
theorem mGive_any (B b k : Nat) (fv sv : Value) (fl : List Flw) (st : List Int) (t : Trm) (w : World) (h : MnM B b fv sv fl (st ++ [(k : Int)]) w) (hb : B ≤ b) (hk : k < fl.length) (hfl : fl.length ≤ 4096) (hn : st.length ≤ 100000) :
    Calls Tryz.prog 49 #[.pointer (some ⟨b, 0, none⟩), .agg (trC t)] w fun e w' => e = .returned (.int .i64 0) ∧ (∃ v, MnM B b v sv (fl.take k ++ (fl.drop k).map giveF) (st ++ [(k : Int)]) w') ∧ Below B w w' := by
  have hbw := lt_of_blk h.box
  have HBw : Hid (B ≤ w.heap.size) := by show _ ≤ _; omega
  have HW1 := hidD (al_bel w (.cells (trC t) 47))
  have h1 := h.below HW1.out
  obtain ⟨pf, gf, cf, rfl, so, hgo, hco, hcm⟩ := fown_src h1.flows (by omega)
  obtain rfl := so.at_ (by omega)
  have H1 := hidD h1
  have HBb := hidD hb
  have HSo := hidD (JSrc.drop so k hk)
  have HKl := hidD (And.intro hk hfl)
  have HNn := hidD hn
  obtain ⟨w1, hw1⟩ : ∃ w1, w.alloc (.cells (trC t) 47) = w1 := ⟨_, rfl⟩
  rw [hw1] at HW1 H1 HSo
  have r0 := H1.out.cells.1
  have HLa := hidD (mLast_any B b _ sv fl st k w1.drew ⟨H1.out.box, H1.out.flows, H1.out.starts⟩ hn)
  obtain ⟨n, hnL⟩ : ∃ n, fl.length = n := ⟨_, rfl⟩
  have HnL := hidD hnL
  rw [hnL] at r0 hk hfl hco
  obtain ⟨m, hm⟩ : ∃ m, n - k = m := ⟨_, rfl⟩
  have HmL : Hid ((fl.drop k).length = m ∧ 0 < m ∧ m ≤ 4096) := ⟨by rw [List.length_drop, HnL.out]; exact hm, by omega, by omega⟩
  have i0 : (n : Int) - (k : Int) = (m : Int) := by omega
  have i1 : (0 : Int) ≤ (k : Int) := by omega
  have i2 : (k : Int) ≤ (n : Int) := by omega
  have i3 : ¬ (n : Int) < (k : Int) := by omega
  have i4 : k ≤ n := by omega
  have i5 : ¬ (cf : Int) < (n : Int) := by omega
  have i6 : n ≤ cf := by omega
  have i7 : ¬ cf = k := by omega
  have iw : IntKind.i64.wrap (k : Int) = (k : Int) := by rw [IntKind.wrap_i64]; omega
  unfold trC at hw1 ⊢
  clear h h1 hb hn so hgo hcm hbw hnL
  go_enter Tryz.func49, Tryz.ntmps49
  go_wp2_with fail
  refine wp_region_late (fun xw => xw.cell? ⟨b, 0, none⟩ = some (.slice (some ⟨gf, 0, none⟩) n cf)) (fun i => i == 9) (by kernel_rfl) ?_
  have hS0 : w1.drew.cell? ⟨b, 0, none⟩ = some (.slice (some ⟨gf, 0, none⟩) n cf) := r0
  refine anyL_take 0 (.pointer (some ⟨b, 0, none⟩)) rfl (by kernel_rfl) (by kernel_rfl) (by kernel_rfl) (by kernel_rfl) (by kernel_rfl) (fun _ _ _ h => h) (by rfl) hS0 (fun wx hS => by go_simp) ?_
  simp only [Act.put, List.setIfInBounds_toArray]
  refine anyL_take 1 (.pointer (some ⟨b, 0, none⟩)) rfl (by kernel_rfl) (by kernel_rfl) (by kernel_rfl) (by kernel_rfl) (by kernel_rfl) (fun _ _ _ h => h) (by rfl) hS0 (fun wx hS => by go_simp) ?_
  simp only [Act.put]
  refine anyL_take 2 (.pointer (some ⟨b, 0, none⟩)) rfl (by kernel_rfl) (by kernel_rfl) (by kernel_rfl) (by kernel_rfl) (by kernel_rfl) (fun _ _ _ h => h) (by rfl) hS0 (fun wx hS => by go_simp) ?_
  simp only [Act.put]
  refine anyL_take 3 (.pointer (some ⟨b, 0, none⟩)) rfl (by kernel_rfl) (by kernel_rfl) (by kernel_rfl) (by kernel_rfl) (by kernel_rfl) (fun _ _ _ h => h) (by rfl) hS0 (fun wx hS => by go_simp) ?_
  simp only [Act.put]
  refine anyL_take 4 (.slice (some ⟨gf, 0, none⟩) n cf) rfl (by kernel_rfl) (by kernel_rfl) (by kernel_rfl) (by kernel_rfl) (by kernel_rfl) (fun _ _ _ h => h) (by rfl) hS0 (fun wx hS => by go_simp) ?_
  simp only [Act.put]
  refine anyL_take 5 (.pointer (some ⟨b, 0, none⟩)) rfl (by kernel_rfl) (by kernel_rfl) (by kernel_rfl) (by kernel_rfl) (by kernel_rfl) (fun _ _ _ h => h) (by rfl) hS0 (fun wx hS => by go_simp) ?_
  simp only [Act.put]
  refine anyL_one (i := 6) (by kernel_rfl) ?_
  refine wpOp_step rfl (fun K1 hK1 => ?_)
  go_simp
  refine HLa.out.mono ?_
  rintro e w2 ⟨rfl, q, hq⟩
  have hS2 : w2.cell? ⟨b, 0, none⟩ = some (.slice (some ⟨gf, 0, none⟩) n cf) := by rw [hq]; exact r0
  have HM2 : Hid (MnM B b (.slice (some ⟨gf, 0, none⟩) fl.length cf) sv fl (st ++ [(k : Int)]) w2) := by show MnM _ _ _ _ _ _ _; rw [hq]; exact ⟨H1.out.box, H1.out.flows, H1.out.starts⟩
  have HB2 : Hid (Below w.heap.size w w2) := by show Below _ _ _; rw [hq]; exact ⟨HW1.out.os, HW1.out.tape, HW1.out.output, HW1.out.size, HW1.out.block⟩
  have HS2 : Hid (JSrc aF w2 (some ⟨gf, k * 3, none⟩) gf (k * 3) (fl.drop k)) := by show JSrc _ _ _ _ _ _; rw [hq]; exact ⟨HSo.out.at_, HSo.out.lt, fun i hi => ⟨(HSo.out.cell i hi).c0, (HSo.out.cell i hi).c1, (HSo.out.cell i hi).c2⟩⟩
  clear hq
  refine hK1 _ _ ⟨fun _ => hS2, ?_⟩
  refine anyL_one (i := 7) (by kernel_rfl) ?_
  refine wpOp_step rfl (fun K2 hK2 => ?_)
  go_simp
  refine hK2 _ _ ⟨fun _ => hS2, ?_⟩
  refine anyL_one (i := 8) (by kernel_rfl) ?_
  refine wpOp_step rfl (fun K3 hK3 => ?_)
  go_simp
  refine (jGive_any (fl.drop k) _ gf (k * 3) (cf - k) m w2 HS2.out HmL.out.1 (by have := HmL.out; omega)).mono ?_
  rintro e w3 ⟨⟨u, rfl, hu⟩, hb3⟩
  obtain ⟨p2, c2, g2, hv2, _, _, hp2, _⟩ := orow_src hu
  obtain rfl := hp2 HmL.out.2.1
  subst hv2
  have HU := hidD hu
  have hS3 : w3.cell? ⟨b, 0, none⟩ = some (.slice (some ⟨gf, 0, none⟩) n cf) := (hb3.cell (p := ⟨b, 0, none⟩) (lt_of_blk HM2.out.box)).trans hS2
  have HM3 := hidD (HM2.out.below hb3)
  have HB3 : Hid (Below w.heap.size w w3) := HB2.out.trans (hb3.mono HB2.out.size)
  clear hu hb3 hp2
  refine hK3 _ _ ⟨fun _ => hS3, ?_⟩
  have hlm : ((fl.drop k).map giveF).length = m := by rw [List.length_map]; exact HmL.out.1
  have HPu := hidD (mPut_any B b k g2 c2 w2.heap.size _ sv fl ((fl.drop k).map giveF) st w3 HM3.out HBb.out (Nat.le_of_lt HKl.out.1) (by have := HKl.out.2; omega) (by rw [hlm]; have := HmL.out; omega) HNn.out (by rw [hlm]; exact HU.out))
  rw [hlm] at HPu
  clear hlm hS2 hS3
  refine anyL_one (i := 9) (by kernel_rfl) ?_
  refine wpOp_step rfl (fun K4 hK4 => ?_)
  go_simp
  refine HPu.out.mono ?_
  rintro e w4 ⟨rfl, ⟨v, h4⟩, hb4⟩
  have H4 := hidD h4
  have HB4 : Hid (Below B w w4) := (HB3.out.mono HBw.out).trans hb4
  clear h4 hb4
  refine hK4 _ _ ⟨fun h => absurd h (by decide), ?_⟩
  refine anyL_done (by kernel_rfl) ?_
  go_wp2_with fail
  go_ret
  exact ⟨rfl, ⟨_, H4.out⟩, HB4.out⟩
end Go.Proofs.YtiiajhomdpfafaaGreatDoor
namespace Go.Proofs.YtiiajhomdpfafaaGreatDoor
open Go.RowKit

set_option maxRecDepth 20000 in
set_option maxHeartbeats 25600000 in
theorem mScale_any (B b k : Nat) (fv sv : Value) (fl : List Flw) (st : List Int) (t : Trm) (w : World) (h : MnM B b fv sv fl (st ++ [(k : Int)]) w) (hb : B ≤ b) (hk : k < fl.length) (hfl : fl.length ≤ 4096) (hn : st.length ≤ 100000) (hx : t.x < 18446744073709551616) (hf : FitJ (fl.drop k)) {l2 : List Flw} (hs : sclL t.x (fl.drop k) = some l2) (hl2 : l2.length = (fl.drop k).length) :
    Calls Tryz.prog 51 #[.pointer (some ⟨b, 0, none⟩), .agg (trC t)] w fun e w' => e = .returned (.int .i64 0) ∧ (∃ v, MnM B b v sv (fl.take k ++ l2) (st ++ [(k : Int)]) w') ∧ Below B w w' := by
  have hbw := lt_of_blk h.box
  have HBw : Hid (B ≤ w.heap.size) := by show _ ≤ _; omega
  have HW1 := hidD (al_bel w (.cells (trC t) 47))
  have h1 := h.below HW1.out
  obtain ⟨pf, gf, cf, rfl, so, hgo, hco, hcm⟩ := fown_src h1.flows (by omega)
  obtain rfl := so.at_ (by omega)
  have H1 := hidD h1
  have HBb := hidD hb
  have HSo := hidD (JSrc.drop so k hk)
  have HKl := hidD (And.intro hk hfl)
  have HNn := hidD hn
  have HX := hidD (And.intro hx (And.intro hf (And.intro hs hl2)))
  have HT1 : Hid ((w.alloc (.cells (trC t) 47)).heap[w.heap.size]? = some (.cells (trC t) 47)) := heap_alloc_new _ _
  obtain ⟨w1, hw1⟩ : ∃ w1, w.alloc (.cells (trC t) 47) = w1 := ⟨_, rfl⟩
  rw [hw1] at HW1 H1 HSo HT1
  have d3 := (trm_cells HT1.out).2.2.2.1
  obtain ⟨K, hK⟩ : ∃ K, w.heap.size = K := ⟨_, rfl⟩
  rw [hK] at d3
  have r0 := H1.out.cells.1
  have HLa := hidD (mLast_any B b _ sv fl st k w1.drew ⟨H1.out.box, H1.out.flows, H1.out.starts⟩ hn)
  obtain ⟨n, hnL⟩ : ∃ n, fl.length = n := ⟨_, rfl⟩
  have HnL := hidD hnL
  rw [hnL] at r0 hk hfl hco
  obtain ⟨m, hm⟩ : ∃ m, n - k = m := ⟨_, rfl⟩
  have HmL : Hid ((fl.drop k).length = m ∧ 0 < m ∧ m ≤ 4096) := ⟨by rw [List.length_drop, HnL.out]; exact hm, by omega, by omega⟩
  have i0 : (n : Int) - (k : Int) = (m : Int) := by omega
  have i1 : (0 : Int) ≤ (k : Int) := by omega
  have i2 : (k : Int) ≤ (n : Int) := by omega
  have i3 : ¬ (n : Int) < (k : Int) := by omega
  have i4 : k ≤ n := by omega
  have i5 : ¬ (cf : Int) < (n : Int) := by omega
  have i6 : n ≤ cf := by omega
  have i7 : ¬ cf = k := by omega
  have iw : IntKind.i64.wrap (k : Int) = (k : Int) := by rw [IntKind.wrap_i64]; omega
  unfold trC at hw1 ⊢
  clear h h1 hb hn so hgo hcm hbw hnL hx hf hs hl2
  go_enter Tryz.func51, Tryz.ntmps51
  go_wp2_with fail
  refine wp_region_late (fun xw => xw.cell? ⟨b, 0, none⟩ = some (.slice (some ⟨gf, 0, none⟩) n cf) ∧ xw.cell? ⟨K, 3, none⟩ = some (.float .f64 t.x)) (fun _ => false) (by kernel_rfl) ?_
  have hS0 : w1.drew.cell? ⟨b, 0, none⟩ = some (.slice (some ⟨gf, 0, none⟩) n cf) ∧ w1.drew.cell? ⟨K, 3, none⟩ = some (.float .f64 t.x) := ⟨r0, d3⟩
  refine anyL_take 0 (.pointer (some ⟨K, 3, none⟩)) rfl (by kernel_rfl) (by kernel_rfl) (by kernel_rfl) (by kernel_rfl) (by kernel_rfl) (fun _ _ _ h => h) (by rfl) hS0 (fun wx hS => by obtain ⟨z0, z1⟩ := hS; go_simp) ?_
  simp only [Act.put, List.setIfInBounds_toArray]
  refine anyL_take 1 (.float .f64 t.x) rfl (by kernel_rfl) (by kernel_rfl) (by kernel_rfl) (by kernel_rfl) (by kernel_rfl) (fun _ _ _ h => h) (by rfl) hS0 (fun wx hS => by obtain ⟨z0, z1⟩ := hS; go_simp) ?_
  simp only [Act.put]
  refine anyL_take 2 (.pointer (some ⟨b, 0, none⟩)) rfl (by kernel_rfl) (by kernel_rfl) (by kernel_rfl) (by kernel_rfl) (by kernel_rfl) (fun _ _ _ h => h) (by rfl) hS0 (fun wx hS => by obtain ⟨z0, z1⟩ := hS; go_simp) ?_
  simp only [Act.put]
  refine anyL_take 3 (.pointer (some ⟨b, 0, none⟩)) rfl (by kernel_rfl) (by kernel_rfl) (by kernel_rfl) (by kernel_rfl) (by kernel_rfl) (fun _ _ _ h => h) (by rfl) hS0 (fun wx hS => by obtain ⟨z0, z1⟩ := hS; go_simp) ?_
  simp only [Act.put]
  refine anyL_take 4 (.pointer (some ⟨b, 0, none⟩)) rfl (by kernel_rfl) (by kernel_rfl) (by kernel_rfl) (by kernel_rfl) (by kernel_rfl) (fun _ _ _ h => h) (by rfl) hS0 (fun wx hS => by obtain ⟨z0, z1⟩ := hS; go_simp) ?_
  simp only [Act.put]
  refine anyL_take 5 (.slice (some ⟨gf, 0, none⟩) n cf) rfl (by kernel_rfl) (by kernel_rfl) (by kernel_rfl) (by kernel_rfl) (by kernel_rfl) (fun _ _ _ h => h) (by rfl) hS0 (fun wx hS => by obtain ⟨z0, z1⟩ := hS; go_simp) ?_
  simp only [Act.put]
  refine anyL_take 6 (.pointer (some ⟨b, 0, none⟩)) rfl (by kernel_rfl) (by kernel_rfl) (by kernel_rfl) (by kernel_rfl) (by kernel_rfl) (fun _ _ _ h => h) (by rfl) hS0 (fun wx hS => by obtain ⟨z0, z1⟩ := hS; go_simp) ?_
  simp only [Act.put]
  refine anyL_one (i := 7) (by kernel_rfl) ?_
  refine wpOp_step rfl (fun K1 hK1 => ?_)
  go_simp
  refine HLa.out.mono ?_
  rintro e w2 ⟨rfl, q, hq⟩
  have hS2 : w2.cell? ⟨b, 0, none⟩ = some (.slice (some ⟨gf, 0, none⟩) n cf) ∧ w2.cell? ⟨K, 3, none⟩ = some (.float .f64 t.x) := by rw [hq]; exact ⟨r0, d3⟩
  have HM2 : Hid (MnM B b (.slice (some ⟨gf, 0, none⟩) fl.length cf) sv fl (st ++ [(k : Int)]) w2) := by show MnM _ _ _ _ _ _ _; rw [hq]; exact ⟨H1.out.box, H1.out.flows, H1.out.starts⟩
  have HB2 : Hid (Below w.heap.size w w2) := by show Below _ _ _; rw [hq]; exact ⟨HW1.out.os, HW1.out.tape, HW1.out.output, HW1.out.size, HW1.out.block⟩
  have HS2 : Hid (JSrc aF w2 (some ⟨gf, k * 3, none⟩) gf (k * 3) (fl.drop k)) := by show JSrc _ _ _ _ _ _; rw [hq]; exact ⟨HSo.out.at_, HSo.out.lt, fun i hi => ⟨(HSo.out.cell i hi).c0, (HSo.out.cell i hi).c1, (HSo.out.cell i hi).c2⟩⟩
  clear hq
  refine hK1 _ _ ⟨fun _ => hS2, ?_⟩
  refine anyL_one (i := 8) (by kernel_rfl) ?_
  refine wpOp_step rfl (fun K2 hK2 => ?_)
  go_simp
  refine hK2 _ _ ⟨fun _ => hS2, ?_⟩
  refine anyL_one (i := 9) (by kernel_rfl) ?_
  refine wpOp_step rfl (fun K3 hK3 => ?_)
  go_simp
  refine (jScale_any (fl.drop k) _ gf (k * 3) (cf - k) m t.x w2 HS2.out HmL.out.1 (by have := HmL.out; omega) HX.out.1 HX.out.2.1).mono ?_
  rintro e w3 ⟨hl, hb3⟩
  rcases hl with ⟨h0, _⟩ | ⟨l3, u, h0, rfl, hu⟩
  · rw [HX.out.2.2.1] at h0; cases h0
  obtain rfl : l2 = l3 := by rw [HX.out.2.2.1] at h0; injection h0
  have hlm : l2.length = m := by rw [HX.out.2.2.2]; exact HmL.out.1
  obtain ⟨p2, c2, g2, hv2, _, _, hp2, _⟩ := orow_src hu
  obtain rfl := hp2 (by rw [hlm]; exact HmL.out.2.1)
  subst hv2
  have HU := hidD hu
  have hS3 : w3.cell? ⟨b, 0, none⟩ = some (.slice (some ⟨gf, 0, none⟩) n cf) ∧ w3.cell? ⟨K, 3, none⟩ = some (.float .f64 t.x) := ⟨(hb3.cell (p := ⟨b, 0, none⟩) (lt_of_blk HM2.out.box)).trans hS2.1, (hb3.cell (p := ⟨K, 3, none⟩) (World.block_lt_of_cell? _ _ hS2.2)).trans hS2.2⟩
  have HM3 := hidD (HM2.out.below hb3)
  have HB3 : Hid (Below w.heap.size w w3) := HB2.out.trans (hb3.mono HB2.out.size)
  have HPu := hidD (mPut_any B b k g2 c2 w2.heap.size _ sv fl l2 st w3 HM3.out HBb.out (Nat.le_of_lt HKl.out.1) (by have := HKl.out.2; omega) (by rw [hlm]; have := HmL.out; omega) HNn.out HU.out)
  rw [hlm] at HPu ⊢
  clear hu hb3 hp2 h0
  refine hK3 _ _ ⟨fun _ => hS3, ?_⟩
  refine anyL_take 10 (.tuple #[.slice (some ⟨g2, 0, none⟩) m c2, .int .i64 0]) rfl (by kernel_rfl) (by kernel_rfl) (by kernel_rfl) (by kernel_rfl) (by kernel_rfl) (fun _ _ _ h => h) (by rfl) hS3 (fun wx hS => by obtain ⟨z0, z1⟩ := hS; go_simp) ?_
  simp only [Act.put]
  refine anyL_take 11 (.slice (some ⟨g2, 0, none⟩) m c2) rfl (by kernel_rfl) (by kernel_rfl) (by kernel_rfl) (by kernel_rfl) (by kernel_rfl) (fun _ _ _ h => h) (by rfl) hS3 (fun wx hS => by obtain ⟨z0, z1⟩ := hS; go_simp) ?_
  simp only [Act.put]
  refine anyL_take 12 (.int .i64 0) rfl (by kernel_rfl) (by kernel_rfl) (by kernel_rfl) (by kernel_rfl) (by kernel_rfl) (fun _ _ _ h => h) (by rfl) hS3 (fun wx hS => by obtain ⟨z0, z1⟩ := hS; go_simp) ?_
  simp only [Act.put]
  refine anyL_take 13 (.slice (some ⟨g2, 0, none⟩) m c2) rfl (by kernel_rfl) (by kernel_rfl) (by kernel_rfl) (by kernel_rfl) (by kernel_rfl) (fun _ _ _ h => h) (by rfl) hS3 (fun wx hS => by obtain ⟨z0, z1⟩ := hS; go_simp) ?_
  simp only [Act.put]
  refine anyL_take 14 (.int .i64 0) rfl (by kernel_rfl) (by kernel_rfl) (by kernel_rfl) (by kernel_rfl) (by kernel_rfl) (fun _ _ _ h => h) (by rfl) hS3 (fun wx hS => by obtain ⟨z0, z1⟩ := hS; go_simp) ?_
  simp only [Act.put]
  refine anyL_done (by kernel_rfl) ?_
  clear hS2 hS3
  go_wp2_with fail
  refine HPu.out.mono ?_
  rintro e w4 ⟨rfl, ⟨v, h4⟩, hb4⟩
  have H4 := hidD h4
  have HB4 : Hid (Below B w w4) := (HB3.out.mono HBw.out).trans hb4
  clear h4 hb4
  go_wp2_with fail
  go_ret
  exact ⟨rfl, ⟨_, H4.out⟩, HB4.out⟩
end Go.Proofs.YtiiajhomdpfafaaGreatDoor
namespace Go.Proofs.YtiiajhomdpfafaaGreatDoor

def fA17 : List Flw := [⟨47482, 4607182418800017408, 1⟩, ⟨47847, 4613937818241073152, 2⟩]
def fB17 : List Flw := [⟨47482, 4607182418800017408, 1⟩, ⟨47847, 13837309855095848960, 2⟩]
def fC17 : List Flw := [⟨47482, 4602678819172646912, 1⟩, ⟨47847, 13832806255468478464, 2⟩]
theorem give17 : fA17.take 1 ++ (fA17.drop 1).map giveF = fB17 := by kernel_rfl
theorem fit17 : FitJ (fB17.drop 0) := fun i => by
  match i with
  | 0 => decide
  | 1 => decide
  | n + 2 => exact (by decide : (0 : Nat) < 18446744073709551616)
theorem scl17 : sclL 4602678819172646912 (fB17.drop 0) = some fC17 := by kernel_rfl
end Go.Proofs.YtiiajhomdpfafaaGreatDoor
