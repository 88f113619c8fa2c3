/- The walk of InterpNodes. -/
import Derived.Test.YtnmjljijgmmakaaHbb
import Derived.Test.YtnmjljijgmmakaaFTab
namespace Go.Proofs.Ytnmjljijgmmakaa
open Go.RowKit

set_option maxHeartbeats 400000 in
theorem apiBits (x : Nat) (w : World) : Calls Try.prog 17 #[.float .f64 x] w fun e w' => e = .returned (.int .u64 (x : Int)) ∧ w' = w := by
  have h1 := call_bits
  go_enter Try.func17, Try.ntmps17
  go_wp2
  go_ret
  exact ⟨rfl, rfl⟩

set_option maxRecDepth 20000 in
set_option maxHeartbeats 1600000 in
theorem interpNodes_bad (kind E : Int) (v1 v2 : Value) (w : World) (hE : E ≠ 0)
    (HC : Hid (∀ wx, Below w.heap.size w wx → Calls Try.prog 8 #[.agg #[.int .i64 kind, v1, v2]] wx fun e w' => e = .returned (.int .i64 E) ∧ Below wx.heap.size wx w'))
    (HW : Hid (∀ wx, Calls Try.prog 7 #[] wx fun e w' => e = .returned (.bool true) ∧ Below wx.heap.size wx w')) :
    Calls Try.prog 4 #[.agg #[.int .i64 kind, v1, v2]] w fun e w' => e = .returned (.bool true) ∧ Below w.heap.size w w' := by
  have HB0 := hideS (abox_at w kind v1 v2)
  have hE' : (E != 0) = true := bne_iff_ne.2 hE
  clear hE
  go_enter Try.func4, Try.ntmps4
  go_wp2_with fail
  refine (HC.out _ HB0.out.bl).mono ?_
  rintro e w1 ⟨rfl, hb1⟩
  have HB1 := hideS (HB0.out.step hb1)
  clear hb1 HB0 HC
  go_wp2_with fail
  refine (HW.out _).mono ?_
  rintro e w3 ⟨rfl, hb3⟩
  have HL := hideS (HB1.out.step hb3).bl
  clear hb3 HB1
  go_wp2_with fail
  go_ret
  exact ⟨rfl, HL.out⟩

set_option maxRecDepth 40000 in
set_option maxHeartbeats 6400000 in
theorem interpNodes_go (kind : Int) (bx ox cx b2 oy cy n m : Nat) (xs : List Int) (ys : List Nat) (w : World) (hm : n = m + 1) (hn : n ≤ 256) (x0 x9 : Int) (hx0 : xs.getD 0 0 = x0) (hx9 : xs.getD m 0 = x9) (b0 : 0 ≤ x0) (b9 : x9 ≤ 109572) (b0' : x0 ≤ 109572) (b9' : 0 ≤ x9)
    (HC : Hid (∀ wx, Below w.heap.size w wx → Calls Try.prog 8 #[.agg #[.int .i64 kind, .slice (some ⟨bx, ox, none⟩) n cx, .slice (some ⟨b2, oy, none⟩) n cy]] wx fun e w' => e = .returned (.int .i64 0) ∧ Below wx.heap.size wx w'))
    (HX : Hid (∀ wx, Below w.heap.size w wx → ∀ k, k < n → wx.cell? ⟨bx, ox + k, none⟩ = some (.int .i64 (xs.getD k 0)) ∧ wx.cell? ⟨b2, oy + k, none⟩ = some (.float .f64 (ys.getD k 0))))
    (HA : Hid (∀ wx, Below w.heap.size w wx → ∀ k, k < n → Calls Try.prog 13 #[.agg #[.int .i64 kind, .slice (some ⟨bx, ox, none⟩) n cx, .slice (some ⟨b2, oy, none⟩) n cy], .int .i64 (xs.getD k 0)] wx fun e w' => e = .returned (.tuple #[.float .f64 (ys.getD k 0), .int .i64 0]) ∧ Below wx.heap.size wx w'))
    (HF : Hid (∀ wx, Below w.heap.size w wx → ∀ k, k < n → Calls Try.prog 11 #[.agg #[.int .i64 kind, .slice (some ⟨bx, ox, none⟩) n cx, .slice (some ⟨b2, oy, none⟩) n cy], .int .i64 (xs.getD k 0)] wx fun e w' => e = .returned (.tuple #[.int .i64 (k : Int), .int .i64 0]) ∧ Below wx.heap.size wx w'))
    (HL : Hid (∀ wx, Below w.heap.size w wx → Calls Try.prog 13 #[.agg #[.int .i64 kind, .slice (some ⟨bx, ox, none⟩) n cx, .slice (some ⟨b2, oy, none⟩) n cy], .int .i64 (x0 - 1)] wx fun e w' => e = .returned (.tuple #[.float .f64 0, .int .i64 51]) ∧ Below wx.heap.size wx w'))
    (HR : Hid (∀ wx, Below w.heap.size w wx → Calls Try.prog 13 #[.agg #[.int .i64 kind, .slice (some ⟨bx, ox, none⟩) n cx, .slice (some ⟨b2, oy, none⟩) n cy], .int .i64 (x9 + 1)] wx fun e w' => e = .returned (.tuple #[.float .f64 0, .int .i64 51]) ∧ Below wx.heap.size wx w'))
    (HW : Hid (∀ wx, Calls Try.prog 7 #[] wx fun e w' => e = .returned (.bool true) ∧ Below wx.heap.size wx w')) :
    Calls Try.prog 4 #[.agg #[.int .i64 kind, .slice (some ⟨bx, ox, none⟩) n cx, .slice (some ⟨b2, oy, none⟩) n cy]] w fun e w' => e = .returned (.bool true) ∧ Below w.heap.size w w' := by
  have HB0 := hideS (abox_at w kind (.slice (some ⟨bx, ox, none⟩) n cx) (.slice (some ⟨b2, oy, none⟩) n cy))
  have d1 : decide ((256 : Int) < (n : Int)) = false := decide_eq_false (by omega)
  have d2 : ((n : Int) != (n : Int)) = false := by simp
  have d3 : ((n : Int) == 0) = false := beq_eq_false_iff_ne.2 (by omega)
  have HE := hideS (And.intro hx0 (And.intro hx9 hm))
  clear hx0 hx9 hm
  go_enter Try.func4, Try.ntmps4
  go_wp2_with fail
  refine (HC.out _ HB0.out.bl).mono ?_
  rintro e w1 ⟨rfl, hb1⟩
  have HB1 := hideS (HB0.out.step hb1)
  clear hb1 HB0 HC
  have t1 := HB1.out.t1
  have t2 := HB1.out.t2
  go_wp2_with fail
  clear d1 d2 d3 t1 t2
  go_loopw [3, 4, 5, 6, 7] (fun i _ _ _ _ wr => ∃ k : Nat, k ≤ n ∧ i = .int .i64 k ∧ Hid (TBox w kind (.slice (some ⟨bx, ox, none⟩) n cx) (.slice (some ⟨b2, oy, none⟩) n cy) wr)) (fun i _ _ _ _ _ => n - (intOf i).toNat)
  case atStart => exact ⟨0, Nat.zero_le _, rfl, HB1⟩
  case round =>
    clear HB1
    obtain ⟨k, hk, rfl, HB⟩ := hrel
    have t0 := HB.out.t0
    have t1 := HB.out.t1
    have t2 := HB.out.t2
    by_cases hlt : k < n
    · have g3 : (0 : Int) ≤ (k : Int) := by omega
      have g4 : (k : Int) < (n : Int) := by omega
      have HX' := hideS fun wx hb => HX.out wx hb k hlt
      have HA' := hideS fun wx hb => HA.out wx hb k hlt
      have HF' := hideS fun wx hb => HF.out wx hb k hlt
      generalize xs.getD k 0 = xk at *
      generalize ys.getD k 0 = yk at *
      obtain ⟨c0, c1⟩ := HX'.out _ HB.out.bl
      have HBd : Hid (∀ m, TBox w kind (.slice (some ⟨bx, ox, none⟩) n cx) (.slice (some ⟨b2, oy, none⟩) n cy) (wr.drewN m)) := fun m => HB.out.drewN m
      go_wp2_with fail
      go_region_with ((go_at_call 13; refine (HA'.out _ (HBd.out _).bl).mono ?_; rintro e w2 ⟨rfl, hb2⟩; have HB2 := hideS ((HBd.out _).step hb2); clear hb2))
      all_goals
        clear t0 t1 t2 c0 c1
        have t0 := HB2.out.t0
        have t1 := HB2.out.t1
        have t2 := HB2.out.t2
        obtain ⟨c0, c1⟩ := HX'.out _ HB2.out.bl
        have HBe : Hid (∀ m, TBox w kind (.slice (some ⟨bx, ox, none⟩) n cx) (.slice (some ⟨b2, oy, none⟩) n cy) (w2.drewN m)) := fun m => HB2.out.drewN m
        go_wp2_with fail
        go_region_with ((go_at_call 11; refine (HF'.out _ (HBe.out _).bl).mono ?_; rintro e w3 ⟨rfl, hb3⟩; have HB3 := hideS ((HBe.out _).step hb3); clear hb3))
        all_goals
          clear t0 t1 t2 c0 c1
          have t2 := HB3.out.t2
          obtain ⟨c0, c1⟩ := HX'.out _ HB3.out.bl
          have z1 : ((k : Int) != (k : Int)) = false := by simp
          have z2 : ((yk : Int) != (yk : Int)) = false := by simp
          have HAb := hideS fun w => apiBits yk w
          have HBf : Hid (∀ m, TBox w kind (.slice (some ⟨bx, ox, none⟩) n cx) (.slice (some ⟨b2, oy, none⟩) n cy) (w3.drewN m)) := fun m => HB3.out.drewN m
          clear c0 HB2 HBe
          go_wp2_with fail
          go_quiet ((go_at_call 17; exact Calls.quiet_of_same (HAb.out _)))
          go_wp2_with fail
          go_roundw
          case rel => exact ⟨k + 1, by omega, by simp, HBf.out _⟩
          case measure => simp [intOf]; omega
    · obtain rfl : k = n := by omega
      clear HA HF
      have hkm := HE.out.2.2
      have c0 := (HX.out _ HB.out.bl 0 (by omega)).1
      have c9' : ∀ wx, Below w.heap.size w wx → wx.cell? ⟨bx, ox + m, none⟩ = some (.int .i64 x9) := fun wx hb => by rw [← HE.out.2.1]; exact (HX.out wx hb m (by omega)).1
      rw [HE.out.1, Nat.add_zero] at c0
      have HC9 := hideS c9'
      have hnm : IntKind.i64.wrap ((k : Int) - 1) = (m : Int) := by rw [IntKind.wrap_i64]; omega
      have g5 : (0 : Int) ≤ (m : Int) := by omega
      have g6 : (m : Int) < (k : Int) := by omega
      have h0n : 0 < k := by omega
      have e1 : IntKind.i64.wrap (x0 - 1) = x0 - 1 := by rw [IntKind.wrap_i64]; omega
      have e2 : IntKind.i64.wrap (x9 + 1) = x9 + 1 := by rw [IntKind.wrap_i64]; omega
      have HBd : Hid (∀ j, TBox w kind (.slice (some ⟨bx, ox, none⟩) k cx) (.slice (some ⟨b2, oy, none⟩) k cy) (wr.drewN j)) := fun j => HB.out.drewN j
      clear c9' hkm HE HX
      go_wp2_with fail
      go_region_with ((go_at_call 13; refine (HL.out _ (HBd.out _).bl).mono ?_; rintro e w2 ⟨rfl, hb2⟩; have HB2 := hideS ((HBd.out _).step hb2); clear hb2))
      all_goals
        clear t0 t1 t2 c0
        have t0 := HB2.out.t0
        have t1 := HB2.out.t1
        have t2 := HB2.out.t2
        have c9 := HC9.out _ HB2.out.bl
        have HBe : Hid (∀ j, TBox w kind (.slice (some ⟨bx, ox, none⟩) k cx) (.slice (some ⟨b2, oy, none⟩) k cy) (w2.drewN j)) := fun j => HB2.out.drewN j
        go_wp2_with fail
        go_region_with ((go_at_call 13; refine (HR.out _ (HBe.out _).bl).mono ?_; rintro e w3 ⟨rfl, hb3⟩; have HB3 := hideS ((HBe.out _).step hb3); clear hb3))
        all_goals
          clear t0 t1 t2 c9
          go_wp2_with fail
          refine (HW.out _).mono ?_
          rintro e w4 ⟨rfl, hb4⟩
          have HLz := hideS (HB3.out.step hb4).bl
          clear hb4
          go_wp2_with fail
          go_ret
          exact ⟨rfl, HLz.out⟩
/-- Find at a node is the node. -/
theorem find_node {kind : Int} {xs : List Int} {ys : List Nat} (ok : OkT kind xs ys) {k : Nat} (hk : k < xs.length) : FindO kind xs ys (xs.getD k 0) (k : Int) 0 ∧ FindR xs (xs.getD k 0) k := by
  have hr : FindR xs (xs.getD k 0) k := ⟨hk, Int.le_refl _, fun hl => ok.step hl⟩
  refine ⟨.at_ ok ?_ ?_ k hr (fun j hj => ⟨by omega, ?_⟩), hr⟩
  · by_cases h0 : k = 0
    · rw [h0]; exact Int.le_refl _
    · exact Int.le_of_lt (ok.rise (by omega) hk)
  · by_cases h9 : k = xs.length - 1
    · rw [h9]; exact Int.le_refl _
    · exact Int.le_of_lt (ok.rise (by omega) (by omega))
  · by_cases e : j + 1 = k
    · rw [e]; exact Int.le_refl _
    · exact Int.le_of_lt (ok.rise (by omega) hk)

theorem interpNodes_walk (kind : Int) (px py : Option Addr) (bx ox cx b2 oy cy : Nat) (xs : List Int) (ys : List Nat) (w : World) (hs : TFl w px py bx ox b2 oy xs ys) (_hxI : ∀ i < xs.length, TI64 (xs.getD i 0)) (_hx : xs.length ≤ 17592186043904) (_hy : ys.length ≤ 17592186043904) (_hlx : xs.length ≤ cx) (_hly : ys.length ≤ cy) :
    Calls Try.prog 4 #[.agg #[.int .i64 kind, .slice px xs.length cx, .slice py ys.length cy]] w fun e w' => e = .returned (.bool true) ∧ Below w.heap.size w w' := by
  obtain ⟨E, hT⟩ := tabR_ex kind xs ys
  by_cases hE : E = 0
  · subst hE
    have ok := tabR_ok hT
    have hyl := ok.len
    have hlo := ok.lo
    have hC : ∀ wx, Below w.heap.size w wx → _ := fun wx hb => intCheck_any kind 0 px py bx ox cx b2 oy cy xs ys wx hT (hs.below hb)
    have hA : ∀ x V E, AtO kind xs ys x V E → ∀ wx, Below w.heap.size w wx → _ := fun x V E h wx hb => intAt_any kind x E V px py bx ox cx b2 oy cy xs ys wx h (hs.below hb)
    have hF : ∀ x k E, FindO kind xs ys x k E → ∀ wx, Below w.heap.size w wx → _ := fun x k E h wx hb => intFind_any kind x k E px py bx ox cx b2 oy cy xs ys wx h (hs.below hb)
    have hX : ∀ wx, Below w.heap.size w wx → ∀ k, k < xs.length → wx.cell? ⟨bx, ox + k, none⟩ = some (.int .i64 (xs.getD k 0)) ∧ wx.cell? ⟨b2, oy + k, none⟩ = some (.float .f64 (ys.getD k 0)) := fun wx hb k hk => ⟨(hs.below hb).x.cell k hk, (hs.below hb).y.cell k (by omega)⟩
    obtain rfl := hs.x.at_ (by omega)
    obtain rfl := hs.y.at_ (by omega)
    rw [hyl] at hC hA hF ⊢
    have n0 := node_fine (ok.node 0 (by omega))
    have n9 := node_fine (ok.node (xs.length - 1) (by omega))
    exact interpNodes_go kind bx ox cx b2 oy cy xs.length (xs.length - 1) xs ys w (by omega) ok.hi _ _ rfl rfl n0.1 n9.2.1 n0.2.1 n9.1 hC hX (fun wx hb k hk => hA _ _ _ (.node k ok (find_node ok hk).1 (find_node ok hk).2 rfl) wx hb) (fun wx hb k hk => hF _ _ _ (find_node ok hk).1 wx hb)
      (fun wx hb => hA _ _ _ (.err 0 51 (.out ok (.inl (by omega))) (by decide)) wx hb) (fun wx hb => hA _ _ _ (.err 0 51 (.out ok (.inr (by omega))) (by decide)) wx hb) (fun wx => awake10 wx)
  · exact interpNodes_bad kind E _ _ w hE (fun wx hb => intCheck_any kind E px py bx ox cx b2 oy cy xs ys wx hT (hs.below hb)) (fun wx => awake10 wx)
end Go.Proofs.Ytnmjljijgmmakaa
