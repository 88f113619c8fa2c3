/- The contract of Join where both calendars may be. -/
import Derived.Test.YtglkhoekpafddaaQJoinB
namespace Go.Proofs.Ytglkhoekpafddaa
open Go.RowKit

/-- Both calendars may be: what Join has at hand. -/
structure JoinQ (w : World) (W W' : Int) (p p' : Option Addr) (c c' : Nat) (rs rs' : List Rul) (N N' : Nat) : Prop where
  chk : ∀ wx, Below w.heap.size w wx → Calls Try.prog 10 #[.agg #[.int .i64 W, .slice p N c]] wx fun e w' => e = .returned (.tuple #[.int .i64 0, .int .i64 0]) ∧ Below wx.heap.size wx w'
  chk' : ∀ wx, Below w.heap.size w wx → Calls Try.prog 10 #[.agg #[.int .i64 W', .slice p' N' c']] wx fun e w' => e = .returned (.tuple #[.int .i64 0, .int .i64 0]) ∧ Below wx.heap.size wx w'
  mov : ∀ wx, Below w.heap.size w wx → Calls Try.prog 37 #[.agg #[.int .i64 W, .slice p N c]] wx fun e w' => e = .returned (.bool (movesB rs)) ∧ Below wx.heap.size wx w'
  mov' : ∀ wx, Below w.heap.size w wx → Calls Try.prog 37 #[.agg #[.int .i64 W', .slice p' N' c']] wx fun e w' => e = .returned (.bool (movesB rs')) ∧ Below wx.heap.size wx w'
theorem joinQ_of (W W' : Int) (p p' : Option Addr) (b off c b' off' c' : Nat) (rs rs' : List Rul) (w : World) (h : OkC W rs) (h' : OkC W' rs') (hs : RSrc w p b off rs) (hs' : RSrc w p' b' off' rs') : JoinQ w W W' p p' c c' rs rs' rs.length rs'.length := by
  have l := h.len
  have l' := h'.len
  exact ⟨fun wx hb => check_any W p b off c rs 0 0 wx (.ok h) (hs.below hb) (by omega), fun wx hb => check_any W' p' b' off' c' rs' 0 0 wx (.ok h') (hs'.below hb) (by omega), fun wx hb => moves_any W p b off c rs wx (hs.below hb) (by omega), fun wx hb => moves_any W' p' b' off' c' rs' wx (hs'.below hb) (by omega)⟩

set_option maxRecDepth 10000 in
set_option maxHeartbeats 3200000 in
theorem joinP_mov (W W' : Int) (p p' : Option Addr) (c c' N N' : Nat) (rs rs' : List Rul) (w : World) (H : Hid (JoinQ w W W' p p' c c' rs rs' N N')) (hW : W ≠ W') (hm : movesB rs = true ∨ movesB rs' = true) :
    Calls Try.prog 17 #[.agg #[.int .i64 W, .slice p N c], .agg #[.int .i64 W', .slice p' N' c']] w fun e w' => e = .returned (.tuple #[.agg #[.int .i64 0, .slice none 0 0], .int .i64 60]) ∧ Below w.heap.size w w' := by
  have HB0 := hideS (CBox4.first w W (.slice p N c) W' (.slice p' N' c'))
  have HM := hideS H.out.mov
  have HM' := hideS H.out.mov'
  have hm' : movesB rs = true ∨ (movesB rs = false ∧ movesB rs' = true) := by
    rcases hm with a | a
    · exact Or.inl a
    · cases hb : movesB rs
      · exact Or.inr ⟨rfl, a⟩
      · exact Or.inl rfl
  clear hm
  have hW' : (W != W') = true := bne_iff_ne.2 hW
  clear hW
  rcases hm' with hm | ⟨hm, hm2⟩
  · rw [hm] at HM
    clear HM' hm
    go_enter Try.func17, Try.ntmps17
    go_wp2_with fail
    go_loopw [17] (fun i wr => ∃ (k : Nat), k ≤ 2 ∧ i = .int .i64 k ∧ Hid (CBox4 w W (.slice p N c) W' (.slice p' N' c') wr)) (fun i _ => 2 - (intOf i).toNat)
    case atStart => exact ⟨0, by omega, rfl, HB0⟩
    case round =>
      clear HB0
      obtain ⟨k, hk, rfl, HB⟩ := hrel
      have s0 := HB.out.s0
      have s1 := HB.out.s1
      have s2 := HB.out.s2
      have s3 := HB.out.s3
      have HBa : Hid (∀ o, Below w.heap.size w (wr.alloc o)) := fun o => (HB.out.step ((Below.refl _ wr).alloc (Nat.le_refl _) o)).box.two.bl
      rcases (show k = 0 ∨ k = 1 ∨ k = 2 by omega) with rfl | rfl | rfl
      · go_wp2_with (go_at_call 10; refine (H.out.chk _ (HBa.out _)).mono ?_; rintro e w2 ⟨rfl, hb2⟩; have HB2 := hideS (HB.out.step (((Below.refl _ wr).alloc (Nat.le_refl _) _).trans (hb2.mono (by simp)))); clear hb2)
        go_roundw
        case rel => exact ⟨1, by omega, rfl, HB2⟩
        case measure => simp [intOf]
      · go_wp2_with (go_at_call 10; refine (H.out.chk' _ (HBa.out _)).mono ?_; rintro e w2 ⟨rfl, hb2⟩; have HB2 := hideS (HB.out.step (((Below.refl _ wr).alloc (Nat.le_refl _) _).trans (hb2.mono (by simp)))); clear hb2)
        go_roundw
        case rel => exact ⟨2, by omega, rfl, HB2⟩
        case measure => simp [intOf]
      · have a0 := HB.out.box.two.a0
        have a1 := HB.out.box.two.a1
        have b0 := HB.out.box.two.b0
        have b1 := HB.out.box.two.b1
        go_wp2_with (go_at_call 37; refine (HM.out _ HB.out.box.two.bl).mono ?_; rintro e w2 ⟨rfl, hb2⟩; have HB2 := hideS (HB.out.step hb2); clear hb2; obtain ⟨_, d0, d1, f0, f1, _⟩ := HB2.out.box)
        obtain ⟨x0, x1⟩ := put2 (x := .int .i64 0) (y := .slice none 0 0) d0 d1
        exact bodyPost_ret (v := .tuple #[.agg #[.int .i64 0, .slice none 0 0], .int .i64 60]) (by simp [results, Try.results17, go_sem, x0, x1]) rfl ⟨rfl, put2_below HB2.out.box.two.bl⟩
  · rw [hm] at HM
    rw [hm2] at HM'
    clear hm hm2
    go_enter Try.func17, Try.ntmps17
    go_wp2_with fail
    go_loopw [17] (fun i wr => ∃ (k : Nat), k ≤ 2 ∧ i = .int .i64 k ∧ Hid (CBox4 w W (.slice p N c) W' (.slice p' N' c') wr)) (fun i _ => 2 - (intOf i).toNat)
    case atStart => exact ⟨0, by omega, rfl, HB0⟩
    case round =>
      clear HB0
      obtain ⟨k, hk, rfl, HB⟩ := hrel
      have s0 := HB.out.s0
      have s1 := HB.out.s1
      have s2 := HB.out.s2
      have s3 := HB.out.s3
      have HBa : Hid (∀ o, Below w.heap.size w (wr.alloc o)) := fun o => (HB.out.step ((Below.refl _ wr).alloc (Nat.le_refl _) o)).box.two.bl
      rcases (show k = 0 ∨ k = 1 ∨ k = 2 by omega) with rfl | rfl | rfl
      · go_wp2_with (go_at_call 10; refine (H.out.chk _ (HBa.out _)).mono ?_; rintro e w2 ⟨rfl, hb2⟩; have HB2 := hideS (HB.out.step (((Below.refl _ wr).alloc (Nat.le_refl _) _).trans (hb2.mono (by simp)))); clear hb2)
        go_roundw
        case rel => exact ⟨1, by omega, rfl, HB2⟩
        case measure => simp [intOf]
      · go_wp2_with (go_at_call 10; refine (H.out.chk' _ (HBa.out _)).mono ?_; rintro e w2 ⟨rfl, hb2⟩; have HB2 := hideS (HB.out.step (((Below.refl _ wr).alloc (Nat.le_refl _) _).trans (hb2.mono (by simp)))); clear hb2)
        go_roundw
        case rel => exact ⟨2, by omega, rfl, HB2⟩
        case measure => simp [intOf]
      · have a0 := HB.out.box.two.a0
        have a1 := HB.out.box.two.a1
        have b0 := HB.out.box.two.b0
        have b1 := HB.out.box.two.b1
        go_wp2_with fail
        refine (HM.out _ HB.out.box.two.bl).mono ?_
        rintro e w2 ⟨rfl, hb2⟩
        have HB2 := hideS (HB.out.step hb2)
        clear hb2 a0 a1 b0 b1 s0 s1 s2 s3
        have b0 := HB2.out.box.two.b0
        have b1 := HB2.out.box.two.b1
        go_wp2_with (go_at_call 37; refine (HM'.out _ HB2.out.box.two.bl).mono ?_; rintro e w3 ⟨rfl, hb3⟩; have HB3 := hideS (HB2.out.step hb3); clear hb3; obtain ⟨_, d0, d1, f0, f1, _⟩ := HB3.out.box)
        obtain ⟨x0, x1⟩ := put2 (x := .int .i64 0) (y := .slice none 0 0) d0 d1
        exact bodyPost_ret (v := .tuple #[.agg #[.int .i64 0, .slice none 0 0], .int .i64 60]) (by simp [results, Try.results17, go_sem, x0, x1]) rfl ⟨rfl, put2_below HB3.out.box.two.bl⟩
end Go.Proofs.Ytglkhoekpafddaa
