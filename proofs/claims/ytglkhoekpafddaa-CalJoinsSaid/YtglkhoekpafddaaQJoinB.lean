/- The contract of Join where it refuses. -/
import Derived.Test.YtglkhoekpafddaaQJoinA
import Derived.Test.YtglkhoekpafddaaCRefN
namespace Go.Proofs.Ytglkhoekpafddaa
open Go.RowKit

/-- Join's boxes, and the row of its two calendars. -/
structure CBox4 (w : World) (W : Int) (v : Value) (W' : Int) (v' : Value) (wr : World) : Prop where
  box : CBox3 w W v W' v' wr
  s0 : wr.cell? ⟨w.heap.size + 1 + 1 + 1, 0, none⟩ = some (.int .i64 W)
  s1 : wr.cell? ⟨w.heap.size + 1 + 1 + 1, 1, none⟩ = some v
  s2 : wr.cell? ⟨w.heap.size + 1 + 1 + 1, 2, none⟩ = some (.int .i64 W')
  s3 : wr.cell? ⟨w.heap.size + 1 + 1 + 1, 3, none⟩ = some v'
  sz : w.heap.size + 4 ≤ wr.heap.size
theorem CBox4.step {w wr w' : World} {W W' : Int} {v v' : Value} (h : CBox4 w W v W' v' wr) (hb : Below wr.heap.size wr w') : CBox4 w W v W' v' w' := by
  have c : ∀ j, w'.cell? ⟨w.heap.size + 1 + 1 + 1, j, none⟩ = wr.cell? ⟨w.heap.size + 1 + 1 + 1, j, none⟩ := fun j => hb.cell (p := ⟨w.heap.size + 1 + 1 + 1, j, none⟩) (by have := h.sz; show w.heap.size + 1 + 1 + 1 < _; omega)
  exact ⟨h.box.step hb, (c 0).trans h.s0, (c 1).trans h.s1, (c 2).trans h.s2, (c 3).trans h.s3, Nat.le_trans h.sz hb.size⟩
theorem CBox4.first (w : World) (W : Int) (v : Value) (W' : Int) (v' : Value) : CBox4 w W v W' v' ((((w.alloc (.cells #[.int .i64 W, v] 24)).alloc (.cells #[.int .i64 W', v'] 24)).alloc (.cells #[.int .i64 0, .slice none 0 0] 24)).alloc (.cells #[.int .i64 W, v, .int .i64 W', v'] 24)) := by
  have h3 := (CBox3.first w W v W' v').step ((Below.refl _ _).alloc (Nat.le_refl _) (.cells #[.int .i64 W, v, .int .i64 W', v'] 24))
  have c : ∀ j, ((((w.alloc (.cells #[.int .i64 W, v] 24)).alloc (.cells #[.int .i64 W', v'] 24)).alloc (.cells #[.int .i64 0, .slice none 0 0] 24)).alloc (.cells #[.int .i64 W, v, .int .i64 W', v'] 24)).cell? ⟨w.heap.size + 1 + 1 + 1, j, none⟩ = (#[.int .i64 W, v, .int .i64 W', v'] : Array Value)[j]? := fun j => by
    have e := new_cell0 (((w.alloc (.cells #[.int .i64 W, v] 24)).alloc (.cells #[.int .i64 W', v'] 24)).alloc (.cells #[.int .i64 0, .slice none 0 0] 24)) #[.int .i64 W, v, .int .i64 W', v'] 24 j
    rw [show (((w.alloc (.cells #[.int .i64 W, v] 24)).alloc (.cells #[.int .i64 W', v'] 24)).alloc (.cells #[.int .i64 0, .slice none 0 0] 24)).heap.size = w.heap.size + 1 + 1 + 1 by simp] at e
    exact e
  exact ⟨h3, c 0, c 1, c 2, c 3, by simp⟩

/-- What the calendars' checks tell. -/
structure ChkH (w : World) (W W' : Int) (p p' : Option Addr) (c c' N N' : Nat) (EA BA EB BB : Int) : Prop where
  one : ∀ wx, Below w.heap.size w wx → Calls Try.prog 10 #[.agg #[.int .i64 W, .slice p N c]] wx fun e w' => e = .returned (.tuple #[.int .i64 EA, .int .i64 BA]) ∧ Below wx.heap.size wx w'
  two : ∀ wx, Below w.heap.size w wx → Calls Try.prog 10 #[.agg #[.int .i64 W', .slice p' N' c']] wx fun e w' => e = .returned (.tuple #[.int .i64 EB, .int .i64 BB]) ∧ Below wx.heap.size wx w'

set_option maxRecDepth 10000 in
set_option maxHeartbeats 3200000 in
theorem joinP_bad (W W' : Int) (p p' : Option Addr) (c c' N N' : Nat) (EA BA EB BB E : Int) (w : World) (H : Hid (ChkH w W W' p p' c c' N N' EA BA EB BB)) (hE : ((EA != 0) = true ∧ E = EA) ∨ (EA = 0 ∧ (EB != 0) = true ∧ E = EB)) :
    Calls Try.prog 17 #[.agg #[.int .i64 W, .slice p N c], .agg #[.int .i64 W', .slice p' N' c']] w fun e w' => e = .returned (.tuple #[.agg #[.int .i64 0, .slice none 0 0], .int .i64 E]) ∧ Below w.heap.size w w' := by
  have HB0 := hideS (CBox4.first w W (.slice p N c) W' (.slice p' N' c'))
  have HE := hideS hE
  clear hE
  go_enter Try.func17, Try.ntmps17
  go_wp2_with fail
  go_loopw [17] (fun i wr => ∃ (k : Nat), k ≤ 1 ∧ i = .int .i64 k ∧ Hid (k = 1 → EA = 0) ∧ Hid (CBox4 w W (.slice p N c) W' (.slice p' N' c') wr)) (fun i _ => 2 - (intOf i).toNat)
  case atStart => exact ⟨0, by omega, rfl, fun a => by omega, HB0⟩
  case round =>
    clear HB0
    obtain ⟨k, hk, rfl, HK, HB⟩ := hrel
    have s0 := HB.out.s0
    have s1 := HB.out.s1
    have s2 := HB.out.s2
    have s3 := HB.out.s3
    have HBa : Hid (∀ o, Below w.heap.size w (wr.alloc o)) := fun o => (HB.out.step ((Below.refl _ wr).alloc (Nat.le_refl _) o)).box.two.bl
    rcases (show k = 0 ∨ k = 1 by omega) with rfl | rfl
    · rcases HE.out with ⟨a, e⟩ | ⟨a, _, _⟩
      · have HEa := hideS e
        clear e
        go_wp2_with (go_at_call 10; refine (H.out.one _ (HBa.out _)).mono ?_; rintro e w2 ⟨rfl, hb2⟩; have HB2 := hideS (HB.out.step (((Below.refl _ wr).alloc (Nat.le_refl _) _).trans (hb2.mono (by simp)))); clear hb2; obtain ⟨_, d0, d1, f0, f1, _⟩ := HB2.out.box)
        obtain ⟨x0, x1⟩ := put2 (x := .int .i64 0) (y := .slice none 0 0) d0 d1
        obtain rfl := HEa.out
        exact bodyPost_ret (v := .tuple #[.agg #[.int .i64 0, .slice none 0 0], .int .i64 E]) (by simp [results, Try.results17, go_sem, x0, x1]) rfl ⟨rfl, put2_below HB2.out.box.two.bl⟩
      · subst a
        go_wp2_with (go_at_call 10; refine (H.out.one _ (HBa.out _)).mono ?_; rintro e w2 ⟨rfl, hb2⟩; have HB2 := hideS (HB.out.step (((Below.refl _ wr).alloc (Nat.le_refl _) _).trans (hb2.mono (by simp)))); clear hb2)
        go_roundw
        case rel => exact ⟨1, by omega, rfl, fun _ => by trivial, HB2⟩
        case measure => simp [intOf]
    · obtain ⟨a, e⟩ : (EB != 0) = true ∧ E = EB := by
        rcases HE.out with ⟨a, _⟩ | ⟨_, a⟩
        · rw [HK.out (by simp)] at a; exact absurd a (by decide)
        · exact a
      have HEa := hideS e
      clear e
      go_wp2_with (go_at_call 10; refine (H.out.two _ (HBa.out _)).mono ?_; rintro e w2 ⟨rfl, hb2⟩; have HB2 := hideS (HB.out.step (((Below.refl _ wr).alloc (Nat.le_refl _) _).trans (hb2.mono (by simp)))); clear hb2; obtain ⟨_, d0, d1, f0, f1, _⟩ := HB2.out.box)
      obtain ⟨x0, x1⟩ := put2 (x := .int .i64 0) (y := .slice none 0 0) d0 d1
      obtain rfl := HEa.out
      exact bodyPost_ret (v := .tuple #[.agg #[.int .i64 0, .slice none 0 0], .int .i64 E]) (by simp [results, Try.results17, go_sem, x0, x1]) rfl ⟨rfl, put2_below HB2.out.box.two.bl⟩
end Go.Proofs.Ytglkhoekpafddaa
