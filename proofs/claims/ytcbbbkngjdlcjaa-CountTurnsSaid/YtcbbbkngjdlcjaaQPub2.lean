/- The contracts of Adjust, Add and Count. -/
import Derived.Test.YtcbbbkngjdlcjaaHbh
namespace Go.Proofs.Ytcbbbkngjdlcjaa
open Go.RowKit

theorem adjO_0 (op : Int → Bool) (n : Int) : adjO op n 0 = some n := by unfold adjO; rw [if_pos rfl]
theorem adjO_1 (op : Int → Bool) (n : Int) : adjO op n 1 = srch op n 1 := by
  unfold adjO
  rw [if_neg (by decide), if_neg (fun a => by have := a.1; omega), show stepI 1 = 1 from rfl]
theorem adjO_2 (op : Int → Bool) (n : Int) : adjO op n 2 = srch op n (-1) := by
  unfold adjO
  rw [if_neg (by decide), if_neg (fun a => by have := a.1; omega), show stepI 2 = -1 from rfl]
theorem adjO_3 (op : Int → Bool) (n : Int) : adjO op n 3 = nomO op n 1 := by
  unfold adjO nomO
  rw [if_neg (by decide), show stepI 3 = 1 from rfl]
  by_cases h : ∀ x, srch op n 1 = some x → moI x ≠ moI n
  · rw [if_pos ⟨Or.inl rfl, h⟩, if_pos h]
  · rw [if_neg (fun a => h a.2), if_neg h]
theorem adjO_4 (op : Int → Bool) (n : Int) : adjO op n 4 = nomO op n (-1) := by
  unfold adjO nomO
  rw [if_neg (by decide), show stepI 4 = -1 from rfl]
  by_cases h : ∀ x, srch op n (-1) = some x → moI x ≠ moI n
  · rw [if_pos ⟨Or.inr rfl, h⟩, if_pos h]
  · rw [if_neg (fun a => h a.2), if_neg h]

theorem alm_ok1 (W n : Int) (p : Option Addr) (b off c : Nat) (rs : List Rul) (w : World) (h : OkC W rs) (hs : RSrc w p b off rs) (hn : isDayP n) (o : Obj) :
    Calls Try.prog 45 #[.agg #[.int .i64 W, .slice p rs.length c], .slice (some ⟨w.heap.size + 1, 0, none⟩) 1 1] ((w.alloc o).alloc (.cells #[.int .i64 n] 3)) fun e w' => ∃ A, e = .returned (.tuple #[.pointer (some ⟨A, 0, none⟩), .int .i64 0]) ∧ w.heap.size ≤ A ∧ AlmE A W p b off c rs w' ∧ Below w.heap.size w w' := by
  refine (almOf_ok W p _ b off c (w.heap.size + 1) 1 1 rs [n] _ h (hs.below (below2 w o _)) rfl (days_one w o n) (by omega) (one_day hn)).mono ?_
  rintro e w' ⟨A, he, hA, hE, hb⟩
  have := (below2 w o (.cells #[.int .i64 n] 3)).size
  exact ⟨A, he, Nat.le_trans this hA, hE, (below2 w o _).trans (hb.mono this)⟩

theorem alm_ok2 (W x y : Int) (p : Option Addr) (b off c : Nat) (rs : List Rul) (w : World) (h : OkC W rs) (hs : RSrc w p b off rs) (hx : isDayP x) (hy : isDayP y) (o : Obj) :
    Calls Try.prog 45 #[.agg #[.int .i64 W, .slice p rs.length c], .slice (some ⟨w.heap.size + 1, 0, none⟩) 2 2] ((w.alloc o).alloc (.cells #[.int .i64 x, .int .i64 y] 3)) fun e w' => ∃ A, e = .returned (.tuple #[.pointer (some ⟨A, 0, none⟩), .int .i64 0]) ∧ w.heap.size ≤ A ∧ AlmE A W p b off c rs w' ∧ Below w.heap.size w w' := by
  refine (almOf_ok W p _ b off c (w.heap.size + 1) 2 2 rs [x, y] _ h (hs.below (below2 w o _)) rfl (days_two w o x y) (by omega) (two_day hx hy)).mono ?_
  rintro e w' ⟨A, he, hA, hE, hb⟩
  have := (below2 w o (.cells #[.int .i64 x, .int .i64 y] 3)).size
  exact ⟨A, he, Nat.le_trans this hA, hE, (below2 w o _).trans (hb.mono this)⟩

set_option maxHeartbeats 800000 in
theorem cntP_up (W x y : Int) (p : Option Addr) (b off c : Nat) (rs : List Rul) (w : World) (h : OkC W rs) (hs : RSrc w p b off rs) (hx : isDayP x) (hy : isDayP y) (hxy : x ≤ y) :
    Calls Try.prog 27 #[.agg #[.int .i64 W, .slice p rs.length c], .int .i64 x, .int .i64 y] w fun e w' => e = .returned (.tuple #[.int .i64 (cntN (opB W rs) x (y - x).toNat : Nat), .int .i64 0]) ∧ Below w.heap.size w w' := by
  have HA := hideS (fun o => alm_ok2 W x y p b off c rs w h hs hx hy o)
  have HW : Hid (∀ A wx, AlmE A W p b off c rs wx → Calls Try.prog 46 #[.pointer (some ⟨A, 0, none⟩), .int .i64 x, .int .i64 y] wx fun e w' => e = .returned (.int .i64 (cntN (opB W rs) x (y - x).toNat : Nat)) ∧ AlmE A W p b off c rs w' ∧ Below A wx w') := fun A wx hE => count_any A _ _ x y wx (opH A W p b off c rs) hE hx hy hxy
  generalize ((cntN (opB W rs) x (y - x).toNat : Nat) : Int) = X at *
  generalize rs.length = N at *
  have hxy' : ¬ y < x := by omega
  clear h hs hx hy
  go_enter Try.func27, Try.ntmps27
  go_wp2_with (first | (go_at_call 45; refine (HA.out _).mono ?_; rintro e w1 ⟨A, rfl, hA, hE, hb1⟩) | (go_at_call 46; refine (HW.out _ _ hE).mono ?_; rintro e w2 ⟨rfl, _, hb2⟩))
  go_ret2
  exact ⟨rfl, hb1.trans (hb2.mono hA)⟩

set_option maxHeartbeats 800000 in
theorem cntP_down (W x y : Int) (p : Option Addr) (b off c : Nat) (rs : List Rul) (w : World) (h : OkC W rs) (hs : RSrc w p b off rs) (hx : isDayP x) (hy : isDayP y) (hxy : y < x) :
    Calls Try.prog 27 #[.agg #[.int .i64 W, .slice p rs.length c], .int .i64 x, .int .i64 y] w fun e w' => e = .returned (.tuple #[.int .i64 (-((cntN (opB W rs) y (x - y).toNat : Nat) : Int)), .int .i64 0]) ∧ Below w.heap.size w w' := by
  have HA := hideS (fun o => alm_ok2 W x y p b off c rs w h hs hx hy o)
  have HW : Hid (∀ A wx, AlmE A W p b off c rs wx → Calls Try.prog 46 #[.pointer (some ⟨A, 0, none⟩), .int .i64 y, .int .i64 x] wx fun e w' => e = .returned (.int .i64 (cntN (opB W rs) y (x - y).toNat : Nat)) ∧ AlmE A W p b off c rs w' ∧ Below A wx w') := fun A wx hE => count_any A _ _ y x wx (opH A W p b off c rs) hE hy hx (by omega)
  have hle := cnt_le (opB W rs) y (x - y).toNat
  have z0 : (0 : Int) ≤ (cntN (opB W rs) y (x - y).toNat : Nat) := by omega
  have z1 : ((cntN (opB W rs) y (x - y).toNat : Nat) : Int) ≤ 200000 := by have := hx.2; have := hy.1; omega
  generalize ((cntN (opB W rs) y (x - y).toNat : Nat) : Int) = X at *
  generalize rs.length = N at *
  clear h hs hx hy hle
  go_enter Try.func27, Try.ntmps27
  go_wp2_with (first | (go_at_call 45; refine (HA.out _).mono ?_; rintro e w1 ⟨A, rfl, hA, hE, hb1⟩) | (go_at_call 46; refine (HW.out _ _ hE).mono ?_; rintro e w2 ⟨rfl, _, hb2⟩))
  go_ret2
  exact ⟨rfl, hb1.trans (hb2.mono hA)⟩

set_option maxHeartbeats 800000 in
theorem cntP_bad (W x y : Int) (p : Option Addr) (b off c : Nat) (rs : List Rul) (A B E : Int) (w : World) (h : ChkR W rs A B) (hs : RSrc w p b off rs) (hl : rs.length ≤ 9223372036854775807) (hE : (A ≠ 0 ∧ E = A) ∨ (A = 0 ∧ ¬ (isDayP x ∧ isDayP y) ∧ E = 51)) :
    Calls Try.prog 27 #[.agg #[.int .i64 W, .slice p rs.length c], .int .i64 x, .int .i64 y] w fun e w' => e = .returned (.tuple #[.int .i64 0, .int .i64 E]) ∧ Below w.heap.size w w' := by
  have HA : Hid (∀ o, Calls Try.prog 45 #[.agg #[.int .i64 W, .slice p rs.length c], .slice (some ⟨w.heap.size + 1, 0, none⟩) 2 2] ((w.alloc o).alloc (.cells #[.int .i64 x, .int .i64 y] 3)) fun e w' => e = .returned (.tuple #[.pointer none, .int .i64 E]) ∧ Below w.heap.size w w') := fun o => by
    have hbad : A ≠ 0 ∨ ∃ j < 2, ¬ isDayP ([x, y].getD j 0) := by
      rcases hE with ⟨a, _⟩ | ⟨_, a, _⟩
      · exact Or.inl a
      · by_cases hx : isDayP x
        · exact Or.inr ⟨1, by omega, fun c => a ⟨hx, c⟩⟩
        · exact Or.inr ⟨0, by omega, hx⟩
    have hEE : (if A ≠ 0 then A else 51) = E := by
      rcases hE with ⟨a, e⟩ | ⟨a, _, e⟩
      · rw [if_pos a, e]
      · rw [if_neg (fun c => c a), e]
    have := almOf_bad W p _ b off c (w.heap.size + 1) 2 2 rs [x, y] A B _ h (hs.below (below2 w o _)) hl rfl (days_two w o x y) (by omega) hbad
    rw [hEE] at this
    exact this.mono fun e w' ⟨he, hb⟩ => ⟨he, (below2 w o _).trans (hb.mono (below2 w o (.cells #[.int .i64 x, .int .i64 y] 3)).size)⟩
  have hne : (E != 0) = true := by
    rcases hE with ⟨a, e⟩ | ⟨_, _, e⟩
    · rw [e]; exact bne_iff_ne.2 a
    · rw [e]; rfl
  generalize rs.length = N at *
  clear h hs hl hE
  go_enter Try.func27, Try.ntmps27
  go_wp2_with (go_at_call 45; refine (HA.out _).mono ?_; rintro e w1 ⟨rfl, hb1⟩)
  go_ret2
  exact ⟨rfl, hb1⟩
end Go.Proofs.Ytcbbbkngjdlcjaa
