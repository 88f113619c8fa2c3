/- The contract of ShiftDown. The contracts of AddDigits, SubDigits, CmpDigits. -/
import Derived.Test.YtgpcebjcleljkaaGreatDoorShiftUp
import Derived.Deep.RegionHeld3
import Derived.Test.YtgpcebjcleljkaaGreatDoorHad
import Derived.Lib.MinMax
namespace Go.Proofs.YtgpcebjcleljkaaGreatDoor
open Go.RowKit

def Half (w : World) (b n M j : Nat) : Prop := w.rowIs b 33 n (fun i => .int .u64 ((if i < j then dgt M i else 0 : Nat) : Int))
theorem half_made (w : World) (n M : Nat) : Half (w.alloc (.cells (madeCells #[.int .u64 0] n) 33)) w.heap.size n M 0 :=
  (World.rowIs_made w (.int .u64 0) n 33).congr (fun i _ => by rw [if_neg (by omega)]; rfl)
theorem half_step {w : World} {b n M j : Nat} {x : Int} (h : Half w b n M j) (hx : x = (dgt M j : Int)) : Half (w.setCell ⟨b, j, none⟩ (.int .u64 x)) b n M (j + 1) := by
  refine (h.set j (.int .u64 x)).congr fun i _ => ?_
  by_cases c : i = j
  · rw [if_pos c, if_pos (by omega), hx, c]
  · rw [if_neg c]
    by_cases d : i < j
    · rw [if_pos d, if_pos (by omega)]
    · rw [if_neg d, if_neg (by omega)]
theorem half_end {w : World} {b n M : Nat} (h : Half w b n M n) : Own w b n M := h.congr (fun i hi => by rw [if_pos hi])

end Go.Proofs.YtgpcebjcleljkaaGreatDoor
namespace Go.Proofs.YtgpcebjcleljkaaGreatDoor
open Go.RowKit

theorem DN.form {w : World} {v : Value} {N : Nat} (h : DN w v N) : ∃ p c, v = .slice p (nd N) c := by
  rcases h with ⟨h0, p, c, rfl⟩ | ⟨h0, g, c, rfl, _⟩
  · exact ⟨p, c, by rw [h0]; rfl⟩
  · exact ⟨_, _, rfl⟩

set_option maxRecDepth 10000 in
set_option maxHeartbeats 800000 in
theorem addDigits_form (p q : Option Addr) (c d m n L A B : Nat) (w : World) (hA : Hid (DN w (.slice p m c) A)) (hB : Hid (DN w (.slice q n d) B)) (hL : max (m : Int) (n : Int) = (L : Int)) (hm : m ≤ 10000000) (hn : n ≤ 10000000) (hA2 : Hid (A < 2 ^ (32 * m))) (hB2 : Hid (B < 2 ^ (32 * n))) :
    Calls Tryz.prog 18 #[.slice p m c, .slice q n d] w fun e w' => ∃ v, e = .returned v ∧ DN w' v (A + B) ∧ From w.heap.size v ∧ Below w.heap.size w w' := by
  have hL1 : m ≤ L := by omega
  have hL2 : n ≤ L := by omega
  have hL3 : L ≤ 10000000 := by omega
  have hmk := fun w => run_make_row' (P := Tryz.prog) 30 33 (.int .u64 0) 8 Tryz.underlying30 info_u64 rfl .i64 .i64 (L + 1) (by omega) (by omega) w
  have ec : ((L + 1 : Nat) : Int) = (L : Int) + 1 := by omega
  rw [ec] at hmk
  clear ec
  have HO := hide (half_made w (L + 1) (A + B))
  go_enter Tryz.func18, Tryz.ntmps18
  go_wp2_with fail
  go_loopw [7, 8] (fun s i wr => ∃ k c : Nat, k ≤ L + 1 ∧ c ≤ 1 ∧ i = .int .i64 k ∧ s = .int .u64 c ∧ Hid (c = cry A B k) ∧ Hid (Half wr w.heap.size (L + 1) (A + B) k) ∧ Hid (Below w.heap.size w wr)) (fun _ i _ => L + 1 - (intOf i).toNat)
  case atStart => exact ⟨0, 0, Nat.zero_le _, Nat.zero_le _, rfl, rfl, (cry_zero A B).symm, HO, (Below.refl _ _).alloc (Nat.le_refl _) _⟩
  case round =>
    clear HO hmk
    obtain ⟨k, x, hk, hx, rfl, rfl, HC, HH, HB⟩ := hrel
    by_cases hlt : k < L + 1
    · have H1 := hide (digit_any _ A k wr (hA.out.below HB.out))
      have H2 := hide (digit_any _ B k wr (hB.out.below HB.out))
      have b1 := dgt_lt A k
      have b2 := dgt_lt B k
      have h1 := HH.out.cell (i := k) (by omega)
      have f1 := HH.out.frozen k
      have HS := hide fun a b (ha : a = dgt A k) (hb : b = dgt B k) => add_round (s := a + b + x) ha hb HC.out rfl
      generalize hD : dgt A k = a at H1 b1
      generalize hE : dgt B k = b at H2 b2
      have HS := hide (HS.out a b hD.symm hE.symm)
      clear hD hE
      go_wp2_with fail
      refine H1.out.mono ?_
      rintro e w' ⟨rfl, rfl⟩
      go_wp2_with fail
      refine H2.out.mono ?_
      rintro e w' ⟨rfl, rfl⟩
      go_wp2_with fail
      go_roundw
      case rel => exact ⟨k + 1, (a + b + x) / 4294967296, by omega, by omega, by go_num, by go_num, HS.out.2, half_step HH.out (by rw [← HS.out.1]; omega), HB.out.setCell (Nat.le_refl _) _⟩
      case measure => simp [intOf]; omega
    · obtain rfl : k = L + 1 := by omega
      have HO2 := hide (half_end HH.out)
      have hM : Hid (A + B < 2 ^ (32 * (L + 1))) := sum_lt hA2.out hB2.out (by omega) (by omega)
      have hlt2 := HO2.out.lt
      have HD := hide (dn_mk HO2.out.row hM.out (Nat.le_refl _) hlt2)
      go_wp2_with fail
      refine (trim_row _ _ _ _ _ HO2.out.row hM.out (Nat.le_refl _) (by omega)).mono ?_
      rintro e w' ⟨rfl, rfl⟩
      go_wp2_with fail
      go_ret
      exact ⟨_, rfl, HD.out, from_at _ _ _ _ (Nat.le_refl _), HB.out⟩

theorem addDigits_any (u v : Value) (A B : Nat) (w : World) (hA : DN w u A) (hB : DN w v B) (ha : nd A ≤ 10000000) (hb : nd B ≤ 10000000) :
    Calls Tryz.prog 18 #[u, v] w fun e w' => ∃ v, e = .returned v ∧ DN w' v (A + B) ∧ From w.heap.size v ∧ Below w.heap.size w w' := by
  obtain ⟨p, c, rfl⟩ := hA.form
  obtain ⟨q, d, rfl⟩ := hB.form
  exact addDigits_form p q c d (nd A) (nd B) (max (nd A) (nd B)) A B w hA hB (by omega) ha hb (nd_lt A) (nd_lt B)

end Go.Proofs.YtgpcebjcleljkaaGreatDoor
